/- Texts that are joined: Dunits, Dcoll, Dall. -/
import Derived.Shelf.Abstract
import Derived.Shelf.RegionOpen
import Derived.WalkKit
import Derived.OwnWalkIn
import Derived.TacticsInMore
import Derived.LoopNIn
import Derived.LoopIn
import Derived.Test.YtoilomigceijaaaGreatDoorQrJC
import Derived.Test.YtoilomigceijaaaGreatDoorQrFtab
import Derived.Test.YtoilomigceijaaaGreatDoorQrJD
import Derived.Maps.AppendAt
import Derived.Maps.OwnIn
import Derived.Test.YtoilomigceijaaaGreatDoorProg
import Derived.Test.YtoilomigceijaaaGreatDoorQrJK
import Derived.Test.YtoilomigceijaaaGreatDoorQrDcode
set_option linter.unusedSimpArgs false
set_option linter.unusedVariables false
namespace Go.Proofs.YtoilomigceijaaaGreatDoor.Dp
open Go.RowKit Go.Shelf Bn Bx Cp Am Fp Cm Em Rk Ui
attribute [local go_sem] Oper.semAt_some

set_option maxRecDepth 100000 in
set_option maxHeartbeats 4000000 in
theorem units1_in (c:CalZ)(L y0 i0 y n:Int)(N:Nat)(way:UWay c L y0 i0 y n N)(bc b1 b2:Nat)(w0 w:World)(hw:Below w0.heap.size w0 w)(C0:CalIn w0 bc c)(F1:Tri w0 b1 (.int .i64 L) (.int .i64 y0) (.int .i64 i0))(F2:Tri w0 b2 (.int .i64 L) (.int .i64 y) (.int .i64 n))
  (T0:FTab w0) (m:Nat) (hm1:1≤m) (cd:∀ z,Served c z→∀ w,FTab w→Calls Tryz.prog 103 #[.agg #[.string c.nm,.int .i64 c.k,.int .i64 c.d,.int .i64 c.m,.int .i64 c.s,.int .i64 c.sh,.int .i64 c.p0,.int .i64 c.p1,.int .i64 c.p2,.int .i64 c.cy,.int .i64 c.ex,.int .i64 c.fi,.int .i64 c.la,.int .i64 c.po],.int .i64 L,.int .i64 z] w fun e w'=>e= .returned (.int .i64 (ucount c z L))∧Below w.heap.size w w') :
  SeqU Fence.wide m Tryz.prog 106 #[.pointer (some ⟨b1,0,none⟩),.pointer (some ⟨b2,0,none⟩),.pointer (some ⟨bc,0,none⟩)] (fun u:U3=>#[uval u]) w0.heap.size (ulist c L (y0,i0) (N+1)) w:=by
 intro l J W hW bear hY h0
 have B0:Below w0.heap.size w0 W:=hw.trans (hW.mono hw.size)
 refine callsIn_of_wp Tryz.func106 rfl trivial ?_ rfl
 simp only [Tryz.ntmps106,List.size_toArray,List.length_cons,List.length_nil,Nat.reduceAdd,Nat.reduceSub,Array.replicate_succ,Array.replicate_zero,List.push_toArray,List.append_toArray,List.nil_append,List.cons_append]
 have T:=T0.kept B0
 have C:=C0.kept B0
 obtain ⟨_,u0,u1,u2,fu0,fu1,fu2⟩:=F1.kept B0
 gi_wp2
 have V:=Tri.new W (.int .i64 L) (.int .i64 y0) (.int .i64 i0) 46
 have hJ1:=bear.track _ _ _ (.cells #[.int .i64 L,.int .i64 y0,.int .i64 i0] 46) h0
 have B1:=balloc B0 (.cells #[.int .i64 L,.int .i64 y0,.int .i64 i0] 46)
 have sz:=B0.size
 gi_loopw [5,6] (fun p q wr=>∃ (b k:Nat) (fs:List Nat) (z i:Int),p= .pointer (some ⟨b,0,none⟩)∧b ∈ fs∧w0.heap.size≤b∧Tri wr b (.int .i64 L) (.int .i64 z) (.int .i64 i)∧J (ulist c L (y0,i0) k) fs wr∧Below w0.heap.size w0 wr∧(StandU c L y0 i0 y n N z i k∨(z=y+1∧k=N+1)))
  (fun p _ wr=>(y+1 - cellI wr (blkOf p) 1).toNat)
 case atStart=>exact ⟨W.heap.size,0,_,y0,i0,rfl,List.mem_cons_self ..,sz,V,hJ1,B1,.inl (stand_start way)⟩
 case round =>
  obtain ⟨b,k,fs,z,i,rfl,hb,b0,V,hJ,B,O⟩:=hrel
  have F2r:=F2.kept B
  obtain ⟨_,v0,v1,v2,fv0,fv1,fv2⟩:=id V
  obtain ⟨_,l0,l1,l2,_,_,_⟩:=id F2r
  rcases O with S|⟨rfl,rfl⟩
  ·obtain ⟨hz0,hz1,hi1,_⟩:=id S
   have M:=way.many hz0 hz1
   have st:=served_told way.u.1 M.2.2.2
   have sy:=served_told way.u.1 way.v.2.2.1
   have n60:1≤n∧n≤60:=by
    have h1:=way.v.2.2.2.1
    have h2:=way.v.2.2.2.2
    have:=(ucount_bd (L:=L) (y:=y) way.u.1.1 (by omega) (by omega)).2
    omega
   obtain ⟨mz,hmz⟩:∃ mz,mz=manyU c L y n z:=⟨_,rfl⟩
   have lt:(z<y∧mz=ucount c z L)∨(z=y∧mz=n):=by
    rw [hmz];unfold manyU
    by_cases q:z<y
    ·exact .inl ⟨q,if_pos q⟩
    ·exact .inr ⟨by omega,if_neg q⟩
   have Cr:=C0.kept B
   have Tr:=T0.kept B
   obtain ⟨_,c0,c1,c2,c3,c4,c5,c6,c7,c8,c9,c10,c11,c12,c13⟩:=id Cr
   have V0:=V
   rcases lt with ⟨lt,em⟩|⟨lt,em⟩
   ·gi_wp2_with fail
    refine ⟨trivial,(callsIn_wide.2 (cd z M.2.2.2 _ Tr)).mono ?_⟩
    rintro e w1 ⟨rfl,hb1⟩
    rw [← em]
    have Vw:=V.kept hb1
    have Jw:=bear.grow _ _ _ _ hJ (grow_below hb1)
    have Bw:=bthen B hb1
    have F2w:=F2.kept Bw
    clear v0 v1 v2 fv0 fv1 fv2 l0 l1 l2 c0 c1 c2 c3 c4 c5 c6 c7 c8 c9 c10 c11 c12 c13
    obtain ⟨_,l0,l1,l2,_,_,_⟩:=id F2w
    clear V hJ B
    have V:=Vw
    have hJ:=Jw
    have B:=Bw
    obtain ⟨_,v0,v1,v2,fv0,fv1,fv2⟩:=id V
    gi_wp2
    gi_loopw [] (fun wr'=>∃ (k:Nat) (fs:List Nat) (i:Int),b ∈ fs∧Tri wr' b (.int .i64 L) (.int .i64 z) (.int .i64 i)∧J (ulist c L (y0,i0) k) fs wr'∧Below w0.heap.size w0 wr'∧StandU c L y0 i0 y n N z i k) (fun wr'=>(62 - cellI wr' b 2).toNat)
    case atStart=>exact ⟨k,fs,i,hb,V,hJ,B,S⟩
    case round =>
     obtain ⟨k,fs,i,hb,V,hJ,B,S⟩:=hrel
     obtain ⟨_,v0,v1,v2,fv0,fv1,fv2⟩:=id V
     obtain ⟨_,_,hi1,O⟩:=id S
     have i60:i≤mz+1:=by
      rw [← hmz] at O
      rcases O with ⟨q,_⟩|⟨q,_⟩|⟨q1,q2,_⟩<;>omega
     clear O
     by_cases le:i≤mz
     ·obtain ⟨kN,at_,S2⟩:=stand_step way S (by rw [← hmz];exact le)
      obtain ⟨fn,tmps,assign,body,hy,hR⟩:=hY _ fs (L,z,i) wr hJ (by rw [ulist_len,ulist_len];omega)
      simp only [uval] at hy
      gi_wp2
      refine hR.mono ?_
      rintro e W3 ⟨rfl,hJ3,hk3,hb3⟩
      have V3:=tri_heap V (hk3 b hb)
      have B3:=B.trans hb3
      have u':ulist c L (y0,i0) (k+1)=ulist c L (y0,i0) k++[(L,z,i)]:=by simp [ulist,at_]
      rw [← u'] at hJ3
      clear v0 v1 v2 fv0 fv1 fv2
      have c2':=V3.c2
      obtain ⟨_,v0,v1,v2,fv0,fv1,fv2⟩:=id V3
      gi_wp2
      go_roundw
      case rel=>exact ⟨k+1,fs,i+1,hb,V3.set2 _,bear.store _ _ _ _ b hJ3 hb (grow_set _ _ _ _),B3.setCell (p:=⟨b,2,none⟩) b0 _,S2⟩
      case measure =>
       rw [cellI_is (V3.set2 (.int .i64 (i+1))).c2,cellI_is V.c2]
       omega
     ·have out:=stand_out way S (by rw [← hmz];omega)
      gi_wp2
      obtain ⟨Wn,hWn⟩:∃ Wn,wr.alloc (.cells #[.int .i64 L,.int .i64 (z+1),.int .i64 1] 46)=Wn:=⟨_,rfl⟩
      have Vn:Tri Wn wr.heap.size (.int .i64 L) (.int .i64 (z+1)) (.int .i64 1):=by rw [← hWn];exact Tri.new _ _ _ _ _
      have Jn:J (ulist c L (y0,i0) k) (wr.heap.size :: fs) Wn:=by rw [← hWn];exact bear.track _ _ _ _ hJ
      have Bn:Below w0.heap.size w0 Wn:=by rw [← hWn];exact balloc B _
      have zn:=B.size
      rw [hWn]
      go_roundw
      case rel=>exact ⟨wr.heap.size,k,wr.heap.size :: fs,z+1,1,rfl,List.mem_cons_self ..,zn,Vn,Jn,Bn,out.imp (fun h=>h.2) (fun h=>⟨by omega,h.2⟩)⟩
      case measure =>
       unfold blkOf
       rw [cellI_is Vn.c1,cellI_is V0.c1]
       omega
   ·have nlt:¬ z<y:=by omega
    rw [em] at hmz
    have HM:=Lib.hid hmz
    clear lt em hmz
    gi_wp2
    gi_loopw [] (fun wr'=>∃ (k:Nat) (fs:List Nat) (i:Int),b ∈ fs∧Tri wr' b (.int .i64 L) (.int .i64 z) (.int .i64 i)∧J (ulist c L (y0,i0) k) fs wr'∧Below w0.heap.size w0 wr'∧StandU c L y0 i0 y n N z i k) (fun wr'=>(62 - cellI wr' b 2).toNat)
    case atStart=>exact ⟨k,fs,i,hb,V,hJ,B,S⟩
    case round =>
     obtain ⟨k,fs,i,hb,V,hJ,B,S⟩:=hrel
     obtain ⟨_,v0,v1,v2,fv0,fv1,fv2⟩:=id V
     obtain ⟨_,_,hi1,O⟩:=id S
     have i60:i≤n+1:=by
      rw [← HM.out] at O
      rcases O with ⟨q,_⟩|⟨q,_⟩|⟨q1,q2,_⟩<;>omega
     clear O
     by_cases le:i≤n
     ·obtain ⟨kN,at_,S2⟩:=stand_step way S (by rw [← HM.out];exact le)
      obtain ⟨fn,tmps,assign,body,hy,hR⟩:=hY _ fs (L,z,i) wr hJ (by rw [ulist_len,ulist_len];omega)
      simp only [uval] at hy
      gi_wp2
      refine hR.mono ?_
      rintro e W3 ⟨rfl,hJ3,hk3,hb3⟩
      have V3:=tri_heap V (hk3 b hb)
      have B3:=B.trans hb3
      have u':ulist c L (y0,i0) (k+1)=ulist c L (y0,i0) k++[(L,z,i)]:=by simp [ulist,at_]
      rw [← u'] at hJ3
      clear v0 v1 v2 fv0 fv1 fv2
      have c2':=V3.c2
      obtain ⟨_,v0,v1,v2,fv0,fv1,fv2⟩:=id V3
      gi_wp2
      go_roundw
      case rel=>exact ⟨k+1,fs,i+1,hb,V3.set2 _,bear.store _ _ _ _ b hJ3 hb (grow_set _ _ _ _),B3.setCell (p:=⟨b,2,none⟩) b0 _,S2⟩
      case measure =>
       rw [cellI_is (V3.set2 (.int .i64 (i+1))).c2,cellI_is V.c2]
       omega
     ·have out:=stand_out way S (by rw [← HM.out];omega)
      gi_wp2
      obtain ⟨Wn,hWn⟩:∃ Wn,wr.alloc (.cells #[.int .i64 L,.int .i64 (z+1),.int .i64 1] 46)=Wn:=⟨_,rfl⟩
      have Vn:Tri Wn wr.heap.size (.int .i64 L) (.int .i64 (z+1)) (.int .i64 1):=by rw [← hWn];exact Tri.new _ _ _ _ _
      have Jn:J (ulist c L (y0,i0) k) (wr.heap.size :: fs) Wn:=by rw [← hWn];exact bear.track _ _ _ _ hJ
      have Bn:Below w0.heap.size w0 Wn:=by rw [← hWn];exact balloc B _
      have zn:=B.size
      rw [hWn]
      go_roundw
      case rel=>exact ⟨wr.heap.size,k,wr.heap.size :: fs,z+1,1,rfl,List.mem_cons_self ..,zn,Vn,Jn,Bn,out.imp (fun h=>h.2) (fun h=>⟨by omega,h.2⟩)⟩
      case measure =>
       unfold blkOf
       rw [cellI_is Vn.c1,cellI_is V0.c1]
       omega
  ·gi_wp2
   go_end0
   exact ⟨⟨_,rfl⟩,fs,hJ⟩

end Go.Proofs.YtoilomigceijaaaGreatDoor.Dp

namespace Go.Proofs.YtoilomigceijaaaGreatDoor.Dp
open Go.RowKit Go.Shelf Go.Maps Rk Ui
attribute [local go_sem] Oper.semAt_some

def Coll (w:World)(ss:List U3)(fs:List Nat)(W:World):Prop :=
 (∃ v,W.heap[w.heap.size]?=some (.cells #[v] 53 (0,0))∧W.ownsRow (w.heap.size+1) 46 3 v ss.length (ucells ss)∧(v= .slice none 0 0↔ss= [])∧∀ b,b ∈ fs→v.ownBlock≠some b)∧
 (∀ b,b ∈ fs→w.heap.size+1≤b∧b<W.heap.size)∧Below w.heap.size w W∧w.heap.size+1≤W.heap.size
theorem own_lt {W:World}{base x size k:Nat}{e:TypeId}{v:Value}{xs:List Value}(h:W.ownsRow base e size v k xs)(q:v.ownBlock=some x):base≤x∧∃ cur,W.heap[x]?=some (.cells cur e (0,0)):=by
 rcases h.2 with ⟨h1,_⟩|⟨g,cap,cur,hv,hb,hg,_⟩
 ·rw [h1] at q;cases q
 ·rw [hv] at q
  have:g=x:=by simpa [Value.ownBlock] using q
  subst this;exact ⟨hb,cur,hg⟩
theorem coll_step {w W W':World}{ss:List U3}{fs:List Nat}{row:Option Nat}(h:Coll w ss fs W)(g:W.grownBy W' row)(hr:∀ r,row=some r→w.heap.size+1≤r∧(r ∈ fs∨∃ o,W.heap[r]?=some o∧o.isCells=false)):Coll w ss fs W':=by
 obtain ⟨⟨v,hv,ho,hn,hf⟩,hfs,hb,hs⟩:=h
 have ne:some w.heap.size≠row:=fun e=>by have:=(hr _ e.symm).1;omega
 refine ⟨⟨v,(g.block _ (by omega) (fun e=>ne e)).trans hv,ho.kept g ?_,hn,hf⟩,fun b hb'=>⟨(hfs b hb').1,Nat.lt_of_lt_of_le (hfs b hb').2 g.size⟩,hb.grown g (by omega) (fun k e=>by have:=(hr _ e).1;omega),Nat.le_trans hs g.size⟩
 cases e:v.ownBlock with
 | none=>exact .inl rfl
 | some x =>
   refine .inr fun q=>?_
   obtain ⟨_,cur,hx⟩:=own_lt ho e
   rcases (hr x q.symm).2 with q|⟨o,ho',hc⟩
   ·exact hf x q e
   ·rw [hx] at ho';cases ho';cases hc
theorem coll_bears (w:World):Bears w.heap.size (Coll w) :=
 ⟨fun ss fs W h=>h.2.2.1.size,fun ss fs W b h hb=>(h.2.1 b hb).2,fun ss fs W W' h g=>coll_step h g (fun r e=>by cases e),fun ss fs W o h=>by
  have g:W.grownBy (W.alloc o) none:=World.grownBy_alloc _ _ _
  obtain ⟨⟨v,hv,ho,hn,hf⟩,hfs,hb,hs⟩:=coll_step h g (fun r e=>by cases e)
  have z:(W.alloc o).heap.size=W.heap.size+1:=by simp
  refine ⟨⟨v,hv,ho,hn,fun b hb=>?_⟩,fun b hb=>?_,hb,hs⟩
  ·rcases List.mem_cons.1 hb with rfl|hb
   ·intro e
    obtain ⟨⟨v',hv',ho',_⟩,_,_,hs'⟩:=h
    have e2:=(g.block w.heap.size (by omega) (by simp)).trans hv'
    rw [hv] at e2
    cases e2
    obtain ⟨_,cur,hx⟩:=own_lt ho' e
    have:=(Array.getElem?_eq_some_iff.1 hx).1
    omega
   ·exact hf b hb
  ·rcases List.mem_cons.1 hb with rfl|hb
   ·exact ⟨h.2.2.2,by omega⟩
   ·exact hfs b hb,
  fun ss fs W W' b h hb g=>coll_step h g (fun r e=>by cases e;exact ⟨(h.2.1 b hb).1,.inl hb⟩)⟩

theorem set_box {W:World}{B:Nat}{v:Value}{t:TypeId}(v':Value)(h:W.heap[B]?=some (.cells #[v] t (0,0))):(W.setCell ⟨B,0,none⟩ v').heap[B]?=some (.cells #[v'] t (0,0)):=by
 obtain ⟨hlt,hk⟩:=Array.getElem?_eq_some_iff.1 h
 show (W.heap.modify B _)[B]?=_
 rw [Array.getElem?_eq_getElem (by rw [Array.size_modify];exact hlt),Array.getElem_modify_self,hk]
 rfl
theorem underU:Tryz.prog.underlying 53=some (.slice 46):=by kernel_rfl
theorem infoU:(Tryz.prog.info? 46).map (fun i=>(i.zero,i.size,i.bytes))=some (some (.agg #[.int .i64 0,.int .i64 0,.int .i64 0]),3,24):=by kernel_rfl
theorem box1 {W:World}{B:Nat}{v:Value}{t:TypeId}(h:W.heap[B]?=some (.cells #[v] t (0,0))):W.cell? ⟨B,0,none⟩=some v∧W.frozen? ⟨B,0,none⟩=false:=by
 constructor<;>simp [World.cell?,World.frozen?,h]
theorem box3 {W:World}{B:Nat}{u v x:Value}{t:TypeId}(h:W.heap[B]?=some (.cells #[u,v,x] t (0,0))):W.cell? ⟨B,0,none⟩=some u∧W.cell? ⟨B,1,none⟩=some v∧W.cell? ⟨B,2,none⟩=some x:=by
 refine ⟨?_,?_,?_⟩<;>simp [World.cell?,h]

set_option maxRecDepth 100000 in
set_option maxHeartbeats 4000000 in
theorem appendSeq_in (xs:List U3)(hx:xs.length≤100000)(gf:Nat)(lb:Array Value)(eg:∀ args w,(callFunc gf args).run Tryz.prog w= .ok (.enter gf args) w)(n:Nat)(h1:1≤n)(w:World)
  (hseq:∀ w1,Below w.heap.size w w1→SeqU Fence.wide (n - 1) Tryz.prog gf lb (fun u:U3=>#[uval u]) w.heap.size xs w1) :
  CallsIn Fence.wide n Tryz.prog 105 #[.slice none 0 0,.func (.func gf) #[] lb] w fun e w'=>∃ v,e= .returned v∧w'.ownsRow (w.heap.size+1) 46 3 v xs.length (ucells xs)∧(v= .slice none 0 0↔xs= [])∧Below w.heap.size w w':=by
 obtain ⟨i0,hi,hz0,hz1,hz2⟩:=info_parts infoU
 refine callsIn_of_wp_marks Tryz.func105 rfl trivial ?_ rfl
 simp only [Tryz.ntmps105,List.size_toArray,List.length_cons,List.length_nil,Nat.reduceAdd,Nat.reduceSub,Array.replicate_succ,Array.replicate_zero,List.push_toArray,List.append_toArray,List.nil_append,List.cons_append]
 gi_wp2
 refine range_u rfl h1 (gf:=gf) (lb:=lb) rfl trivial eg (B:=w.heap.size) (by simp) (hseq _ ((Below.refl _ w).alloc (Nat.le_refl _) _)) (fun _=>rfl) (Coll w) (coll_bears w) (fun ss fs W W' l h hl ho g=>coll_step h g (fun r e=>by cases e;simp at hl;exact ⟨hl,.inr ho⟩)) ?h0
  (fun x a' W=>∃ b,W.heap[b]?=some (.cells #[.int .i64 x.1,.int .i64 x.2.1,.int .i64 x.2.2] 46 (0,0))∧a'= { tmps:=#[.slice none 0 0,.func (.func gf) #[] lb,.pointer (some ⟨w.heap.size,0,none⟩),undef,.slice none 0 0,.pointer (some ⟨b,0,none⟩),.func (.func gf) #[] lb,uval x,undef,undef,undef,undef,undef],defers:=[] })
  (fun x a' W W' l h ho g=>by
   obtain ⟨b,hb,e⟩:=h
   obtain ⟨o,ho,hc⟩:=ho
   exact ⟨b,other_kept g hb (fun q=>by subst q;rw [hb] at ho;cases ho;cases hc),e⟩) ?assign ?body ?done
 case h0 =>
  refine ⟨⟨.slice none 0 0,World.alloc_heap_new w _,World.ownsRow_nil _ _ _ _,⟨fun _=>rfl,fun _=>rfl⟩,fun b hb=>absurd hb (by simp)⟩,fun b hb=>absurd hb (by simp),(Below.refl _ w).alloc (Nat.le_refl _) _,by simp⟩
 case assign =>
  intro l pre fs x W K hI hlen hK
  simp only [uval]
  gi_wp2
  have g:W.grownBy (W.alloc (.cells #[.int .i64 x.1,.int .i64 x.2.1,.int .i64 x.2.2] 46)) none:=World.grownBy_alloc _ _ _
  exact hK _ _ g (coll_step hI g (fun r e=>by cases e)) ⟨W.heap.size,World.alloc_heap_new W _,rfl⟩
 case body =>
  rintro l pre fs x a' W hI ⟨b,hb,rfl⟩ hlen
  obtain ⟨⟨v,hv,ho,hn,hf⟩,hfs,hB,hs⟩:=hI
  obtain ⟨c0,f0⟩:=box1 hv
  obtain ⟨d0,d1,d2⟩:=box3 hb
  have sz:=hB.size
  simp only [uval]
  gi_wp2_with (first
   | (gi_at_builtin;refine wpListIn_append_own_at _ rfl _ _ 53 rfl (w.heap.size+1) 46 i0 (.agg #[.int .i64 0,.int .i64 0,.int .i64 0]) 3 24 underU hi hz0 hz1 hz2 rfl (by decide) _ pre.length (ucells pre) rfl (ho.alloc _) ⟨W.heap.size,0,none⟩ 1 1 [.int .i64 x.1,.int .i64 x.2.1,.int .i64 x.2.2] rfl rfl ?c1 ?c2 ?c3 ?c4 ?c5 ?m1))
  case c1 =>
   intro j u hj
   match j,hj with
   | 0,hj=>simp at hj;subst hj;simp [Addr.add,go_sem]
   | 1,hj=>simp at hj;subst hj;simp [Addr.add,go_sem]
   | 2,hj=>simp at hj;subst hj;simp [Addr.add,go_sem]
  case c2=>intro u hu;simp at hu;rcases hu with rfl|rfl|rfl<;>rfl
  case c3=>unfold maxLen;omega
  case c4=>omega
  case c5=>simp;omega
  case m1 =>
   intro v3 w3 hown3 hg3 hnil3 hat3
   obtain ⟨g3,cap3,rfl,_,_⟩:=hown3.form (by omega)
   have g2:W.grownBy (W.alloc (.cells #[.int .i64 x.1,.int .i64 x.2.1,.int .i64 x.2.2] 46)) none:=World.grownBy_alloc _ _ _
   have ob:∀ y,v.ownBlock=some y→w.heap.size+1≤y∧∃ cur,W.heap[y]?=some (.cells cur 46 (0,0)):=fun y e=>own_lt ho e
   have z2:(W.alloc (.cells #[.int .i64 x.1,.int .i64 x.2.1,.int .i64 x.2.2] 46)).heap.size=W.heap.size+1:=by simp
   have h3:∀ k,k<W.heap.size→some k≠v.ownBlock→w3.heap[k]?=W.heap[k]?:=fun k hk ne=>(hg3.block k (by omega) ne).trans (g2.block k hk (by simp))
   have ne0:some w.heap.size≠v.ownBlock:=fun e=>by have:=(ob _ e.symm).1;omega
   have hv3:=(h3 _ (by omega) ne0).trans hv
   obtain ⟨c3,f3⟩:=box1 hv3
   have z3:=hg3.size
   have y3:∀ y,(Value.slice (some ⟨g3,0,none⟩) (pre.length+1) cap3).ownBlock=some y→w.heap.size+1≤y:=fun y e=>(own_lt hown3 e).1
   gi_wp2
   obtain ⟨w4,hw4⟩:∃ w4,w3.setCell ⟨w.heap.size,0,none⟩ (.slice (some ⟨g3,0,none⟩) (pre.length+1) cap3)=w4:=⟨_,rfl⟩
   have g4:w3.grownBy w4 (some w.heap.size):=by rw [← hw4];exact grownBy_setCell' _ _ _
   have hv4:w4.heap[w.heap.size]?=some (.cells #[.slice (some ⟨g3,0,none⟩) (pre.length+1) cap3] 53 (0,0)):=by rw [← hw4];exact set_box _ hv3
   have hb3:Below w.heap.size W w3:=((Below.refl _ W).grown g2 (by omega) (fun k e=>by cases e)).grown hg3 (by omega) (fun k e=>by have:=(ob k e).1;omega)
   have hb4:Below w.heap.size W w4:=hb3.grown g4 (by omega) (fun k e=>by cases e;exact Nat.le_refl _)
   have z4:=g4.size
   have keep:∀ k,k<W.heap.size→some k≠v.ownBlock→k≠w.heap.size→w4.heap[k]?=W.heap[k]?:=fun k hk ne ne'=>(g4.block k (by omega) (fun e=>ne' (by cases e;rfl))).trans (h3 k hk ne)
   rw [hw4]
   refine ⟨⟨by omega,fun k o hk ho' hc=>?_⟩,⟨⟨_,hv4,?_,?_,fun b hb' e=>?_⟩,fun b hb'=>⟨(hfs b hb').1,by have:=(hfs b hb').2;omega⟩,hB.trans hb4,by omega⟩,fun b hb'=>?_,hb4⟩
   ·have kl:=(Array.getElem?_eq_some_iff.1 ho').1
    refine (keep k kl (fun e=>?_) (by omega)).trans ho'
    obtain ⟨_,cur,hx'⟩:=ob k e.symm
    rw [hx'] at ho';cases ho';cases hc
   ·rw [List.length_append,ucells_snoc]
    refine hown3.kept g4 ?_
    cases e:(Value.slice (some ⟨g3,0,none⟩) (pre.length+1) cap3).ownBlock with
    | none=>exact .inl rfl
    | some y=>exact .inr (fun q=>by have:=y3 y e;cases q;omega)
   ·constructor
    ·intro e;exact absurd e hnil3
    ·intro e;simp at e
   ·rcases hat3 with q|q
    ·rw [q] at e;exact hf b hb' e
    ·rw [q] at e;simp at e;have:=(hfs b hb').2;omega
   ·exact keep b (hfs b hb').2 (fun e=>hf b hb' e.symm) (by have:=(hfs b hb').1;omega)
 case done =>
  intro D fs W hD hI hK
  obtain ⟨⟨v,hv,ho,hn,hf⟩,hfs,hB,hs⟩:=hI
  obtain ⟨c0,f0⟩:=box1 hv
  gi_wp2
  refine ⟨by simp,.inl ⟨_,_,rfl,run_takeDeferred hK,?_⟩⟩
  have g:W.grownBy (W.putObj D (.deferred none)) (some D):=grownBy_putObj' _ _ _
  simp at hD
  obtain ⟨⟨v',hv',ho',hn',hf'⟩,_,hB',_⟩:=coll_step (fs:=fs) ⟨⟨v,hv,ho,hn,hf⟩,hfs,hB,hs⟩ g (fun r e=>by cases e;exact ⟨hD,.inr ⟨_,hK,rfl⟩⟩)
  have e:v'=v:=by
   have:=(g.block w.heap.size (by omega) (fun e=>by cases e;omega)).trans hv
   rw [hv'] at this
   cases this;rfl
  subst e
  exact ⟨_,results_tmp rfl _ _ _,v',rfl,ho',hn',hB'⟩

set_option maxRecDepth 100000 in
set_option maxHeartbeats 4000000 in
theorem collect_in (xs:List U3)(hx:xs.length≤100000)(gf:Nat)(lb:Array Value)(eg:∀ args w,(callFunc gf args).run Tryz.prog w= .ok (.enter gf args) w)(w:World)
  (hseq:∀ w1,Below w.heap.size w w1→SeqU Fence.wide 2 Tryz.prog gf lb (fun u:U3=>#[uval u]) w.heap.size xs w1) :
  CallsIn Fence.wide 4 Tryz.prog 54 #[.func (.func gf) #[] lb] w fun e w'=>∃ v,e= .returned v∧w'.ownsRow (w.heap.size+1) 46 3 v xs.length (ucells xs)∧(v= .slice none 0 0↔xs= [])∧Below w.heap.size w w':=by
 have h1:1≤4:=by omega
 refine callsIn_of_wp Tryz.func54 rfl trivial ?_ rfl
 simp only [Tryz.ntmps54,List.size_toArray,List.length_cons,List.length_nil,Nat.reduceAdd,Nat.reduceSub,Array.replicate_succ,Array.replicate_zero,List.push_toArray,List.append_toArray,List.nil_append,List.cons_append]
 gi_wp2_with fail
 refine ⟨trivial,(appendSeq_in xs hx gf lb eg 3 (by omega) _ hseq).mono ?_⟩
 rintro e w' ⟨v,rfl,ho,hn,hb⟩
 gi_wp2
 go_ret
 exact ⟨v,rfl,ho,hn,hb⟩

end Go.Proofs.YtoilomigceijaaaGreatDoor.Dp

namespace Go.Proofs.YtoilomigceijaaaGreatDoor.Dp
open Go.RowKit Bn Bx Cp Am Fp Ap Cm Em Ep Rk Hp Ip Jp Ui

set_option maxHeartbeats 4000000

set_option maxRecDepth 100000 in
theorem units_any (c:CalZ)(L y0 i0 y n:Int)(w:World) :
  Calls Tryz.prog 55 #[.agg #[.string c.nm,.int .i64 c.k,.int .i64 c.d,.int .i64 c.m,.int .i64 c.s,.int .i64 c.sh,.int .i64 c.p0,.int .i64 c.p1,.int .i64 c.p2,.int .i64 c.cy,.int .i64 c.ex,.int .i64 c.fi,.int .i64 c.la,.int .i64 c.po],.agg #[.int .i64 L,.int .i64 y0,.int .i64 i0],.agg #[.int .i64 L,.int .i64 y,.int .i64 n]] w fun e w'=>∃ bc b1 b2:Nat,
   e= .returned (.func (.func 106) #[] #[.pointer (some ⟨b1,0,none⟩),.pointer (some ⟨b2,0,none⟩),.pointer (some ⟨bc,0,none⟩)])∧CalIn w' bc c∧Tri w' b1 (.int .i64 L) (.int .i64 y0) (.int .i64 i0)∧Tri w' b2 (.int .i64 L) (.int .i64 y) (.int .i64 n)∧Below w.heap.size w w':=by
 have C:=CalIn.new w c 24
 have U:=Tri.new (w.alloc (.cells #[.string c.nm,.int .i64 c.k,.int .i64 c.d,.int .i64 c.m,.int .i64 c.s,.int .i64 c.sh,.int .i64 c.p0,.int .i64 c.p1,.int .i64 c.p2,.int .i64 c.cy,.int .i64 c.ex,.int .i64 c.fi,.int .i64 c.la,.int .i64 c.po] 24)) (.int .i64 L) (.int .i64 y0) (.int .i64 i0) 46
 have V:=Tri.new ((w.alloc (.cells #[.string c.nm,.int .i64 c.k,.int .i64 c.d,.int .i64 c.m,.int .i64 c.s,.int .i64 c.sh,.int .i64 c.p0,.int .i64 c.p1,.int .i64 c.p2,.int .i64 c.cy,.int .i64 c.ex,.int .i64 c.fi,.int .i64 c.la,.int .i64 c.po] 24)).alloc (.cells #[.int .i64 L,.int .i64 y0,.int .i64 i0] 46)) (.int .i64 L) (.int .i64 y) (.int .i64 n) 46
 have B:=balloc (balloc (balloc (Below.refl _ w) (.cells #[.string c.nm,.int .i64 c.k,.int .i64 c.d,.int .i64 c.m,.int .i64 c.s,.int .i64 c.sh,.int .i64 c.p0,.int .i64 c.p1,.int .i64 c.p2,.int .i64 c.cy,.int .i64 c.ex,.int .i64 c.fi,.int .i64 c.la,.int .i64 c.po] 24)) (.cells #[.int .i64 L,.int .i64 y0,.int .i64 i0] 46)) (.cells #[.int .i64 L,.int .i64 y,.int .i64 n] 46)
 replace C:=(C.alloc (.cells #[.int .i64 L,.int .i64 y0,.int .i64 i0] 46)).alloc (.cells #[.int .i64 L,.int .i64 y,.int .i64 n] 46)
 replace U:=U.alloc (.cells #[.int .i64 L,.int .i64 y,.int .i64 n] 46)
 rw [World.size_alloc] at U
 rw [World.size_alloc,World.size_alloc] at V
 go_enter Tryz.func55,Tryz.ntmps55
 go_wp2
 go_ret
 exact ⟨_,_,_,by first|rfl|simp,C,U,V,B⟩

theorem collect_any (c:CalZ)(L y0 i0 y n:Int)(N:Nat)(way:UWay c L y0 i0 y n N)(bc b1 b2:Nat)(w:World)(C:CalIn w bc c)(F1:Tri w b1 (.int .i64 L) (.int .i64 y0) (.int .i64 i0))(F2:Tri w b2 (.int .i64 L) (.int .i64 y) (.int .i64 n))
  (hm:c.nm.size≤maxLen) (T:FTab w) :
  Calls Tryz.prog 54 #[.func (.func 106) #[] #[.pointer (some ⟨b1,0,none⟩),.pointer (some ⟨b2,0,none⟩),.pointer (some ⟨bc,0,none⟩)]] w (RowOut w (ulist c L (y0,i0) (N+1))):=by
 have ly:=served_told way.u.1 way.u.2.2.1
 have ly2:=served_told way.v.1 way.v.2.2.1
 have nb:=(ucount_bd (L:=L) (y:=y) way.u.1.1 (by omega) (by omega)).2
 have n1:=way.v.2.2.2.2
 have i1:=way.u.2.2.2.1
 have ln:=way.len
 have yo:=way.u.1.2.2.1.2.2.2
 have s1:=way.u.2.2.1.1
 have s2:=way.v.2.2.1.2
 refine (callsIn_wide.1 (collect_in (ulist c L (y0,i0) (N+1)) (by rw [ulist_len];omega) _ _ (enters_of Tryz.func106 (by kernel_rfl) rfl) w (fun w1 hb=>units1_in c L y0 i0 y n N way bc b1 b2 w w1 hb C F1 F2 T 2 (by omega)
  (fun z s w T=>dcount_any c L z _ w way.u.1 way.u.2.1 s rfl hm T)))).mono ?_
 rintro e w' ⟨v,rfl,ho,hn,hb⟩
 obtain ⟨g,cap,rfl,hg,_⟩:=ho.form (by rw [ulist_len];omega)
 exact ⟨g,cap,rfl,Urow.of_owns ho (by rw [ulist_len];omega),by omega,hb,own_cap ho⟩

theorem till_of {c:CalZ}{L a b y0 i0 y n:Int}(Da:DayA c a L L y0 i0 0)(Db:DayA c b L L y n 0)(hab:a≤b):Till y n (y0,i0):=by
 obtain ⟨u,a0,a1,_,_⟩:=daya_to Da
 obtain ⟨v,b0,b1,_,_⟩:=daya_to Db
 have yu:=unit_year u a0 a1
 have yv:=unit_year v b0 b1
 unfold Till
 simp only
 by_cases q:y0<y
 ·exact .inl q
 by_cases q2:y0=y
 ·subst q2
  refine .inr ⟨rfl,?_⟩
  by_cases q3:i0≤n
  ·exact q3
  ·have:=uend_mono (y:=y0) (L:=L) u.1.1 (by omega) (by omega) u.2.1 (a:=n) (b:=i0 - 1) (by have:=v.2.2.2.1;omega) (by omega) (by have:=u.2.2.2.2;omega)
   omega
 ·have q4:y≤y0 - 1:=by omega
  by_cases q5:y=y0 - 1
  ·rw [← q5] at yu;omega
  ·have:=yend_lt (c:=c) u.1.1 (a:=y) (b:=y0 - 1) (by omega) (by omega) (by omega);omega

def MeetsA (c:CalZ)(L a b er:Int):Prop :=
 (¬ (CalOk c∧LevOk L)∧er=1)∨(CalOk c∧LevOk L∧b<a∧er=1)∨(CalOk c∧LevOk L∧a≤b∧er≠0∧DayA c a L 0 0 0 er)∨(CalOk c∧LevOk L∧a≤b∧er≠0∧(∃ y0 i0,DayA c a L L y0 i0 0)∧DayA c b L 0 0 0 er)

set_option maxRecDepth 100000 in
theorem Meets_ok (c:CalZ)(L a b y0 i0 y n:Int)(N:Nat)(w:World)(way:UWay c L y0 i0 y n N)(Da:DayA c a L L y0 i0 0)(Db:DayA c b L L y n 0)(hab:a≤b)(hm:c.nm.size≤maxLen)(T:FTab w) :
  Calls Tryz.prog 26 #[.agg #[.string c.nm,.int .i64 c.k,.int .i64 c.d,.int .i64 c.m,.int .i64 c.s,.int .i64 c.sh,.int .i64 c.p0,.int .i64 c.p1,.int .i64 c.p2,.int .i64 c.cy,.int .i64 c.ex,.int .i64 c.fi,.int .i64 c.la,.int .i64 c.po],.int .i64 L,.agg #[.int .i64 a,.int .i64 b]] w (UnitsTo w (ulist c L (y0,i0) (N+1))):=by
 have C:=CalIn.new w c 24
 have S:=Pr.Two.new (w.alloc (.cells #[.string c.nm,.int .i64 c.k,.int .i64 c.d,.int .i64 c.m,.int .i64 c.s,.int .i64 c.sh,.int .i64 c.p0,.int .i64 c.p1,.int .i64 c.p2,.int .i64 c.cy,.int .i64 c.ex,.int .i64 c.fi,.int .i64 c.la,.int .i64 c.po] 24)) (.int .i64 a) (.int .i64 b) 26
 rw [World.size_alloc] at S
 replace C:=C.alloc (.cells #[.int .i64 a,.int .i64 b] 26)
 have B:=balloc (balloc (Below.refl _ w) (.cells #[.string c.nm,.int .i64 c.k,.int .i64 c.d,.int .i64 c.m,.int .i64 c.s,.int .i64 c.sh,.int .i64 c.p0,.int .i64 c.p1,.int .i64 c.p2,.int .i64 c.cy,.int .i64 c.ex,.int .i64 c.fi,.int .i64 c.la,.int .i64 c.po] 24)) (.cells #[.int .i64 a,.int .i64 b] 26)
 replace T:=(T.alloc (.cells #[.string c.nm,.int .i64 c.k,.int .i64 c.d,.int .i64 c.m,.int .i64 c.s,.int .i64 c.sh,.int .i64 c.p0,.int .i64 c.p1,.int .i64 c.p2,.int .i64 c.cy,.int .i64 c.ex,.int .i64 c.fi,.int .i64 c.la,.int .i64 c.po] 24)).alloc (.cells #[.int .i64 a,.int .i64 b] 26)
 have ck:=fun w T=>fcheck_any c L 0 w (.inl ⟨way.u.1,way.u.2.1,rfl⟩) hm T
 have ca:=fun w T=>Day_any c a L L y0 i0 0 w Da hm T
 have cb:=fun w T=>Day_any c b L L y n 0 w Db hm T
 have col:=fun bc b1 b2 w C F1 F2 T=>collect_any c L y0 i0 y n N way bc b1 b2 w C F1 F2 hm T
 clear way Da Db
 go_enter Tryz.func26,Tryz.ntmps26
 go_upto_region 1 with fail
 generalize (w.alloc (.cells #[.string c.nm,.int .i64 c.k,.int .i64 c.d,.int .i64 c.m,.int .i64 c.s,.int .i64 c.sh,.int .i64 c.p0,.int .i64 c.p1,.int .i64 c.p2,.int .i64 c.cy,.int .i64 c.ex,.int .i64 c.fi,.int .i64 c.la,.int .i64 c.po] 24)).alloc (.cells #[.int .i64 a,.int .i64 b] 26)=W0 at *
 obtain ⟨_,c0,c1,c2,c3,c4,c5,c6,c7,c8,c9,c10,c11,c12,c13⟩:=id C
 obtain ⟨_,s0,s1,fs0,fs1⟩:=id S
 go_wp2_with fail
 refine (ck _ T).mono ?_
 rintro e w1 ⟨rfl,hb⟩
 replace C:=C.kept hb
 replace B:=bthen B hb
 replace T:=T.kept hb
 replace S:=S.kept hb
 clear hb c0 c1 c2 c3 c4 c5 c6 c7 c8 c9 c10 c11 c12 c13 s0 s1 fs0 fs1
 obtain ⟨_,c0,c1,c2,c3,c4,c5,c6,c7,c8,c9,c10,c11,c12,c13⟩:=id C
 obtain ⟨_,s0,s1,fs0,fs1⟩:=id S
 go_wp2_with fail
 refine (ca _ T).mono ?_
 rintro e w2 ⟨rfl,hb⟩
 replace C:=C.kept hb
 replace B:=bthen B hb
 replace T:=T.kept hb
 replace S:=S.kept hb
 clear hb c0 c1 c2 c3 c4 c5 c6 c7 c8 c9 c10 c11 c12 c13 s0 s1 fs0 fs1
 obtain ⟨_,c0,c1,c2,c3,c4,c5,c6,c7,c8,c9,c10,c11,c12,c13⟩:=id C
 obtain ⟨_,s0,s1,fs0,fs1⟩:=id S
 have U:=Bx.Tri.new w2 (.int .i64 L) (.int .i64 y0) (.int .i64 i0) 46
 replace C:=C.alloc (.cells #[.int .i64 L,.int .i64 y0,.int .i64 i0] 46)
 replace T:=T.alloc (.cells #[.int .i64 L,.int .i64 y0,.int .i64 i0] 46)
 replace S:=S.alloc (.cells #[.int .i64 L,.int .i64 y0,.int .i64 i0] 46)
 replace B:=balloc B (.cells #[.int .i64 L,.int .i64 y0,.int .i64 i0] 46)
 clear c0 c1 c2 c3 c4 c5 c6 c7 c8 c9 c10 c11 c12 c13 s0 s1 fs0 fs1
 obtain ⟨_,c0,c1,c2,c3,c4,c5,c6,c7,c8,c9,c10,c11,c12,c13⟩:=id C
 obtain ⟨_,s0,s1,fs0,fs1⟩:=id S
 obtain ⟨_,u0,u1,u2,fu0,fu1,fu2⟩:=id U
 go_wp2_with fail
 refine (cb _ T).mono ?_
 rintro e w3 ⟨rfl,hb⟩
 replace C:=C.kept hb
 replace B:=bthen B hb
 replace T:=T.kept hb
 replace S:=S.kept hb
 replace U:=U.kept hb
 clear hb c0 c1 c2 c3 c4 c5 c6 c7 c8 c9 c10 c11 c12 c13 s0 s1 fs0 fs1 u0 u1 u2 fu0 fu1 fu2
 obtain ⟨_,c0,c1,c2,c3,c4,c5,c6,c7,c8,c9,c10,c11,c12,c13⟩:=id C
 obtain ⟨_,s0,s1,fs0,fs1⟩:=id S
 obtain ⟨_,u0,u1,u2,fu0,fu1,fu2⟩:=id U
 have V:=Bx.Tri.new w3 (.int .i64 L) (.int .i64 y) (.int .i64 n) 46
 replace C:=C.alloc (.cells #[.int .i64 L,.int .i64 y,.int .i64 n] 46)
 replace T:=T.alloc (.cells #[.int .i64 L,.int .i64 y,.int .i64 n] 46)
 replace S:=S.alloc (.cells #[.int .i64 L,.int .i64 y,.int .i64 n] 46)
 replace U:=U.alloc (.cells #[.int .i64 L,.int .i64 y,.int .i64 n] 46)
 replace B:=balloc B (.cells #[.int .i64 L,.int .i64 y,.int .i64 n] 46)
 clear c0 c1 c2 c3 c4 c5 c6 c7 c8 c9 c10 c11 c12 c13 s0 s1 fs0 fs1 u0 u1 u2 fu0 fu1 fu2
 obtain ⟨_,c0,c1,c2,c3,c4,c5,c6,c7,c8,c9,c10,c11,c12,c13⟩:=id C
 obtain ⟨_,s0,s1,fs0,fs1⟩:=id S
 obtain ⟨_,u0,u1,u2,fu0,fu1,fu2⟩:=id U
 obtain ⟨_,v0,v1,v2,fv0,fv1,fv2⟩:=id V
 go_wp2_with fail
 refine (units_any c L y0 i0 y n _).mono ?_
 rintro e w5 ⟨bc,b1,b2,rfl,C5,U5,V5,hb⟩
 replace B:=bthen B hb
 replace T:=T.kept hb
 go_wp2_with fail
 refine (col bc b1 b2 _ C5 U5 V5 T).mono ?_
 rintro e w6 ⟨g,cap,rfl,R,hg,hb6,hcap⟩
 have sz:=B.size
 replace B:=bthen B hb6
 go_wp2
 go_ret2
 exact ⟨g,cap,by simp,R,by omega,B,hcap⟩

set_option maxRecDepth 100000 in
theorem Meets_er (c:CalZ)(L a b er:Int)(w:World)(R:MeetsA c L a b er)(hm:c.nm.size≤maxLen)(T:FTab w) :
  Calls Tryz.prog 26 #[.agg #[.string c.nm,.int .i64 c.k,.int .i64 c.d,.int .i64 c.m,.int .i64 c.s,.int .i64 c.sh,.int .i64 c.p0,.int .i64 c.p1,.int .i64 c.p2,.int .i64 c.cy,.int .i64 c.ex,.int .i64 c.fi,.int .i64 c.la,.int .i64 c.po],.int .i64 L,.agg #[.int .i64 a,.int .i64 b]] w fun e w'=>e= .returned (.tuple #[.slice none 0 0,.int .i64 er])∧Below w.heap.size w w':=by
 have C:=CalIn.new w c 24
 have S:=Pr.Two.new (w.alloc (.cells #[.string c.nm,.int .i64 c.k,.int .i64 c.d,.int .i64 c.m,.int .i64 c.s,.int .i64 c.sh,.int .i64 c.p0,.int .i64 c.p1,.int .i64 c.p2,.int .i64 c.cy,.int .i64 c.ex,.int .i64 c.fi,.int .i64 c.la,.int .i64 c.po] 24)) (.int .i64 a) (.int .i64 b) 26
 rw [World.size_alloc] at S
 replace C:=C.alloc (.cells #[.int .i64 a,.int .i64 b] 26)
 have B:=balloc (balloc (Below.refl _ w) (.cells #[.string c.nm,.int .i64 c.k,.int .i64 c.d,.int .i64 c.m,.int .i64 c.s,.int .i64 c.sh,.int .i64 c.p0,.int .i64 c.p1,.int .i64 c.p2,.int .i64 c.cy,.int .i64 c.ex,.int .i64 c.fi,.int .i64 c.la,.int .i64 c.po] 24)) (.cells #[.int .i64 a,.int .i64 b] 26)
 replace T:=(T.alloc (.cells #[.string c.nm,.int .i64 c.k,.int .i64 c.d,.int .i64 c.m,.int .i64 c.s,.int .i64 c.sh,.int .i64 c.p0,.int .i64 c.p1,.int .i64 c.p2,.int .i64 c.cy,.int .i64 c.ex,.int .i64 c.fi,.int .i64 c.la,.int .i64 c.po] 24)).alloc (.cells #[.int .i64 a,.int .i64 b] 26)
 rcases R with ⟨no,rfl⟩|⟨ok,l,lt,rfl⟩|⟨ok,l,le,ne,Da⟩|⟨ok,l,le,ne,⟨y0,i0,Da⟩,Db⟩
 ·have ck:=fun w T=>fcheck_any c L 1 w (by
   by_cases ok:CalOk c
   ·exact .inr (.inl ⟨ok,fun l=>no ⟨ok,l⟩,rfl⟩)
   ·exact .inr (.inr ⟨ok,rfl⟩)) hm T
  clear no
  go_enter Tryz.func26,Tryz.ntmps26
  go_upto_region 1 with fail
  generalize (w.alloc (.cells #[.string c.nm,.int .i64 c.k,.int .i64 c.d,.int .i64 c.m,.int .i64 c.s,.int .i64 c.sh,.int .i64 c.p0,.int .i64 c.p1,.int .i64 c.p2,.int .i64 c.cy,.int .i64 c.ex,.int .i64 c.fi,.int .i64 c.la,.int .i64 c.po] 24)).alloc (.cells #[.int .i64 a,.int .i64 b] 26)=W0 at *
  obtain ⟨_,c0,c1,c2,c3,c4,c5,c6,c7,c8,c9,c10,c11,c12,c13⟩:=id C
  obtain ⟨_,s0,s1,fs0,fs1⟩:=id S
  go_wp2_with fail
  refine (ck _ T).mono ?_
  rintro e w1 ⟨rfl,hb⟩
  replace C:=C.kept hb
  replace B:=bthen B hb
  replace T:=T.kept hb
  replace S:=S.kept hb
  clear hb c0 c1 c2 c3 c4 c5 c6 c7 c8 c9 c10 c11 c12 c13 s0 s1 fs0 fs1
  obtain ⟨_,c0,c1,c2,c3,c4,c5,c6,c7,c8,c9,c10,c11,c12,c13⟩:=id C
  obtain ⟨_,s0,s1,fs0,fs1⟩:=id S
  go_wp2
  go_ret2
  exact ⟨by simp,B⟩
 ·have ck:=fun w T=>fcheck_any c L 0 w (.inl ⟨ok,l,rfl⟩) hm T
  clear ok l
  go_enter Tryz.func26,Tryz.ntmps26
  go_upto_region 1 with fail
  generalize (w.alloc (.cells #[.string c.nm,.int .i64 c.k,.int .i64 c.d,.int .i64 c.m,.int .i64 c.s,.int .i64 c.sh,.int .i64 c.p0,.int .i64 c.p1,.int .i64 c.p2,.int .i64 c.cy,.int .i64 c.ex,.int .i64 c.fi,.int .i64 c.la,.int .i64 c.po] 24)).alloc (.cells #[.int .i64 a,.int .i64 b] 26)=W0 at *
  obtain ⟨_,c0,c1,c2,c3,c4,c5,c6,c7,c8,c9,c10,c11,c12,c13⟩:=id C
  obtain ⟨_,s0,s1,fs0,fs1⟩:=id S
  go_wp2_with fail
  refine (ck _ T).mono ?_
  rintro e w2 ⟨rfl,hb⟩
  replace C:=C.kept hb
  replace B:=bthen B hb
  replace T:=T.kept hb
  replace S:=S.kept hb
  clear hb c0 c1 c2 c3 c4 c5 c6 c7 c8 c9 c10 c11 c12 c13 s0 s1 fs0 fs1
  obtain ⟨_,c0,c1,c2,c3,c4,c5,c6,c7,c8,c9,c10,c11,c12,c13⟩:=id C
  obtain ⟨_,s0,s1,fs0,fs1⟩:=id S
  go_wp2
  go_ret2
  exact ⟨by simp,B⟩
 ·have ck:=fun w T=>fcheck_any c L 0 w (.inl ⟨ok,l,rfl⟩) hm T
  have ca:=fun w T=>Day_any c a L 0 0 0 er w Da hm T
  have n1:(er != 0)=true:=bne_iff_ne.2 ne
  clear ok l ne Da
  go_enter Tryz.func26,Tryz.ntmps26
  go_upto_region 1 with fail
  generalize (w.alloc (.cells #[.string c.nm,.int .i64 c.k,.int .i64 c.d,.int .i64 c.m,.int .i64 c.s,.int .i64 c.sh,.int .i64 c.p0,.int .i64 c.p1,.int .i64 c.p2,.int .i64 c.cy,.int .i64 c.ex,.int .i64 c.fi,.int .i64 c.la,.int .i64 c.po] 24)).alloc (.cells #[.int .i64 a,.int .i64 b] 26)=W0 at *
  obtain ⟨_,c0,c1,c2,c3,c4,c5,c6,c7,c8,c9,c10,c11,c12,c13⟩:=id C
  obtain ⟨_,s0,s1,fs0,fs1⟩:=id S
  go_wp2_with fail
  refine (ck _ T).mono ?_
  rintro e w3 ⟨rfl,hb⟩
  replace C:=C.kept hb
  replace B:=bthen B hb
  replace T:=T.kept hb
  replace S:=S.kept hb
  clear hb c0 c1 c2 c3 c4 c5 c6 c7 c8 c9 c10 c11 c12 c13 s0 s1 fs0 fs1
  obtain ⟨_,c0,c1,c2,c3,c4,c5,c6,c7,c8,c9,c10,c11,c12,c13⟩:=id C
  obtain ⟨_,s0,s1,fs0,fs1⟩:=id S
  go_wp2_with fail
  refine (ca _ T).mono ?_
  rintro e w4 ⟨rfl,hb⟩
  replace C:=C.kept hb
  replace B:=bthen B hb
  replace T:=T.kept hb
  replace S:=S.kept hb
  clear hb c0 c1 c2 c3 c4 c5 c6 c7 c8 c9 c10 c11 c12 c13 s0 s1 fs0 fs1
  obtain ⟨_,c0,c1,c2,c3,c4,c5,c6,c7,c8,c9,c10,c11,c12,c13⟩:=id C
  obtain ⟨_,s0,s1,fs0,fs1⟩:=id S
  go_wp2
  go_ret2
  exact ⟨by simp,balloc B _⟩
 ·have ck:=fun w T=>fcheck_any c L 0 w (.inl ⟨ok,l,rfl⟩) hm T
  have ca:=fun w T=>Day_any c a L L y0 i0 0 w Da hm T
  have cb:=fun w T=>Day_any c b L 0 0 0 er w Db hm T
  have n1:(er != 0)=true:=bne_iff_ne.2 ne
  clear ok l ne Da Db
  go_enter Tryz.func26,Tryz.ntmps26
  go_upto_region 1 with fail
  generalize (w.alloc (.cells #[.string c.nm,.int .i64 c.k,.int .i64 c.d,.int .i64 c.m,.int .i64 c.s,.int .i64 c.sh,.int .i64 c.p0,.int .i64 c.p1,.int .i64 c.p2,.int .i64 c.cy,.int .i64 c.ex,.int .i64 c.fi,.int .i64 c.la,.int .i64 c.po] 24)).alloc (.cells #[.int .i64 a,.int .i64 b] 26)=W0 at *
  obtain ⟨_,c0,c1,c2,c3,c4,c5,c6,c7,c8,c9,c10,c11,c12,c13⟩:=id C
  obtain ⟨_,s0,s1,fs0,fs1⟩:=id S
  go_wp2_with fail
  refine (ck _ T).mono ?_
  rintro e w5 ⟨rfl,hb⟩
  replace C:=C.kept hb
  replace B:=bthen B hb
  replace T:=T.kept hb
  replace S:=S.kept hb
  clear hb c0 c1 c2 c3 c4 c5 c6 c7 c8 c9 c10 c11 c12 c13 s0 s1 fs0 fs1
  obtain ⟨_,c0,c1,c2,c3,c4,c5,c6,c7,c8,c9,c10,c11,c12,c13⟩:=id C
  obtain ⟨_,s0,s1,fs0,fs1⟩:=id S
  go_wp2_with fail
  refine (ca _ T).mono ?_
  rintro e w6 ⟨rfl,hb⟩
  replace C:=C.kept hb
  replace B:=bthen B hb
  replace T:=T.kept hb
  replace S:=S.kept hb
  clear hb c0 c1 c2 c3 c4 c5 c6 c7 c8 c9 c10 c11 c12 c13 s0 s1 fs0 fs1
  obtain ⟨_,c0,c1,c2,c3,c4,c5,c6,c7,c8,c9,c10,c11,c12,c13⟩:=id C
  obtain ⟨_,s0,s1,fs0,fs1⟩:=id S
  have U:=Bx.Tri.new w6 (.int .i64 L) (.int .i64 y0) (.int .i64 i0) 46
  replace C:=C.alloc (.cells #[.int .i64 L,.int .i64 y0,.int .i64 i0] 46)
  replace T:=T.alloc (.cells #[.int .i64 L,.int .i64 y0,.int .i64 i0] 46)
  replace S:=S.alloc (.cells #[.int .i64 L,.int .i64 y0,.int .i64 i0] 46)
  replace B:=balloc B (.cells #[.int .i64 L,.int .i64 y0,.int .i64 i0] 46)
  clear c0 c1 c2 c3 c4 c5 c6 c7 c8 c9 c10 c11 c12 c13 s0 s1 fs0 fs1
  obtain ⟨_,c0,c1,c2,c3,c4,c5,c6,c7,c8,c9,c10,c11,c12,c13⟩:=id C
  obtain ⟨_,s0,s1,fs0,fs1⟩:=id S
  obtain ⟨_,u0,u1,u2,fu0,fu1,fu2⟩:=id U
  go_wp2_with fail
  refine (cb _ T).mono ?_
  rintro e w7 ⟨rfl,hb⟩
  replace C:=C.kept hb
  replace B:=bthen B hb
  replace T:=T.kept hb
  replace S:=S.kept hb
  replace U:=U.kept hb
  clear hb c0 c1 c2 c3 c4 c5 c6 c7 c8 c9 c10 c11 c12 c13 s0 s1 fs0 fs1 u0 u1 u2 fu0 fu1 fu2
  obtain ⟨_,c0,c1,c2,c3,c4,c5,c6,c7,c8,c9,c10,c11,c12,c13⟩:=id C
  obtain ⟨_,s0,s1,fs0,fs1⟩:=id S
  obtain ⟨_,u0,u1,u2,fu0,fu1,fu2⟩:=id U
  go_wp2
  go_ret2
  exact ⟨by simp,balloc B _⟩

end Go.Proofs.YtoilomigceijaaaGreatDoor.Dp

