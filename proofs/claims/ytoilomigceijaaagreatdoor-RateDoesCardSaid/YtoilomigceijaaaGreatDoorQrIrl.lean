/- What All, Meets of the reference of layer 17 come to. -/
import Derived.Test.YtoilomigceijaaaGreatDoorQrIrf
import Derived.Test.YtoilomigceijaaaGreatDoorQrJDa
import Derived.Test.YtoilomigceijaaaGreatDoorQrJFm
set_option linter.unusedSimpArgs false
set_option linter.unusedVariables false
namespace Go.Proofs.YtoilomigceijaaaGreatDoor.Rf
open Go.RowKit Go.Maps Bn Bx Cp Am Fp Ap Ar Cm Em Ep Rk Hp Hr Ip Dp Jr Ir

set_option maxHeartbeats 8000000

theorem runderU:Tryz.prog.underlying 53=some (.slice 46):=by kernel_rfl
theorem rinfoU:(Tryz.prog.info? 46).map (fun i=>(i.zero,i.size,i.bytes))=some (some (.agg #[.int .i64 0,.int .i64 0,.int .i64 0]),3,24):=by kernel_rfl
theorem srow_grown {W W':World}{g:Nat}{l:List (Int×Int)}{row:Option Nat}(p:Srow W g l)(h:W.grownBy W' row)(ne:some g≠row):Srow W' g l :=
 ⟨Nat.lt_of_lt_of_le p.lt h.size,fun i s hs=>by
  have e:=h.block g p.lt ne
  have hc:∀ j,W'.cell? ⟨g,j,none⟩=W.cell? ⟨g,j,none⟩:=fun j=>World.cell?_of_block (w:=W) e
  rw [hc,hc]
  exact p.c i s hs⟩
def MeetSt (c:CalZ)(L y0 i0 y n:Int)(N:Nat)(z:Int)(k:Nat):Prop:=(z≤y∧MStand c L y0 i0 y n N z 1 k)∨(z=y+1∧k=N+1)

set_option maxRecDepth 100000 in
theorem rMeets_ok (c:CalZ)(L a b y0 i0 y n:Int)(N:Nat)(w:World)(way:UWay c L y0 i0 y n N)(Da:DayA c a L L y0 i0 0)(Db:DayA c b L L y n 0)(hab:a≤b)(K:ChkSays c)(O:OfSays c)(hm:c.nm.size≤maxLen)(T:FTab w) :
  Calls Tryz.prog 18 #[.agg #[.string c.nm,.int .i64 c.k,.int .i64 c.d,.int .i64 c.m,.int .i64 c.s,.int .i64 c.sh,.int .i64 c.p0,.int .i64 c.p1,.int .i64 c.p2,.int .i64 c.cy,.int .i64 c.ex,.int .i64 c.fi,.int .i64 c.la,.int .i64 c.po],.int .i64 L,.agg #[.int .i64 a,.int .i64 b]] w (UnitsTo w (ulist c L (y0,i0) (N+1))):=by
 obtain ⟨j0,hi,hz0,hz1,hz2⟩:=info_parts rinfoU
 have C:=CalIn.new w c 24
 have S:=Pr.Two.new (w.alloc (.cells #[.string c.nm,.int .i64 c.k,.int .i64 c.d,.int .i64 c.m,.int .i64 c.s,.int .i64 c.sh,.int .i64 c.p0,.int .i64 c.p1,.int .i64 c.p2,.int .i64 c.cy,.int .i64 c.ex,.int .i64 c.fi,.int .i64 c.la,.int .i64 c.po] 24)) (.int .i64 a) (.int .i64 b) 26
 rw [World.size_alloc] at S
 replace C:=C.alloc (.cells #[.int .i64 a,.int .i64 b] 26)
 have B:=balloc (balloc (Below.refl _ w) (.cells #[.string c.nm,.int .i64 c.k,.int .i64 c.d,.int .i64 c.m,.int .i64 c.s,.int .i64 c.sh,.int .i64 c.p0,.int .i64 c.p1,.int .i64 c.p2,.int .i64 c.cy,.int .i64 c.ex,.int .i64 c.fi,.int .i64 c.la,.int .i64 c.po] 24)) (.cells #[.int .i64 a,.int .i64 b] 26)
 replace T:=(T.alloc (.cells #[.string c.nm,.int .i64 c.k,.int .i64 c.d,.int .i64 c.m,.int .i64 c.s,.int .i64 c.sh,.int .i64 c.p0,.int .i64 c.p1,.int .i64 c.p2,.int .i64 c.cy,.int .i64 c.ex,.int .i64 c.fi,.int .i64 c.la,.int .i64 c.po] 24)).alloc (.cells #[.int .i64 a,.int .i64 b] 26)
 have ca:=fun w=>rasked_any c L 0 w (.inl ⟨way.u.1,way.u.2.1,rfl⟩) K
 have cv1:=fun w=>rServed_any c a y0 0 w (daya_to Da).2.2.2.2 K O
 have cv2:=fun w=>rServed_any c b y 0 w (daya_to Db).2.2.2.2 K O
 have s1:=served_told way.u.1 way.u.2.2.1
 have s2:=served_told way.u.1 way.v.2.2.1
 have ft:=way.le
 have d0:decide (b<a)=false:=decide_eq_false (by omega)
 have nb:=way.v.2.2.2.2
 have mb:=ucount_bd (L:=L) (y:=y) way.u.1.1 (by omega) (by omega)
 have NB:N+1≤1000000:=by have:=way.len;have:=way.u.2.2.2.1;omega
 obtain ⟨nn,hnn⟩:∃ nn:Nat,(nn:Int)=per c:=⟨(per c).toNat,by have:=per_bd way.u.1.1;omega⟩
 have HC:Hid (∀ z:Int,y0≤z→z≤y→∃ M:Nat,(M:Int)=ucount c z L∧1≤M∧M≤60∧∀ w,FTab w→Calls Tryz.prog 19 #[.agg #[.string c.nm,.int .i64 c.k,.int .i64 c.d,.int .i64 c.m,.int .i64 c.s,.int .i64 c.sh,.int .i64 c.p0,.int .i64 c.p1,.int .i64 c.p2,.int .i64 c.cy,.int .i64 c.ex,.int .i64 c.fi,.int .i64 c.la,.int .i64 c.po],.int .i64 L,.int .i64 z] w (SpTo w M (spl c z L M))) :=
  Lib.hid (fun z z0 z1=>by
   have mz:=way.many z0 z1
   have sz:=served_told way.u.1 mz.2.2.2
   have cb:=ucount_bd (L:=L) (y:=z) way.u.1.1 (by omega) (by omega)
   have e:(((ucount c z L).toNat:Nat):Int)=ucount c z L:=by omega
   exact ⟨(ucount c z L).toNat,e,by omega,by omega,fun w T=>rspans_ok L c z nn _ w way.u.2.1 way.u.1 mz.2.2.2 hnn e K hm T⟩)
 have HS:Hid (∀ (z:Int) (i k:Nat),y0≤z→z≤y→(i:Int)+1≤ucount c z L→MStand c L y0 i0 y n N z ((i:Int)+1) k→
   (decide (uend c z L i+1≤b)=true∧decide (a≤uend c z L ((i:Int)+1))=true∧k≤N∧itu c L (y0,i0) k=(z,(i:Int)+1)∧MStand c L y0 i0 y n N z (((i+1:Nat):Int)+1) (k+1))∨(decide (uend c z L i+1≤b)=true∧decide (a≤uend c z L ((i:Int)+1))=false∧MStand c L y0 i0 y n N z (((i+1:Nat):Int)+1) k)∨(decide (uend c z L i+1≤b)=false∧MStand c L y0 i0 y n N z (((i+1:Nat):Int)+1) k)) :=
  Lib.hid (fun z i k z0 z1 le s=>by
   have h:=mstand_step way Da Db z0 z1 (by omega) le s
   rw [show (i:Int)+1 - 1=i by omega] at h
   rw [show ((i+1:Nat):Int)+1=(i:Int)+1+1 by omega]
   rcases h with ⟨h1,h2,h3,h4,h5⟩|⟨h1,h2⟩
   ·exact .inl ⟨decide_eq_true h1,decide_eq_true h2,h3,h4,h5⟩
   ·by_cases q:uend c z L i+1≤b
    ·exact .inr (.inl ⟨decide_eq_true q,decide_eq_false (fun x=>h1 ⟨q,x⟩),h2⟩)
    ·exact .inr (.inr ⟨decide_eq_false q,h2⟩))
 have HO:Hid (∀ (z:Int) (k:Nat),y0≤z→z≤y→MStand c L y0 i0 y n N z (ucount c z L+1) k→MeetSt c L y0 i0 y n N (z+1) k) :=
  Lib.hid (fun z k z0 z1 s=>by
   rcases mstand_out way z0 z1 s with ⟨h,s2⟩|⟨h,s2⟩
   ·exact .inl ⟨by omega,s2⟩
   ·exact .inr ⟨by omega,s2⟩)
 have HZ:Hid (∀ (z:Int) (k:Nat),z≤y→MeetSt c L y0 i0 y n N z k→MStand c L y0 i0 y n N z 1 k) :=
  Lib.hid (fun z k z1 s=>by
   rcases s with ⟨_,s⟩|⟨h,_⟩
   ·exact s
   ·omega)
 have HE:Hid (∀ (z:Int) (k:Nat),y<z→MeetSt c L y0 i0 y n N z k→k=N+1) :=
  Lib.hid (fun z k z1 s=>by
   rcases s with ⟨h,_⟩|⟨_,h⟩
   ·omega
   ·exact h)
 have ST:Hid (MeetSt c L y0 i0 y n N y0 0):=Lib.hid (.inl ⟨ft,mstand_start way⟩)
 clear way Da Db K O hab nb
 go_enter Tryz.func18,Tryz.ntmps18
 go_upto_region 1 with fail
 generalize (w.alloc (.cells #[.string c.nm,.int .i64 c.k,.int .i64 c.d,.int .i64 c.m,.int .i64 c.s,.int .i64 c.sh,.int .i64 c.p0,.int .i64 c.p1,.int .i64 c.p2,.int .i64 c.cy,.int .i64 c.ex,.int .i64 c.fi,.int .i64 c.la,.int .i64 c.po] 24)).alloc (.cells #[.int .i64 a,.int .i64 b] 26)=W0 at *
 obtain ⟨_,c0,c1,c2,c3,c4,c5,c6,c7,c8,c9,c10,c11,c12,c13⟩:=id C
 obtain ⟨_,s0,s1,fs0,fs1⟩:=id S
 go_wp2_with fail
 refine (ca _).mono ?_
 rintro e w1 ⟨rfl,hb⟩
 replace C:=C.kept hb
 replace B:=bthen B hb
 replace T:=T.kept hb
 replace S:=S.kept hb
 clear hb c0 c1 c2 c3 c4 c5 c6 c7 c8 c9 c10 c11 c12 c13 s0 s1 fs0 fs1
 obtain ⟨_,c0,c1,c2,c3,c4,c5,c6,c7,c8,c9,c10,c11,c12,c13⟩:=id C
 obtain ⟨_,s0,s1,fs0,fs1⟩:=id S
 go_wp2_with fail
 refine (cv1 _).mono ?_
 rintro e w2 ⟨rfl,hb⟩
 replace C:=C.kept hb
 replace B:=bthen B hb
 replace T:=T.kept hb
 replace S:=S.kept hb
 clear hb c0 c1 c2 c3 c4 c5 c6 c7 c8 c9 c10 c11 c12 c13 s0 s1 fs0 fs1
 obtain ⟨_,c0,c1,c2,c3,c4,c5,c6,c7,c8,c9,c10,c11,c12,c13⟩:=id C
 obtain ⟨_,s0,s1,fs0,fs1⟩:=id S
 go_wp2_with fail
 refine (cv2 _).mono ?_
 rintro e w3 ⟨rfl,hb⟩
 replace C:=C.kept hb
 replace B:=bthen B hb
 replace T:=T.kept hb
 replace S:=S.kept hb
 clear hb c0 c1 c2 c3 c4 c5 c6 c7 c8 c9 c10 c11 c12 c13 s0 s1 fs0 fs1
 obtain ⟨_,c0,c1,c2,c3,c4,c5,c6,c7,c8,c9,c10,c11,c12,c13⟩:=id C
 obtain ⟨_,s0,s1,fs0,fs1⟩:=id S
 clear ca cv1 cv2
 go_wp2
 go_loopw [11,12] (fun Q Y wr=>∃ (z:Int) (k:Nat),y0≤z∧z≤y+1∧k≤N+1∧Y= .int .i64 z∧MeetSt c L y0 i0 y n N z k∧One3 46 w3 wr Q (ulist c L (y0,i0) k)) (fun _ Y _=>(y+1 - intOf Y).toNat)
 case atStart=>exact ⟨y0,0,by omega,by omega,by omega,rfl,ST.out,One3.start _ (Below.refl _ _)⟩
 case round =>
  obtain ⟨z,k,z0,z1,kN,rfl,st,X⟩:=hrel
  clear c0 c1 c2 c3 c4 c5 c6 c7 c8 c9 c10 c11 c12 c13 s0 s1 fs0 fs1
  by_cases le:z≤y
  ·have sz:=HZ.out z k le st
   obtain ⟨M,hM,m0,m1,cc⟩:=HC.out z z0 le
   have HM:=Lib.hid hM
   clear hM st
   have C2:=C.kept X.below
   have T2:=T.kept X.below
   obtain ⟨_,c0,c1,c2,c3,c4,c5,c6,c7,c8,c9,c10,c11,c12,c13⟩:=id C2
   go_wp2_with fail
   refine (cc _ T2).mono ?_
   rintro e w8 ⟨gs,caps,rfl,SR,hgs,hb,hcs⟩
   have NE:=fun x h=>Nat.ne_of_lt (Nat.lt_of_lt_of_le (row_lt X.a (x:=x) h).2 hgs)
   replace X:=X.kept hb
   clear cc hb C2 T2 hgs
   clear c0 c1 c2 c3 c4 c5 c6 c7 c8 c9 c10 c11 c12 c13 
   go_wp2
   go_loopw [11,63] (fun Q I wr'=>∃ (i k:Nat),i≤M∧k≤N+1∧I= .int .i64 (i:Int)∧MStand c L y0 i0 y n N z ((i:Int)+1) k∧One3 46 w3 wr' Q (ulist c L (y0,i0) k)∧Srow wr' gs (spl c z L M)∧(∀ x,Q.ownBlock=some x→x≠gs)) (fun _ I _=>(M - intOf I).toNat)
   case atStart=>exact ⟨0,k,by omega,kN,rfl,by simpa using sz,X,SR,NE⟩
   case round =>
    clear X sz kN SR NE
    obtain ⟨i,k,iM,kN,rfl,s,X,SR,NE⟩:=hrel
    have S2:=S.kept X.below
    by_cases li:i<M
    ·have OO:=HS.out z i k z0 le (by rw [← HM.out];omega) s
     obtain ⟨e0,e1⟩:=SR.c i _ (spl_at c z L M i li)
     simp only at e0 e1
     obtain ⟨ff,hff⟩:∃ ff,uend c z L i+1=ff:=⟨_,rfl⟩
     obtain ⟨tt,htt⟩:∃ tt,uend c z L ((i:Int)+1)=tt:=⟨_,rfl⟩
     rw [hff] at OO e0
     rw [htt] at OO e1
     clear hff htt s
     have ii:(i:Int)<(M:Int):=by omega
     obtain ⟨_,s0,s1,fs0,fs1⟩:=id S2
     have s0a:=(S2.alloc (.cells #[.int .i64 ff,.int .i64 tt] 26)).c0
     have s1a:=(S2.alloc (.cells #[.int .i64 ff,.int .i64 tt] 26)).c1
     have R9:=SR.alloc (.cells #[.int .i64 ff,.int .i64 tt] 26)
     replace X:=X.kept (balloc (Below.refl _ _) (.cells #[.int .i64 ff,.int .i64 tt] 26))
     rcases OO with ⟨t1,t2,kn,at_,s2⟩|⟨t1,t2,s2⟩|⟨t1,s2⟩
     ·have HA:=Lib.hid at_
      clear at_
      go_wp2_with (first
       | (at_builtin;refine wpList_append_own_at _ rfl _ _ 53 rfl w3.heap.size 46 j0 (.agg #[.int .i64 0,.int .i64 0,.int .i64 0]) 3 24 runderU hi hz0 hz1 hz2 rfl (by decide) _ (ulist c L (y0,i0) k).length (ucells (ulist c L (y0,i0) k)) rfl (X.a.alloc _) ⟨_,0,none⟩ 1 1 [.int .i64 L,.int .i64 z,.int .i64 ((i:Int)+1)] rfl rfl ?c1 ?c2 ?c3 ?c4 ?c5 ?m1))
      case c1 =>
       intro j u hj
       match j,hj with
       | 0,hj=>simp at hj;subst hj;simp [Addr.add,go_sem]
       | 1,hj=>simp at hj;subst hj;simp [Addr.add,go_sem]
       | 2,hj=>simp at hj;subst hj;simp [Addr.add,go_sem]
      case c2=>intro u hu;simp at hu;rcases hu with rfl|rfl|rfl<;>rfl
      case c3=>rw [ulist_len];unfold maxLen;omega
      case c4=>rw [ulist_len];omega
      case c5=>have z1:=X.below.size;simp at z1 ⊢;omega
      case m1 =>
       intro v3 wz hown3 hg3 _ hat
       have X3:=X.next (u:=(L,z,((i:Int)+1))) hown3 hg3
       have X5:One3 46 w3 wz v3 (ulist c L (y0,i0) (k+1)):=by
        show One3 46 w3 wz v3 (ulist c L (y0,i0) k++[(L,(itu c L (y0,i0) k).1,(itu c L (y0,i0) k).2)])
        rw [HA.out]
        exact X3
       clear X3
       have SR3:=srow_grown (R9.alloc _) hg3 (fun e=>NE gs e.symm rfl)
       have NE3:∀ x,v3.ownBlock=some x→x≠gs:=fun x h=>by
        rcases hat with q|q
        ·exact NE x (q.symm.trans h)
        ·have z1:=R9.lt
         rw [q] at h
         simp at h
         simp at z1
         omega
       clear hat
       go_wp2
       go_roundw
       case rel=>exact ⟨i+1,k+1,by omega,by omega,by go_num,s2,X5,SR3,NE3⟩
       case measure=>simp [intOf];omega
     ·go_wp2
      go_roundw
      case rel=>exact ⟨i+1,k,by omega,by omega,by go_num,s2,X,R9,NE⟩
      case measure=>simp [intOf];omega
     ·go_wp2
      go_roundw
      case rel=>exact ⟨i+1,k,by omega,by omega,by go_num,s2,X,R9,NE⟩
      case measure=>simp [intOf];omega
    ·have so:=HO.out z k z0 le (by rw [← HM.out,show (M:Int)=i by omega];exact s)
     clear s
     have ii:¬ (i:Int)<(M:Int):=by omega
     go_wp2
     go_roundw
     case rel=>exact ⟨z+1,k,by omega,by omega,kN,by go_num,so,X⟩
     case measure=>simp [intOf];omega
  ·obtain rfl:=HE.out z k (by omega) st
   clear st
   obtain ⟨g,cap,rfl,_,_⟩:=X.a.form (by rw [ulist_len];omega)
   have X2:=X.out rfl (by rw [ulist_len];omega)
   have Bz:=bthen B X.below
   have sz:=B.size
   clear X
   go_wp2
   go_ret2
   exact ⟨g,cap,by simp,X2.1,by omega,Bz,X2.2.2⟩

theorem daya_served {c:CalZ}{a L er:Int}(ok:CalOk c)(l:LevOk L)(ne:er≠0)(h:DayA c a L 0 0 0 er):ServedA c a 0 er:=by
 rcases h with ⟨_,_,_,_,_,e⟩|⟨_,_,s,_⟩|⟨_,n,_⟩|⟨n,_⟩
 ·exact absurd e ne
 ·exact s
 ·exact absurd l n
 ·exact absurd ok n

set_option maxRecDepth 100000 in
theorem rMeets_er (c:CalZ)(L a b er:Int)(w:World)(R:MeetsA c L a b er)(K:ChkSays c)(O:OfSays c)(T:FTab w) :
  Calls Tryz.prog 18 #[.agg #[.string c.nm,.int .i64 c.k,.int .i64 c.d,.int .i64 c.m,.int .i64 c.s,.int .i64 c.sh,.int .i64 c.p0,.int .i64 c.p1,.int .i64 c.p2,.int .i64 c.cy,.int .i64 c.ex,.int .i64 c.fi,.int .i64 c.la,.int .i64 c.po],.int .i64 L,.agg #[.int .i64 a,.int .i64 b]] w fun e w'=>e= .returned (.tuple #[.slice none 0 0,.int .i64 er])∧Below w.heap.size w w':=by
 have C:=CalIn.new w c 24
 have S:=Pr.Two.new (w.alloc (.cells #[.string c.nm,.int .i64 c.k,.int .i64 c.d,.int .i64 c.m,.int .i64 c.s,.int .i64 c.sh,.int .i64 c.p0,.int .i64 c.p1,.int .i64 c.p2,.int .i64 c.cy,.int .i64 c.ex,.int .i64 c.fi,.int .i64 c.la,.int .i64 c.po] 24)) (.int .i64 a) (.int .i64 b) 26
 rw [World.size_alloc] at S
 replace C:=C.alloc (.cells #[.int .i64 a,.int .i64 b] 26)
 have B:=balloc (balloc (Below.refl _ w) (.cells #[.string c.nm,.int .i64 c.k,.int .i64 c.d,.int .i64 c.m,.int .i64 c.s,.int .i64 c.sh,.int .i64 c.p0,.int .i64 c.p1,.int .i64 c.p2,.int .i64 c.cy,.int .i64 c.ex,.int .i64 c.fi,.int .i64 c.la,.int .i64 c.po] 24)) (.cells #[.int .i64 a,.int .i64 b] 26)
 replace T:=(T.alloc (.cells #[.string c.nm,.int .i64 c.k,.int .i64 c.d,.int .i64 c.m,.int .i64 c.s,.int .i64 c.sh,.int .i64 c.p0,.int .i64 c.p1,.int .i64 c.p2,.int .i64 c.cy,.int .i64 c.ex,.int .i64 c.fi,.int .i64 c.la,.int .i64 c.po] 24)).alloc (.cells #[.int .i64 a,.int .i64 b] 26)
 rcases R with ⟨no,rfl⟩|⟨ok,l,lt,rfl⟩|⟨ok,l,le,ne,Da⟩|⟨ok,l,le,ne,⟨y0,i0,Da⟩,Db⟩
 ·have ca:=fun w=>rasked_any c L 1 w (.inr ⟨no,rfl⟩) K
  clear no K O
  go_enter Tryz.func18,Tryz.ntmps18
  go_upto_region 1 with fail
  generalize (w.alloc (.cells #[.string c.nm,.int .i64 c.k,.int .i64 c.d,.int .i64 c.m,.int .i64 c.s,.int .i64 c.sh,.int .i64 c.p0,.int .i64 c.p1,.int .i64 c.p2,.int .i64 c.cy,.int .i64 c.ex,.int .i64 c.fi,.int .i64 c.la,.int .i64 c.po] 24)).alloc (.cells #[.int .i64 a,.int .i64 b] 26)=W0 at *
  obtain ⟨_,c0,c1,c2,c3,c4,c5,c6,c7,c8,c9,c10,c11,c12,c13⟩:=id C
  obtain ⟨_,s0,s1,fs0,fs1⟩:=id S
  go_wp2_with fail
  refine (ca _).mono ?_
  rintro e w1 ⟨rfl,hb⟩
  replace C:=C.kept hb
  replace B:=bthen B hb
  replace T:=T.kept hb
  replace S:=S.kept hb
  clear hb c0 c1 c2 c3 c4 c5 c6 c7 c8 c9 c10 c11 c12 c13 s0 s1 fs0 fs1
  obtain ⟨_,c0,c1,c2,c3,c4,c5,c6,c7,c8,c9,c10,c11,c12,c13⟩:=id C
  obtain ⟨_,s0,s1,fs0,fs1⟩:=id S
  go_wp2
  go_ret2
  exact ⟨by simp,B⟩
 ·have ca:=fun w=>rasked_any c L 0 w (.inl ⟨ok,l,rfl⟩) K
  have d0:decide (b<a)=true:=decide_eq_true lt
  clear ok l K O lt
  go_enter Tryz.func18,Tryz.ntmps18
  go_upto_region 1 with fail
  generalize (w.alloc (.cells #[.string c.nm,.int .i64 c.k,.int .i64 c.d,.int .i64 c.m,.int .i64 c.s,.int .i64 c.sh,.int .i64 c.p0,.int .i64 c.p1,.int .i64 c.p2,.int .i64 c.cy,.int .i64 c.ex,.int .i64 c.fi,.int .i64 c.la,.int .i64 c.po] 24)).alloc (.cells #[.int .i64 a,.int .i64 b] 26)=W0 at *
  obtain ⟨_,c0,c1,c2,c3,c4,c5,c6,c7,c8,c9,c10,c11,c12,c13⟩:=id C
  obtain ⟨_,s0,s1,fs0,fs1⟩:=id S
  go_wp2_with fail
  refine (ca _).mono ?_
  rintro e w2 ⟨rfl,hb⟩
  replace C:=C.kept hb
  replace B:=bthen B hb
  replace T:=T.kept hb
  replace S:=S.kept hb
  clear hb c0 c1 c2 c3 c4 c5 c6 c7 c8 c9 c10 c11 c12 c13 s0 s1 fs0 fs1
  obtain ⟨_,c0,c1,c2,c3,c4,c5,c6,c7,c8,c9,c10,c11,c12,c13⟩:=id C
  obtain ⟨_,s0,s1,fs0,fs1⟩:=id S
  go_wp2
  go_ret2
  exact ⟨by simp,B⟩
 ·have ca:=fun w=>rasked_any c L 0 w (.inl ⟨ok,l,rfl⟩) K
  have cv1:=fun w=>rServed_any c a 0 er w (daya_served ok l ne Da) K O
  have d0:decide (b<a)=false:=decide_eq_false (by omega)
  have n1:(er != 0)=true:=bne_iff_ne.2 ne
  clear ok l ne Da K O le
  go_enter Tryz.func18,Tryz.ntmps18
  go_upto_region 1 with fail
  generalize (w.alloc (.cells #[.string c.nm,.int .i64 c.k,.int .i64 c.d,.int .i64 c.m,.int .i64 c.s,.int .i64 c.sh,.int .i64 c.p0,.int .i64 c.p1,.int .i64 c.p2,.int .i64 c.cy,.int .i64 c.ex,.int .i64 c.fi,.int .i64 c.la,.int .i64 c.po] 24)).alloc (.cells #[.int .i64 a,.int .i64 b] 26)=W0 at *
  obtain ⟨_,c0,c1,c2,c3,c4,c5,c6,c7,c8,c9,c10,c11,c12,c13⟩:=id C
  obtain ⟨_,s0,s1,fs0,fs1⟩:=id S
  go_wp2_with fail
  refine (ca _).mono ?_
  rintro e w3 ⟨rfl,hb⟩
  replace C:=C.kept hb
  replace B:=bthen B hb
  replace T:=T.kept hb
  replace S:=S.kept hb
  clear hb c0 c1 c2 c3 c4 c5 c6 c7 c8 c9 c10 c11 c12 c13 s0 s1 fs0 fs1
  obtain ⟨_,c0,c1,c2,c3,c4,c5,c6,c7,c8,c9,c10,c11,c12,c13⟩:=id C
  obtain ⟨_,s0,s1,fs0,fs1⟩:=id S
  go_wp2_with fail
  refine (cv1 _).mono ?_
  rintro e w4 ⟨rfl,hb⟩
  replace C:=C.kept hb
  replace B:=bthen B hb
  replace T:=T.kept hb
  replace S:=S.kept hb
  clear hb c0 c1 c2 c3 c4 c5 c6 c7 c8 c9 c10 c11 c12 c13 s0 s1 fs0 fs1
  obtain ⟨_,c0,c1,c2,c3,c4,c5,c6,c7,c8,c9,c10,c11,c12,c13⟩:=id C
  obtain ⟨_,s0,s1,fs0,fs1⟩:=id S
  go_wp2
  go_ret2
  exact ⟨by simp,B⟩
 ·have ca:=fun w=>rasked_any c L 0 w (.inl ⟨ok,l,rfl⟩) K
  have cv1:=fun w=>rServed_any c a y0 0 w (daya_to Da).2.2.2.2 K O
  have cv2:=fun w=>rServed_any c b 0 er w (daya_served ok l ne Db) K O
  have d0:decide (b<a)=false:=decide_eq_false (by omega)
  have n1:(er != 0)=true:=bne_iff_ne.2 ne
  clear ok l ne Da Db K O le
  go_enter Tryz.func18,Tryz.ntmps18
  go_upto_region 1 with fail
  generalize (w.alloc (.cells #[.string c.nm,.int .i64 c.k,.int .i64 c.d,.int .i64 c.m,.int .i64 c.s,.int .i64 c.sh,.int .i64 c.p0,.int .i64 c.p1,.int .i64 c.p2,.int .i64 c.cy,.int .i64 c.ex,.int .i64 c.fi,.int .i64 c.la,.int .i64 c.po] 24)).alloc (.cells #[.int .i64 a,.int .i64 b] 26)=W0 at *
  obtain ⟨_,c0,c1,c2,c3,c4,c5,c6,c7,c8,c9,c10,c11,c12,c13⟩:=id C
  obtain ⟨_,s0,s1,fs0,fs1⟩:=id S
  go_wp2_with fail
  refine (ca _).mono ?_
  rintro e w5 ⟨rfl,hb⟩
  replace C:=C.kept hb
  replace B:=bthen B hb
  replace T:=T.kept hb
  replace S:=S.kept hb
  clear hb c0 c1 c2 c3 c4 c5 c6 c7 c8 c9 c10 c11 c12 c13 s0 s1 fs0 fs1
  obtain ⟨_,c0,c1,c2,c3,c4,c5,c6,c7,c8,c9,c10,c11,c12,c13⟩:=id C
  obtain ⟨_,s0,s1,fs0,fs1⟩:=id S
  go_wp2_with fail
  refine (cv1 _).mono ?_
  rintro e w6 ⟨rfl,hb⟩
  replace C:=C.kept hb
  replace B:=bthen B hb
  replace T:=T.kept hb
  replace S:=S.kept hb
  clear hb c0 c1 c2 c3 c4 c5 c6 c7 c8 c9 c10 c11 c12 c13 s0 s1 fs0 fs1
  obtain ⟨_,c0,c1,c2,c3,c4,c5,c6,c7,c8,c9,c10,c11,c12,c13⟩:=id C
  obtain ⟨_,s0,s1,fs0,fs1⟩:=id S
  go_wp2_with fail
  refine (cv2 _).mono ?_
  rintro e w7 ⟨rfl,hb⟩
  replace C:=C.kept hb
  replace B:=bthen B hb
  replace T:=T.kept hb
  replace S:=S.kept hb
  clear hb c0 c1 c2 c3 c4 c5 c6 c7 c8 c9 c10 c11 c12 c13 s0 s1 fs0 fs1
  obtain ⟨_,c0,c1,c2,c3,c4,c5,c6,c7,c8,c9,c10,c11,c12,c13⟩:=id C
  obtain ⟨_,s0,s1,fs0,fs1⟩:=id S
  go_wp2
  go_ret2
  exact ⟨by simp,B⟩

end Go.Proofs.YtoilomigceijaaaGreatDoor.Rf

