/- Texts that are joined: Pcode, Pcode2. -/
import Derived.Test.YtoilomigceijaaaGreatDoorQrJDa
import Derived.Test.YtoilomigceijaaaGreatDoorQrJI
import Derived.Test.YtoilomigceijaaaGreatDoorQrFcal
import Derived.Test.YtoilomigceijaaaGreatDoorQrJPb
import Derived.Test.YtoilomigceijaaaGreatDoorQrJS
set_option linter.unusedSimpArgs false
set_option linter.unusedVariables false
namespace Go.Proofs.YtoilomigceijaaaGreatDoor.Pp
open Go.RowKit Bn Bx Cp Am Fp Ap Cm Em Ep Rk Hp Ip Jp Dp

set_option maxHeartbeats 8000000

theorem cut_ex (c:CalZ)(L a b:Int):(∃ er,er≠0∧MeetsA c L a b er)∨∃ y0 i0 y n N,Cut c L a b y0 i0 y n N:=by
 obtain ⟨p,q,r,e1,D1⟩:=daya_ex c a L
 obtain ⟨p2,q2,r2,e2,D2⟩:=daya_ex c b L
 have er_ne:∀ {n p q r e:Int},DayA c n L p q r e→e≠0→DayA c n L 0 0 0 e:=fun D ne=>by
  obtain ⟨rfl,rfl,rfl,_⟩:=daya_er D ne
  exact D
 have ok_eq:∀ {n p q r:Int},DayA c n L p q r 0→DayA c n L L q r 0:=fun D=>by
  have h:=(daya_to D).2.2.2.1
  rw [h] at D
  exact D
 by_cases h:CalOk c∧LevOk L
 ·by_cases h2:b<a
  ·exact .inl ⟨1,by decide,.inr (.inl ⟨h.1,h.2,h2,rfl⟩)⟩
  ·by_cases h3:e1=0
   ·subst h3
    have D1':=ok_eq D1
    by_cases h4:e2=0
    ·subst h4
     have D2':=ok_eq D2
     obtain ⟨u,_⟩:=daya_to D1'
     obtain ⟨v,_⟩:=daya_to D2'
     obtain ⟨N,way⟩:=way_ex v u (till_of D1' D2' (by omega))
     exact .inr ⟨_,_,_,_,N,way,D1',D2',by omega⟩
    ·exact .inl ⟨e2,h4,.inr (.inr (.inr ⟨h.1,h.2,by omega,h4,⟨q,r,D1'⟩,er_ne D2 h4⟩))⟩
   ·exact .inl ⟨e1,h3,.inr (.inr (.inl ⟨h.1,h.2,by omega,h3,er_ne D1 h3⟩))⟩
 ·exact .inl ⟨1,by decide,.inl ⟨h,rfl⟩⟩

theorem infoP:(Tryz.prog.info? 61).map (fun i=>(i.zero,i.size,i.bytes))=some (some (.agg #[.int .i64 0,.int .i64 0,.int .i64 0,.int .i64 0,.int .i64 0]),5,40):=by kernel_rfl
theorem underP:Tryz.prog.underlying 49=some (.slice 61):=by kernel_rfl
theorem infoL6:(Tryz.prog.info? 2).map (fun i=>(i.zero,i.size,i.bytes))=some (some (.int .i64 0),1,8):=by kernel_rfl
theorem underL6:Tryz.prog.underlying 29=some (.slice 2):=by kernel_rfl

theorem make_parts (n:Nat)(hn:n≤1000000) :
  ∃ cs:Array Value,(∀ w,(Instr.makeSlice 49 (.int .i64 (n:Int)) (.int .i64 (n:Int))).run Tryz.prog w= .ok (.slice (some ⟨w.heap.size,0,none⟩) n n) (w.alloc (.cells cs 61)))∧∀ w:World,Mrow (w.alloc (.cells cs 61)) w.heap.size n 5 (fun _ _=>0):=by
 obtain ⟨i,hi,hz0,hz1,hz2⟩:=info_parts infoP
 have e1:(n:Int).toNat=n:=by omega
 have at':∀ j,j<n*5→(madeCells #[Value.int .i64 0,.int .i64 0,.int .i64 0,.int .i64 0,.int .i64 0] (n*5))[j]?=some (.int .i64 0):=fun j hj=>by
  unfold madeCells
  have hm:j%5=0∨j%5=1∨j%5=2∨j%5=3∨j%5=4:=by omega
  rcases hm with h|h|h|h|h<;>simp [hj,h]
 refine ⟨madeCells #[.int .i64 0,.int .i64 0,.int .i64 0,.int .i64 0,.int .i64 0] (n*5),fun w=>?_,fun w=>⟨by simp,fun i j hi hj=>?_,fun i j hi hj=>by simp [go_sem]⟩⟩
 ·have h:=run_make (P:=Tryz.prog) (w:=w) 49 61 i (.agg #[.int .i64 0,.int .i64 0,.int .i64 0,.int .i64 0,.int .i64 0]) underP hi hz0 .i64 .i64 n n (by omega) (by omega) (by rw [hz2];omega) (by omega)
  rw [e1,hz1] at h
  exact h
 ·simp [go_sem,at' (i*5+j) (by omega)]

def partF (c:CalZ)(L a b:Int)(u:Int×Int)(k j:Nat):Int :=
 if j=0 then L else if j=1 then (itu c L u k).1 else if j=2 then (itu c L u k).2 else if j=3 then pfst c L a u k else plst c L b u k
def RowTo (w:World)(n m:Nat)(f:Nat→Nat→Int)(e:Ending)(w':World):Prop :=
 ∃ g:Nat,e= .returned (.tuple #[.slice (some ⟨g,0,none⟩) n n,.int .i64 0])∧Mrow w' g n m f∧w.heap.size≤g∧Below w.heap.size w w'

set_option maxRecDepth 100000 in
theorem cut_ok (c:CalZ)(L a b y0 i0 y n:Int)(N M:Nat)(w:World)(h:Cut c L a b y0 i0 y n N)(hM:N+1=M)(M1:M≤1000000)(hm:c.nm.size≤maxLen)(T:FTab w) :
  Calls Tryz.prog 16 #[.agg #[.string c.nm,.int .i64 c.k,.int .i64 c.d,.int .i64 c.m,.int .i64 c.s,.int .i64 c.sh,.int .i64 c.p0,.int .i64 c.p1,.int .i64 c.p2,.int .i64 c.cy,.int .i64 c.ex,.int .i64 c.fi,.int .i64 c.la,.int .i64 c.po],.int .i64 L,.agg #[.int .i64 a,.int .i64 b]] w (RowTo w M 5 (partF c L a b (y0,i0))):=by
 have C:=CalIn.new w c 24
 have S:=Pr.Two.new (w.alloc (.cells #[.string c.nm,.int .i64 c.k,.int .i64 c.d,.int .i64 c.m,.int .i64 c.s,.int .i64 c.sh,.int .i64 c.p0,.int .i64 c.p1,.int .i64 c.p2,.int .i64 c.cy,.int .i64 c.ex,.int .i64 c.fi,.int .i64 c.la,.int .i64 c.po] 24)) (.int .i64 a) (.int .i64 b) 26
 rw [World.size_alloc] at S
 replace C:=C.alloc (.cells #[.int .i64 a,.int .i64 b] 26)
 have B:=balloc (balloc (Below.refl _ w) (.cells #[.string c.nm,.int .i64 c.k,.int .i64 c.d,.int .i64 c.m,.int .i64 c.s,.int .i64 c.sh,.int .i64 c.p0,.int .i64 c.p1,.int .i64 c.p2,.int .i64 c.cy,.int .i64 c.ex,.int .i64 c.fi,.int .i64 c.la,.int .i64 c.po] 24)) (.cells #[.int .i64 a,.int .i64 b] 26)
 replace T:=(T.alloc (.cells #[.string c.nm,.int .i64 c.k,.int .i64 c.d,.int .i64 c.m,.int .i64 c.s,.int .i64 c.sh,.int .i64 c.p0,.int .i64 c.p1,.int .i64 c.p2,.int .i64 c.cy,.int .i64 c.ex,.int .i64 c.fi,.int .i64 c.la,.int .i64 c.po] 24)).alloc (.cells #[.int .i64 a,.int .i64 b] 26)
 have qm:=fun w T=>Meets_ok c L a b y0 i0 y n N w h.way h.da h.db h.ab hm T
 have HQ:Hid (∀ k:Nat,k<M→∃ p q f t:Int,(ulist c L (y0,i0) M)[k]?=some (L,p,q)∧partF c L a b (y0,i0) k 0=L∧partF c L a b (y0,i0) k 1=p∧partF c L a b (y0,i0) k 2=q∧
   partF c L a b (y0,i0) k 3=(if f<a then a else f)∧partF c L a b (y0,i0) k 4=(if b<t then b else t)∧
   ∀ w,FTab w→Calls Tryz.prog 15 #[.agg #[.string c.nm,.int .i64 c.k,.int .i64 c.d,.int .i64 c.m,.int .i64 c.s,.int .i64 c.sh,.int .i64 c.p0,.int .i64 c.p1,.int .i64 c.p2,.int .i64 c.cy,.int .i64 c.ex,.int .i64 c.fi,.int .i64 c.la,.int .i64 c.po],.agg #[.int .i64 L,.int .i64 p,.int .i64 q]] w fun e w'=>e= .returned (.tuple #[.agg #[.int .i64 f,.int .i64 t],.int .i64 0])∧Below w.heap.size w w') :=
  Lib.hid (fun k hk=>⟨_,_,ufst c L (y0,i0) k,ulst c L (y0,i0) k,ulist_at c L (y0,i0) M k hk,rfl,rfl,rfl,rfl,rfl,fun w T=>Span_any c L _ _ _ _ 0 w (.inl ⟨(h.way.ok k (by omega)).1,rfl,rfl,rfl⟩) hm T⟩)
 obtain ⟨cs,hmk,hrow⟩:=make_parts M M1
 have HR:=Lib.hid hrow
 clear h hrow
 go_enter Tryz.func16,Tryz.ntmps16
 go_upto_region 1 with fail
 generalize (w.alloc (.cells #[.string c.nm,.int .i64 c.k,.int .i64 c.d,.int .i64 c.m,.int .i64 c.s,.int .i64 c.sh,.int .i64 c.p0,.int .i64 c.p1,.int .i64 c.p2,.int .i64 c.cy,.int .i64 c.ex,.int .i64 c.fi,.int .i64 c.la,.int .i64 c.po] 24)).alloc (.cells #[.int .i64 a,.int .i64 b] 26)=W0 at *
 obtain ⟨_,c0,c1,c2,c3,c4,c5,c6,c7,c8,c9,c10,c11,c12,c13⟩:=id C
 obtain ⟨_,s0,s1,fs0,fs1⟩:=id S
 go_wp2_with fail
 refine (qm _ T).mono ?_
 rintro e w1 ⟨g,cap,rfl,R,hg,hb,hcap⟩
 replace C:=C.kept hb
 replace B:=bthen B hb
 replace T:=T.kept hb
 replace S:=S.kept hb
 clear hb c0 c1 c2 c3 c4 c5 c6 c7 c8 c9 c10 c11 c12 c13 s0 s1 fs0 fs1
 obtain ⟨_,c0,c1,c2,c3,c4,c5,c6,c7,c8,c9,c10,c11,c12,c13⟩:=id C
 obtain ⟨_,s0,s1,fs0,fs1⟩:=id S
 rw [ulist_len,hM]
 rw [hM] at R
 clear hg hcap qm
 obtain ⟨_,rc⟩:=id R
 go_upto_region 5 with fail
 have Q0:=HR.out w1
 have B1:=balloc (Below.refl _ w1) (.cells cs 61)
 have szG:w.heap.size≤w1.heap.size:=B.size
 clear s0 s1 fs0 fs1 rc
 clear c0 c1 c2 c3 c4 c5 c6 c7 c8 c9 c10 c11 c12 c13 
 generalize hW2:w1.alloc (.cells cs 61)=W2 at *
 generalize hG:w1.heap.size=G at *
 clear hW2
 go_wp2
 go_loopw [30] (fun Y wr=>∃ k:Nat,k≤M∧Y= .int .i64 (k:Int)∧Below w1.heap.size w1 wr∧Mrow wr G M 5 (upTo k (partF c L a b (y0,i0)))) (fun Y _=>M - (intOf Y).toNat)
 case atStart=>exact ⟨0,by omega,rfl,by rw [hG];exact B1,Q0.congr (fun i j _ _=>(upTo_zero _ i j).symm)⟩
 case round =>
  clear Q0 B1
  obtain ⟨k,kM,rfl,B2,Q⟩:=hrel
  have C2:=C.kept B2
  have T2:=T.kept B2
  have R2:=R.kept B2
  have S2:=S.kept B2
  by_cases hlt:k<M
  ·obtain ⟨p,q,f,t,hu,F0,F1,F2,F3,F4,cs⟩:=HQ.out k hlt
   obtain ⟨rk0,rk1,rk2⟩:=R2.c k _ hu
   simp only at rk0 rk1 rk2
   have kk:(k:Int)<(M:Int):=by omega
   have B3:=balloc B2 (.cells #[.int .i64 L,.int .i64 p,.int .i64 q] 46)
   have V:=Tri.new wr (.int .i64 L) (.int .i64 p) (.int .i64 q) 46
   have Q3:=Q.alloc (.cells #[.int .i64 L,.int .i64 p,.int .i64 q] 46)
   go_upto_region 8 with fail
   clear rk0 rk1 rk2 C2 T2 R2 S2 Q
   generalize wr.alloc (.cells #[.int .i64 L,.int .i64 p,.int .i64 q] 46)=W8 at *
   have C3:=C.kept B3
   have T3:=T.kept B3
   obtain ⟨_,v0,v1,v2,fv0,fv1,fv2⟩:=id V
   obtain ⟨_,c0,c1,c2,c3,c4,c5,c6,c7,c8,c9,c10,c11,c12,c13⟩:=id C3
   go_wp2_with fail
   refine (cs _ T3).mono ?_
   rintro e w9 ⟨rfl,hb⟩
   have V9:=(V.kept hb).alloc (.cells #[.int .i64 f,.int .i64 t] 26)
   have Q9:=(Q3.kept hb).alloc (.cells #[.int .i64 f,.int .i64 t] 26)
   have B9:=balloc (bthen B3 hb) (.cells #[.int .i64 f,.int .i64 t] 26)
   have K:=Pr.Two.new w9 (.int .i64 f) (.int .i64 t) 26
   go_upto_region 9 with fail
   clear hb C3 T3 B3 Q3 V
   clear c0 c1 c2 c3 c4 c5 c6 c7 c8 c9 c10 c11 c12 c13 v0 v1 v2 fv0 fv1 fv2
   generalize w9.alloc (.cells #[.int .i64 f,.int .i64 t] 26)=W10 at *
   have S9:=S.kept B9
   obtain ⟨_,v0,v1,v2,fv0,fv1,fv2⟩:=id V9
   obtain ⟨_,s0,s1,fs0,fs1⟩:=id S9
   obtain ⟨_,k0,k1,fk0,fk1⟩:=id K
   obtain ⟨F,hF⟩:∃ F,(if f<a then a else f)=F:=⟨_,rfl⟩
   obtain ⟨E,hE⟩:∃ E,(if b<t then b else t)=E:=⟨_,rfl⟩
   rw [hF] at F3
   rw [hE] at F4
   have p0:=Q9.c k 0 hlt (by omega)
   have p1:=Q9.c k 1 hlt (by omega)
   have p2:=Q9.c k 2 hlt (by omega)
   have p3:=Q9.c k 3 hlt (by omega)
   have p4:=Q9.c k 4 hlt (by omega)
   have z0:=Q9.z k 0 hlt (by omega)
   have z1:=Q9.z k 1 hlt (by omega)
   have z2:=Q9.z k 2 hlt (by omega)
   have z3:=Q9.z k 3 hlt (by omega)
   have z4:=Q9.z k 4 hlt (by omega)
   rw [Nat.add_zero] at p0 z0
   generalize upTo k (partF c L a b (y0,i0)) k 0=o0 at p0
   generalize upTo k (partF c L a b (y0,i0)) k 1=o1 at p1
   generalize upTo k (partF c L a b (y0,i0)) k 2=o2 at p2
   generalize upTo k (partF c L a b (y0,i0)) k 3=o3 at p3
   generalize upTo k (partF c L a b (y0,i0)) k 4=o4 at p4
   have X:=(Q9.set5 hlt L p q F E).congr (f':=upTo (k+1) (partF c L a b (y0,i0))) (fun i j _ hj=>upTo_next (fun e=>by
    have:j=0∨j=1∨j=2∨j=3∨j=4:=by omega
    rcases this with rfl|rfl|rfl|rfl|rfl
    ·exact F0
    ·exact F1
    ·exact F2
    ·exact F3
    ·exact F4))
   have B10:=bset (bset (bset (bset (bset B9 (g:=G) (by omega) (k*5) (.int .i64 L)) (g:=G) (by omega) (k*5+1) (.int .i64 p)) (g:=G) (by omega) (k*5+2) (.int .i64 q)) (g:=G) (by omega) (k*5+3) (.int .i64 F)) (g:=G) (by omega) (k*5+4) (.int .i64 E)
   clear F0 F1 F2 F3 F4 Q9 B9 S9 V9 K cs
   go_wp2
   go_roundw
   case rel=>exact ⟨k+1,by omega,by go_num,B10,X⟩
   case measure=>simp [intOf];omega
  ·obtain rfl:k=M:=by omega
   have kk:decide ((k:Int)<(k:Int))=false:=decide_eq_false (by omega)
   have Z:RowTo w k 5 (partF c L a b (y0,i0)) (.returned (.tuple #[.slice (some ⟨G,0,none⟩) k k,.int .i64 0])) wr:=⟨G,rfl,Q.congr (fun i j hi _=>upTo_all hi),by omega,bthen B B2⟩
   have HZ:=Lib.hid Z
   clear Z Q
   go_wp2
   exact bodyPost_ret (v:=.tuple #[.slice (some ⟨G,0,none⟩) k k,.int .i64 0]) (by simp [results,Tryz.results16,go_sem]) rfl HZ.out

set_option maxRecDepth 100000 in
theorem cut_er (c:CalZ)(L a b er:Int)(w:World)(R:MeetsA c L a b er)(ne:er≠0)(hm:c.nm.size≤maxLen)(T:FTab w) :
  Calls Tryz.prog 16 #[.agg #[.string c.nm,.int .i64 c.k,.int .i64 c.d,.int .i64 c.m,.int .i64 c.s,.int .i64 c.sh,.int .i64 c.p0,.int .i64 c.p1,.int .i64 c.p2,.int .i64 c.cy,.int .i64 c.ex,.int .i64 c.fi,.int .i64 c.la,.int .i64 c.po],.int .i64 L,.agg #[.int .i64 a,.int .i64 b]] w fun e w'=>e= .returned (.tuple #[.slice none 0 0,.int .i64 er])∧Below w.heap.size w w':=by
 have C:=CalIn.new w c 24
 have S:=Pr.Two.new (w.alloc (.cells #[.string c.nm,.int .i64 c.k,.int .i64 c.d,.int .i64 c.m,.int .i64 c.s,.int .i64 c.sh,.int .i64 c.p0,.int .i64 c.p1,.int .i64 c.p2,.int .i64 c.cy,.int .i64 c.ex,.int .i64 c.fi,.int .i64 c.la,.int .i64 c.po] 24)) (.int .i64 a) (.int .i64 b) 26
 rw [World.size_alloc] at S
 replace C:=C.alloc (.cells #[.int .i64 a,.int .i64 b] 26)
 have B:=balloc (balloc (Below.refl _ w) (.cells #[.string c.nm,.int .i64 c.k,.int .i64 c.d,.int .i64 c.m,.int .i64 c.s,.int .i64 c.sh,.int .i64 c.p0,.int .i64 c.p1,.int .i64 c.p2,.int .i64 c.cy,.int .i64 c.ex,.int .i64 c.fi,.int .i64 c.la,.int .i64 c.po] 24)) (.cells #[.int .i64 a,.int .i64 b] 26)
 replace T:=(T.alloc (.cells #[.string c.nm,.int .i64 c.k,.int .i64 c.d,.int .i64 c.m,.int .i64 c.s,.int .i64 c.sh,.int .i64 c.p0,.int .i64 c.p1,.int .i64 c.p2,.int .i64 c.cy,.int .i64 c.ex,.int .i64 c.fi,.int .i64 c.la,.int .i64 c.po] 24)).alloc (.cells #[.int .i64 a,.int .i64 b] 26)
 have qm:=fun w T=>Meets_er c L a b er w R hm T
 have n1:(er != 0)=true:=bne_iff_ne.2 ne
 clear R ne
 go_enter Tryz.func16,Tryz.ntmps16
 go_upto_region 1 with fail
 generalize (w.alloc (.cells #[.string c.nm,.int .i64 c.k,.int .i64 c.d,.int .i64 c.m,.int .i64 c.s,.int .i64 c.sh,.int .i64 c.p0,.int .i64 c.p1,.int .i64 c.p2,.int .i64 c.cy,.int .i64 c.ex,.int .i64 c.fi,.int .i64 c.la,.int .i64 c.po] 24)).alloc (.cells #[.int .i64 a,.int .i64 b] 26)=W0 at *
 obtain ⟨_,c0,c1,c2,c3,c4,c5,c6,c7,c8,c9,c10,c11,c12,c13⟩:=id C
 obtain ⟨_,s0,s1,fs0,fs1⟩:=id S
 go_wp2_with fail
 refine (qm _ T).mono ?_
 rintro e w1 ⟨rfl,hb⟩
 replace C:=C.kept hb
 replace B:=bthen B hb
 replace T:=T.kept hb
 replace S:=S.kept hb
 clear hb c0 c1 c2 c3 c4 c5 c6 c7 c8 c9 c10 c11 c12 c13 s0 s1 fs0 fs1
 obtain ⟨_,c0,c1,c2,c3,c4,c5,c6,c7,c8,c9,c10,c11,c12,c13⟩:=id C
 obtain ⟨_,s0,s1,fs0,fs1⟩:=id S
 go_wp2
 go_ret2
 exact ⟨by simp,B⟩

set_option maxRecDepth 100000 in
theorem pdays_any (x0 x1 x2 f t:Int)(w:World)(f0:0≤f)(t1:t≤3068036)(ft:f≤t) :
  Calls Tryz.prog 27 #[.agg #[.int .i64 x0,.int .i64 x1,.int .i64 x2,.int .i64 f,.int .i64 t]] w fun e w'=>e= .returned (.int .i64 (t - f+1))∧Below w.heap.size w w':=by
 have K:=Box.new w #[.int .i64 x0,.int .i64 x1,.int .i64 x2,.int .i64 f,.int .i64 t] 61
 have B:=balloc (Below.refl _ w) (.cells #[.int .i64 x0,.int .i64 x1,.int .i64 x2,.int .i64 f,.int .i64 t] 61)
 go_enter Tryz.func27,Tryz.ntmps27
 go_upto_region 1 with fail
 generalize w.alloc (.cells #[.int .i64 x0,.int .i64 x1,.int .i64 x2,.int .i64 f,.int .i64 t] 61)=W0 at *
 obtain ⟨_,k0,k1,k2,k3,k4,fk0,fk1,fk2,fk3,fk4⟩:=K.five
 go_wp2
 go_ret
 exact ⟨by simp,B⟩

set_option maxRecDepth 100000 in
theorem daysOf_ok (g M cap:Nat)(F:Nat→Nat→Int)(w:World)(R:Mrow w g M 5 F)(M1:M≤1000000)(bd:∀ k,k<M→0≤F k 3∧F k 3≤F k 4∧F k 4≤3068036) :
  Calls Tryz.prog 17 #[.slice (some ⟨g,0,none⟩) M cap] w fun e w'=>∃ g',e= .returned (.slice (some ⟨g',0,none⟩) M M)∧Row w' g' M (fun k=>F k 4 - F k 3+1)∧w.heap.size≤g'∧Below w.heap.size w w':=by
 have HQ:=Lib.hid bd
 obtain ⟨cs,hmk,hrow⟩:=Os.make_row infoL6 underL6 M M1
 have HR:=Lib.hid hrow
 clear bd hrow
 go_enter Tryz.func17,Tryz.ntmps17
 go_upto_region 2 with fail
 have Q0:=HR.out w
 have B1:=balloc (Below.refl _ w) (.cells cs 2)
 generalize hW2:w.alloc (.cells cs 2)=W2 at *
 generalize hG:w.heap.size=G at *
 clear hW2
 go_wp2
 go_loopw [11] (fun Y wr=>∃ k:Nat,k≤M∧Y= .int .i64 (k:Int)∧Below w.heap.size w wr∧Row wr G M (fun i=>if i<k then F i 4 - F i 3+1 else 0)) (fun Y _=>M - (intOf Y).toNat)
 case atStart=>exact ⟨0,by omega,rfl,by rw [hG];exact B1,⟨Q0.lt,fun i hi=>by simpa using Q0.c i hi,Q0.fz⟩⟩
 case round =>
  clear Q0 B1
  obtain ⟨k,kM,rfl,B2,Q⟩:=hrel
  have R2:=R.kept B2
  by_cases hlt:k<M
  ·have bk:=HQ.out k hlt
   have r0:=R2.c k 0 hlt (by omega)
   have r1:=R2.c k 1 hlt (by omega)
   have r2:=R2.c k 2 hlt (by omega)
   have r3:=R2.c k 3 hlt (by omega)
   have r4:=R2.c k 4 hlt (by omega)
   rw [Nat.add_zero] at r0
   obtain ⟨x0,hx0⟩:∃ x,F k 0=x:=⟨_,rfl⟩
   obtain ⟨x1,hx1⟩:∃ x,F k 1=x:=⟨_,rfl⟩
   obtain ⟨x2,hx2⟩:∃ x,F k 2=x:=⟨_,rfl⟩
   obtain ⟨f,hf⟩:∃ x,F k 3=x:=⟨_,rfl⟩
   obtain ⟨t,ht⟩:∃ x,F k 4=x:=⟨_,rfl⟩
   have HE:=Lib.hid (And.intro hf ht)
   rw [hx0] at r0
   rw [hx1] at r1
   rw [hx2] at r2
   rw [hf] at r3 bk
   rw [ht] at r4 bk
   clear hx0 hx1 hx2 hf ht
   have kk:(k:Int)<(M:Int):=by omega
   have B3:=balloc B2 (.cells #[.int .i64 x0,.int .i64 x1,.int .i64 x2,.int .i64 f,.int .i64 t] 61)
   have K:=Box.new wr #[.int .i64 x0,.int .i64 x1,.int .i64 x2,.int .i64 f,.int .i64 t] 61
   have Q3:=Q.kept (balloc (Below.refl _ wr) (.cells #[.int .i64 x0,.int .i64 x1,.int .i64 x2,.int .i64 f,.int .i64 t] 61))
   go_upto_region 5 with fail
   clear r0 r1 r2 r3 r4 R2 Q
   generalize wr.alloc (.cells #[.int .i64 x0,.int .i64 x1,.int .i64 x2,.int .i64 f,.int .i64 t] 61)=W8 at *
   obtain ⟨_,k0,k1,k2,k3,k4,fk0,fk1,fk2,fk3,fk4⟩:=K.five
   go_wp2_with fail
   refine (pdays_any x0 x1 x2 f t _ bk.1 bk.2.2 bk.2.1).mono ?_
   rintro e w9 ⟨rfl,hb⟩
   have Q9:=Q3.kept hb
   have B9:=bthen B3 hb
   have p0:=Q9.c k hlt
   have z0:=Q9.fz k hlt
   generalize (if k<k then F k 4 - F k 3+1 else 0)=o0 at p0
   have X:=Q9.set (t - f+1) hlt
   have X2:Row (w9.setCell ⟨G,k,none⟩ (.int .i64 (t - f+1))) G M (fun i=>if i<k+1 then F i 4 - F i 3+1 else 0):=⟨X.lt,fun i hi=>by
    rw [X.c i hi]
    by_cases e1:i=k
    ·subst e1;rw [if_pos rfl,if_pos (by omega),HE.out.1,HE.out.2]
    ·by_cases e2:i<k
     ·rw [if_neg e1,if_pos e2,if_pos (by omega)]
     ·rw [if_neg e1,if_neg e2,if_neg (by omega)],X.fz⟩
   have B10:=bset B9 (g:=G) (by omega) k (.int .i64 (t - f+1))
   clear Q9 B9 B3 Q3 K k0 k1 k2 k3 k4 fk0 fk1 fk2 fk3 fk4 X hb
   go_wp2
   go_roundw
   case rel=>exact ⟨k+1,by omega,by go_num,B10,X2⟩
   case measure=>simp [intOf];omega
  ·obtain rfl:k=M:=by omega
   have kk:decide ((k:Int)<(k:Int))=false:=decide_eq_false (by omega)
   have Z:Row wr G k (fun i=>F i 4 - F i 3+1):=⟨Q.lt,fun i hi=>by have:=Q.c i hi;rwa [if_pos hi] at this,Q.fz⟩
   clear Q
   go_wp2
   go_ret
   exact ⟨G,rfl,Z,by omega,B2⟩

def DaysTo (w:World)(n:Nat)(f:Nat→Int)(e:Ending)(w':World):Prop :=
 ∃ g:Nat,e= .returned (.tuple #[.slice (some ⟨g,0,none⟩) n n,.int .i64 0])∧Row w' g n f∧w.heap.size≤g∧Below w.heap.size w w'

theorem part_bd {c:CalZ}{L a b y0 i0 y n:Int}{N:Nat}(h:Cut c L a b y0 i0 y n N)(k:Nat)(hk:k<N+1):0≤partF c L a b (y0,i0) k 3∧partF c L a b (y0,i0) k 3≤partF c L a b (y0,i0) k 4∧partF c L a b (y0,i0) k 4≤3068036:=(h.day k (by omega)).2.2.2

set_option maxRecDepth 100000 in
theorem Days_ok (c:CalZ)(L a b y0 i0 y n:Int)(N M:Nat)(w:World)(h:Cut c L a b y0 i0 y n N)(hM:N+1=M)(M1:M≤1000000)(hm:c.nm.size≤maxLen)(T:FTab w) :
  Calls Tryz.prog 6 #[.agg #[.string c.nm,.int .i64 c.k,.int .i64 c.d,.int .i64 c.m,.int .i64 c.s,.int .i64 c.sh,.int .i64 c.p0,.int .i64 c.p1,.int .i64 c.p2,.int .i64 c.cy,.int .i64 c.ex,.int .i64 c.fi,.int .i64 c.la,.int .i64 c.po],.int .i64 L,.agg #[.int .i64 a,.int .i64 b]] w (DaysTo w M (pday c L a b (y0,i0))):=by
 have C:=CalIn.new w c 24
 have S:=Pr.Two.new (w.alloc (.cells #[.string c.nm,.int .i64 c.k,.int .i64 c.d,.int .i64 c.m,.int .i64 c.s,.int .i64 c.sh,.int .i64 c.p0,.int .i64 c.p1,.int .i64 c.p2,.int .i64 c.cy,.int .i64 c.ex,.int .i64 c.fi,.int .i64 c.la,.int .i64 c.po] 24)) (.int .i64 a) (.int .i64 b) 26
 rw [World.size_alloc] at S
 replace C:=C.alloc (.cells #[.int .i64 a,.int .i64 b] 26)
 have B:=balloc (balloc (Below.refl _ w) (.cells #[.string c.nm,.int .i64 c.k,.int .i64 c.d,.int .i64 c.m,.int .i64 c.s,.int .i64 c.sh,.int .i64 c.p0,.int .i64 c.p1,.int .i64 c.p2,.int .i64 c.cy,.int .i64 c.ex,.int .i64 c.fi,.int .i64 c.la,.int .i64 c.po] 24)) (.cells #[.int .i64 a,.int .i64 b] 26)
 replace T:=(T.alloc (.cells #[.string c.nm,.int .i64 c.k,.int .i64 c.d,.int .i64 c.m,.int .i64 c.s,.int .i64 c.sh,.int .i64 c.p0,.int .i64 c.p1,.int .i64 c.p2,.int .i64 c.cy,.int .i64 c.ex,.int .i64 c.fi,.int .i64 c.la,.int .i64 c.po] 24)).alloc (.cells #[.int .i64 a,.int .i64 b] 26)
 have qc:=fun w T=>cut_ok c L a b y0 i0 y n N M w h hM M1 hm T
 have qd:=fun g w R=>daysOf_ok g M M (partF c L a b (y0,i0)) w R M1 (fun k hk=>part_bd h k (by omega))
 clear h hM
 go_enter Tryz.func6,Tryz.ntmps6
 go_upto_region 1 with fail
 generalize (w.alloc (.cells #[.string c.nm,.int .i64 c.k,.int .i64 c.d,.int .i64 c.m,.int .i64 c.s,.int .i64 c.sh,.int .i64 c.p0,.int .i64 c.p1,.int .i64 c.p2,.int .i64 c.cy,.int .i64 c.ex,.int .i64 c.fi,.int .i64 c.la,.int .i64 c.po] 24)).alloc (.cells #[.int .i64 a,.int .i64 b] 26)=W0 at *
 obtain ⟨_,c0,c1,c2,c3,c4,c5,c6,c7,c8,c9,c10,c11,c12,c13⟩:=id C
 obtain ⟨_,s0,s1,fs0,fs1⟩:=id S
 go_wp2_with fail
 refine (qc _ T).mono ?_
 rintro e w1 ⟨g,rfl,R,hg,hb⟩
 replace C:=C.kept hb
 replace B:=bthen B hb
 replace T:=T.kept hb
 replace S:=S.kept hb
 clear hb c0 c1 c2 c3 c4 c5 c6 c7 c8 c9 c10 c11 c12 c13 s0 s1 fs0 fs1
 obtain ⟨_,c0,c1,c2,c3,c4,c5,c6,c7,c8,c9,c10,c11,c12,c13⟩:=id C
 obtain ⟨_,s0,s1,fs0,fs1⟩:=id S
 go_wp2_with fail
 refine (qd g _ R).mono ?_
 rintro e w2 ⟨g',rfl,Q,hg',hb⟩
 have Z:DaysTo w M (pday c L a b (y0,i0)) (.returned (.tuple #[.slice (some ⟨g',0,none⟩) M M,.int .i64 0])) w2:=⟨g',rfl,Q,by have:=B.size;omega,bthen B hb⟩
 have HZ:=Lib.hid Z
 clear Z Q R
 go_wp2
 exact bodyPost_ret (v:=.tuple #[.slice (some ⟨g',0,none⟩) M M,.int .i64 0]) (by simp [results,Tryz.results6,go_sem]) rfl HZ.out

set_option maxRecDepth 100000 in
theorem Days_er (c:CalZ)(L a b er:Int)(w:World)(R:MeetsA c L a b er)(ne:er≠0)(hm:c.nm.size≤maxLen)(T:FTab w) :
  Calls Tryz.prog 6 #[.agg #[.string c.nm,.int .i64 c.k,.int .i64 c.d,.int .i64 c.m,.int .i64 c.s,.int .i64 c.sh,.int .i64 c.p0,.int .i64 c.p1,.int .i64 c.p2,.int .i64 c.cy,.int .i64 c.ex,.int .i64 c.fi,.int .i64 c.la,.int .i64 c.po],.int .i64 L,.agg #[.int .i64 a,.int .i64 b]] w fun e w'=>e= .returned (.tuple #[.slice none 0 0,.int .i64 er])∧Below w.heap.size w w':=by
 have C:=CalIn.new w c 24
 have S:=Pr.Two.new (w.alloc (.cells #[.string c.nm,.int .i64 c.k,.int .i64 c.d,.int .i64 c.m,.int .i64 c.s,.int .i64 c.sh,.int .i64 c.p0,.int .i64 c.p1,.int .i64 c.p2,.int .i64 c.cy,.int .i64 c.ex,.int .i64 c.fi,.int .i64 c.la,.int .i64 c.po] 24)) (.int .i64 a) (.int .i64 b) 26
 rw [World.size_alloc] at S
 replace C:=C.alloc (.cells #[.int .i64 a,.int .i64 b] 26)
 have B:=balloc (balloc (Below.refl _ w) (.cells #[.string c.nm,.int .i64 c.k,.int .i64 c.d,.int .i64 c.m,.int .i64 c.s,.int .i64 c.sh,.int .i64 c.p0,.int .i64 c.p1,.int .i64 c.p2,.int .i64 c.cy,.int .i64 c.ex,.int .i64 c.fi,.int .i64 c.la,.int .i64 c.po] 24)) (.cells #[.int .i64 a,.int .i64 b] 26)
 replace T:=(T.alloc (.cells #[.string c.nm,.int .i64 c.k,.int .i64 c.d,.int .i64 c.m,.int .i64 c.s,.int .i64 c.sh,.int .i64 c.p0,.int .i64 c.p1,.int .i64 c.p2,.int .i64 c.cy,.int .i64 c.ex,.int .i64 c.fi,.int .i64 c.la,.int .i64 c.po] 24)).alloc (.cells #[.int .i64 a,.int .i64 b] 26)
 have qm:=fun w T=>cut_er c L a b er w R ne hm T
 have n1:(er != 0)=true:=bne_iff_ne.2 ne
 clear R ne
 go_enter Tryz.func6,Tryz.ntmps6
 go_upto_region 1 with fail
 generalize (w.alloc (.cells #[.string c.nm,.int .i64 c.k,.int .i64 c.d,.int .i64 c.m,.int .i64 c.s,.int .i64 c.sh,.int .i64 c.p0,.int .i64 c.p1,.int .i64 c.p2,.int .i64 c.cy,.int .i64 c.ex,.int .i64 c.fi,.int .i64 c.la,.int .i64 c.po] 24)).alloc (.cells #[.int .i64 a,.int .i64 b] 26)=W0 at *
 obtain ⟨_,c0,c1,c2,c3,c4,c5,c6,c7,c8,c9,c10,c11,c12,c13⟩:=id C
 obtain ⟨_,s0,s1,fs0,fs1⟩:=id S
 go_wp2_with fail
 refine (qm _ T).mono ?_
 rintro e w1 ⟨rfl,hb⟩
 replace C:=C.kept hb
 replace B:=bthen B hb
 replace T:=T.kept hb
 replace S:=S.kept hb
 clear hb c0 c1 c2 c3 c4 c5 c6 c7 c8 c9 c10 c11 c12 c13 s0 s1 fs0 fs1
 obtain ⟨_,c0,c1,c2,c3,c4,c5,c6,c7,c8,c9,c10,c11,c12,c13⟩:=id C
 obtain ⟨_,s0,s1,fs0,fs1⟩:=id S
 go_wp2
 go_ret2
 exact ⟨by simp,B⟩

end Go.Proofs.YtoilomigceijaaaGreatDoor.Pp

namespace Go.Proofs.YtoilomigceijaaaGreatDoor.Pp
open Go.RowKit Bn Bx Cp Am Fp Ap Cm Em Ep Rk Hp Ip Jp Dp
open Vm (Fit1)
open Sm (IsSplit sm)
open Sr (wt split_go)
open Sl (ls ls_len ls_at ls_sum row_rd)

set_option maxHeartbeats 8000000

theorem infoS:(Tryz.prog.info? 48).map (fun i=>(i.zero,i.size,i.bytes))=some (some (.agg #[.int .i64 0,.int .i64 0,.int .i64 0,.int .i64 0]),4,32):=by kernel_rfl
theorem underS:Tryz.prog.underlying 33=some (.slice 48):=by kernel_rfl

theorem make_shares (n:Nat)(hn:n≤1000000) :
  ∃ cs:Array Value,(∀ w,(Instr.makeSlice 33 (.int .i64 (n:Int)) (.int .i64 (n:Int))).run Tryz.prog w= .ok (.slice (some ⟨w.heap.size,0,none⟩) n n) (w.alloc (.cells cs 48)))∧∀ w:World,Mrow (w.alloc (.cells cs 48)) w.heap.size n 4 (fun _ _=>0):=by
 obtain ⟨i,hi,hz0,hz1,hz2⟩:=info_parts infoS
 have e1:(n:Int).toNat=n:=by omega
 have at':∀ j,j<n*4→(madeCells #[Value.int .i64 0,.int .i64 0,.int .i64 0,.int .i64 0] (n*4))[j]?=some (.int .i64 0):=fun j hj=>by
  unfold madeCells
  have hm:j%4=0∨j%4=1∨j%4=2∨j%4=3:=by omega
  rcases hm with h|h|h|h<;>simp [hj,h]
 refine ⟨madeCells #[.int .i64 0,.int .i64 0,.int .i64 0,.int .i64 0] (n*4),fun w=>?_,fun w=>⟨by simp,fun i j hi hj=>?_,fun i j hi hj=>by simp [go_sem]⟩⟩
 ·have h:=run_make (P:=Tryz.prog) (w:=w) 33 48 i (.agg #[.int .i64 0,.int .i64 0,.int .i64 0,.int .i64 0]) underS hi hz0 .i64 .i64 n n (by omega) (by omega) (by rw [hz2];omega) (by omega)
  rw [e1,hz1] at h
  exact h
 ·simp [go_sem,at' (i*4+j) (by omega)]

structure Weigh (c:CalZ) (L a b:Int) (u:Int×Int) (M:Nat) (zs:List Int):Prop where
 eq:zs=ls (pday c L a b u) M
 len:zs.length=M
 p:∀ z ∈ zs,0≤z
 f:∀ z ∈ zs,Fit1 z
 s:zs.sum=b - a+1
 w:∀ i,i<M→wt zs i=pday c L a b u i
theorem weigh {c:CalZ}{L a b y0 i0 y n:Int}{N M:Nat}(h:Cut c L a b y0 i0 y n N)(hM:N+1=M):Weigh c L a b (y0,i0) M (ls (pday c L a b (y0,i0)) M):=by
 have m:∀ z ∈ ls (pday c L a b (y0,i0)) M,∃ k,k≤N∧z=pday c L a b (y0,i0) k:=fun z hz=>by
  unfold ls at hz
  rw [List.mem_map] at hz
  obtain ⟨k,hk,rfl⟩:=hz
  exact ⟨k,by have:=List.mem_range.1 hk;omega,rfl⟩
 refine ⟨rfl,ls_len _ _,fun z hz=>?_,fun z hz=>?_,?_,fun i hi=>ls_at _ hi⟩
 ·obtain ⟨k,hk,rfl⟩:=m z hz
  have:=(h.day k hk).1
  omega
 ·obtain ⟨k,hk,rfl⟩:=m z hz
  have d:=h.day k hk
  have g:=h.way.long k hk
  unfold Fit1
  omega
 ·rw [ls_sum,← hM,h.sum]

def shareF (c:CalZ)(L:Int)(u:Int×Int)(o:Nat→Int)(k j:Nat):Int :=
 if j=0 then L else if j=1 then (itu c L u k).1 else if j=2 then (itu c L u k).2 else o k
def SharesTo (w:World)(c:CalZ)(L A a b:Int)(u:Int×Int)(M:Nat)(e:Ending)(w':World):Prop :=
 ∃ (g:Nat) (o:Nat→Int),e= .returned (.tuple #[.slice (some ⟨g,0,none⟩) M M,.int .i64 0])∧Mrow w' g M 4 (shareF c L u o)∧IsSplit A (pday c L a b u) M o∧w.heap.size≤g∧Below w.heap.size w w'

set_option maxRecDepth 100000 in
theorem Split_ok (c:CalZ)(L A a b y0 i0 y n:Int)(N M:Nat)(w:World)(h:Cut c L a b y0 i0 y n N)(hM:N+1=M)(M1:M≤4096)(fa:Fit1 A)(hm:c.nm.size≤maxLen)(T:FTab w) :
  Calls Tryz.prog 8 #[.agg #[.string c.nm,.int .i64 c.k,.int .i64 c.d,.int .i64 c.m,.int .i64 c.s,.int .i64 c.sh,.int .i64 c.p0,.int .i64 c.p1,.int .i64 c.p2,.int .i64 c.cy,.int .i64 c.ex,.int .i64 c.fi,.int .i64 c.la,.int .i64 c.po],.int .i64 L,.int .i64 A,.agg #[.int .i64 a,.int .i64 b]] w (SharesTo w c L A a b (y0,i0) M):=by
 have C:=CalIn.new w c 24
 have S:=Pr.Two.new (w.alloc (.cells #[.string c.nm,.int .i64 c.k,.int .i64 c.d,.int .i64 c.m,.int .i64 c.s,.int .i64 c.sh,.int .i64 c.p0,.int .i64 c.p1,.int .i64 c.p2,.int .i64 c.cy,.int .i64 c.ex,.int .i64 c.fi,.int .i64 c.la,.int .i64 c.po] 24)) (.int .i64 a) (.int .i64 b) 26
 rw [World.size_alloc] at S
 replace C:=C.alloc (.cells #[.int .i64 a,.int .i64 b] 26)
 have B:=balloc (balloc (Below.refl _ w) (.cells #[.string c.nm,.int .i64 c.k,.int .i64 c.d,.int .i64 c.m,.int .i64 c.s,.int .i64 c.sh,.int .i64 c.p0,.int .i64 c.p1,.int .i64 c.p2,.int .i64 c.cy,.int .i64 c.ex,.int .i64 c.fi,.int .i64 c.la,.int .i64 c.po] 24)) (.cells #[.int .i64 a,.int .i64 b] 26)
 replace T:=(T.alloc (.cells #[.string c.nm,.int .i64 c.k,.int .i64 c.d,.int .i64 c.m,.int .i64 c.s,.int .i64 c.sh,.int .i64 c.p0,.int .i64 c.p1,.int .i64 c.p2,.int .i64 c.cy,.int .i64 c.ex,.int .i64 c.fi,.int .i64 c.la,.int .i64 c.po] 24)).alloc (.cells #[.int .i64 a,.int .i64 b] 26)
 have qc:=fun w T=>cut_ok c L a b y0 i0 y n N M w h hM (by omega) hm T
 have qd:=fun g w R=>daysOf_ok g M M (partF c L a b (y0,i0)) w R (by omega) (fun k hk=>part_bd h k (by omega))
 have W:=weigh h hM
 have bd:=h.bd
 have ab:=h.ab
 have qs:=fun g w R=>split_go (some ⟨g,0,none⟩) M M (ls (pday c L a b (y0,i0)) M) A w W.len (by omega) M1 fa W.f R W.p (by rw [W.s];omega) (by rw [W.s];unfold Fit1;omega)
 have HW:Hid (∀ o,IsSplit A (wt (ls (pday c L a b (y0,i0)) M)) M o→IsSplit A (pday c L a b (y0,i0)) M o):=Lib.hid (fun o ho=>Sl.split_congr (fun i hi=>W.w i hi) ho)
 obtain ⟨cs,hmk,hrow⟩:=make_shares M (by omega)
 have HR:=Lib.hid hrow
 clear h hM bd ab W hrow fa
 go_enter Tryz.func8,Tryz.ntmps8
 go_upto_region 1 with fail
 generalize (w.alloc (.cells #[.string c.nm,.int .i64 c.k,.int .i64 c.d,.int .i64 c.m,.int .i64 c.s,.int .i64 c.sh,.int .i64 c.p0,.int .i64 c.p1,.int .i64 c.p2,.int .i64 c.cy,.int .i64 c.ex,.int .i64 c.fi,.int .i64 c.la,.int .i64 c.po] 24)).alloc (.cells #[.int .i64 a,.int .i64 b] 26)=W0 at *
 obtain ⟨_,c0,c1,c2,c3,c4,c5,c6,c7,c8,c9,c10,c11,c12,c13⟩:=id C
 obtain ⟨_,s0,s1,fs0,fs1⟩:=id S
 go_wp2_with fail
 refine (qc _ T).mono ?_
 rintro e w1 ⟨g,rfl,R,hg,hb⟩
 replace C:=C.kept hb
 replace B:=bthen B hb
 replace T:=T.kept hb
 replace S:=S.kept hb
 clear hb c0 c1 c2 c3 c4 c5 c6 c7 c8 c9 c10 c11 c12 c13 s0 s1 fs0 fs1
 obtain ⟨_,c0,c1,c2,c3,c4,c5,c6,c7,c8,c9,c10,c11,c12,c13⟩:=id C
 obtain ⟨_,s0,s1,fs0,fs1⟩:=id S
 clear hg s0 s1 fs0 fs1 S qc
 clear c0 c1 c2 c3 c4 c5 c6 c7 c8 c9 c10 c11 c12 c13 
 go_wp2_with fail
 refine (qd g _ R).mono ?_
 rintro e w2 ⟨g2,rfl,Q,hg2,hb⟩
 replace B:=bthen B hb
 replace R:=R.kept hb
 clear hb hg2 qd
 go_wp2_with fail
 refine (qs g2 _ (row_rd Q)).mono ?_
 rintro e w3 ⟨g3,o,rfl,O,hg3,ho,hb⟩
 replace B:=bthen B hb
 replace R:=R.kept hb
 have HO:=Lib.hid (HW.out o ho)
 clear hb hg3 qs Q ho HW T C
 go_upto_region 8 with fail
 have Q0:=HR.out w3
 have B1:=balloc (Below.refl _ w3) (.cells cs 48)
 have szG:=B.size
 generalize hW2:w3.alloc (.cells cs 48)=W2 at *
 generalize hG:w3.heap.size=G at *
 clear hW2
 go_wp2
 go_loopw [41] (fun Y wr=>∃ k:Nat,k≤M∧Y= .int .i64 (k:Int)∧Below w3.heap.size w3 wr∧Mrow wr G M 4 (upTo k (shareF c L (y0,i0) o))) (fun Y _=>M - (intOf Y).toNat)
 case atStart=>exact ⟨0,by omega,rfl,by rw [hG];exact B1,Q0.congr (fun i j _ _=>(upTo_zero _ i j).symm)⟩
 case round =>
  clear Q0 B1
  obtain ⟨k,kM,rfl,B2,Q⟩:=hrel
  have R2:=R.kept B2
  have O2:=O.kept B2
  by_cases hlt:k<M
  ·have r0:=R2.c k 0 hlt (by omega)
   have r1:=R2.c k 1 hlt (by omega)
   have r2:=R2.c k 2 hlt (by omega)
   have r3:=R2.c k 3 hlt (by omega)
   have r4:=R2.c k 4 hlt (by omega)
   rw [Nat.add_zero] at r0
   have e0:partF c L a b (y0,i0) k 0=L:=rfl
   have e1:partF c L a b (y0,i0) k 1=(itu c L (y0,i0) k).1:=rfl
   have e2:partF c L a b (y0,i0) k 2=(itu c L (y0,i0) k).2:=rfl
   rw [e0] at r0
   rw [e1] at r1
   rw [e2] at r2
   clear e0 e1 e2
   obtain ⟨p,hp⟩:∃ x,(itu c L (y0,i0) k).1=x:=⟨_,rfl⟩
   obtain ⟨q,hq⟩:∃ x,(itu c L (y0,i0) k).2=x:=⟨_,rfl⟩
   obtain ⟨v,hv⟩:∃ x,o k=x:=⟨_,rfl⟩
   have HE:=Lib.hid (And.intro hp (And.intro hq hv))
   rw [hp] at r1
   rw [hq] at r2
   clear hp hq hv
   generalize partF c L a b (y0,i0) k 3=f at r3
   generalize partF c L a b (y0,i0) k 4=t at r4
   have kk:(k:Int)<(M:Int):=by omega
   have B3:=balloc B2 (.cells #[.int .i64 L,.int .i64 p,.int .i64 q,.int .i64 f,.int .i64 t] 61)
   have K:=Box.new wr #[.int .i64 L,.int .i64 p,.int .i64 q,.int .i64 f,.int .i64 t] 61
   have Q3:=Q.alloc (.cells #[.int .i64 L,.int .i64 p,.int .i64 q,.int .i64 f,.int .i64 t] 61)
   go_upto_region 11 with fail
   clear r0 r1 r2 r3 r4 R2 Q O2
   generalize wr.alloc (.cells #[.int .i64 L,.int .i64 p,.int .i64 q,.int .i64 f,.int .i64 t] 61)=W8 at *
   have O3:=O.kept B3
   obtain ⟨_,k0,k1,k2,k3,k4,fk0,fk1,fk2,fk3,fk4⟩:=K.five
   have ov:=O3.c k hlt
   rw [HE.out.2.2] at ov
   have p0:=Q3.c k 0 hlt (by omega)
   have p1:=Q3.c k 1 hlt (by omega)
   have p2:=Q3.c k 2 hlt (by omega)
   have p3:=Q3.c k 3 hlt (by omega)
   have z0:=Q3.z k 0 hlt (by omega)
   have z1:=Q3.z k 1 hlt (by omega)
   have z2:=Q3.z k 2 hlt (by omega)
   have z3:=Q3.z k 3 hlt (by omega)
   rw [Nat.add_zero] at p0 z0
   generalize upTo k (shareF c L (y0,i0) o) k 0=o0 at p0
   generalize upTo k (shareF c L (y0,i0) o) k 1=o1 at p1
   generalize upTo k (shareF c L (y0,i0) o) k 2=o2 at p2
   generalize upTo k (shareF c L (y0,i0) o) k 3=o3 at p3
   have X:=(Q3.set4 hlt L p q v).congr (f':=upTo (k+1) (shareF c L (y0,i0) o)) (fun i j _ hj=>upTo_next (fun e=>by
    have:j=0∨j=1∨j=2∨j=3:=by omega
    rcases this with rfl|rfl|rfl|rfl
    ·rfl
    ·exact HE.out.1
    ·exact HE.out.2.1
    ·exact HE.out.2.2))
   have B10:=bset (bset (bset (bset B3 (g:=G) (by omega) (k*4) (.int .i64 L)) (g:=G) (by omega) (k*4+1) (.int .i64 p)) (g:=G) (by omega) (k*4+2) (.int .i64 q)) (g:=G) (by omega) (k*4+3) (.int .i64 v)
   have XB:=Lib.hid (And.intro X B10)
   clear Q3 B3 O3 K fk0 fk1 fk2 fk3 fk4 X B10
   go_region
   all_goals go_wp2
   all_goals go_roundw
   case rel=>exact ⟨k+1,by omega,by go_num,bdrewN XB.out.2 1,XB.out.1.kept (bdrewN (Below.refl _ _) 1)⟩
   case measure=>simp [intOf];omega
  ·obtain rfl:k=M:=by omega
   have kk:decide ((k:Int)<(k:Int))=false:=decide_eq_false (by omega)
   have Z:SharesTo w c L A a b (y0,i0) k (.returned (.tuple #[.slice (some ⟨G,0,none⟩) k k,.int .i64 0])) wr:=⟨G,o,rfl,Q.congr (fun i j hi _=>upTo_all hi),HO.out,by omega,bthen B B2⟩
   have HZ:=Lib.hid Z
   clear Z Q
   go_wp2
   exact bodyPost_ret (v:=.tuple #[.slice (some ⟨G,0,none⟩) k k,.int .i64 0]) (by simp [results,Tryz.results8,go_sem]) rfl HZ.out

set_option maxRecDepth 100000 in
theorem Split_er (c:CalZ)(L A a b er:Int)(w:World)(R:MeetsA c L a b er)(ne:er≠0)(hm:c.nm.size≤maxLen)(T:FTab w) :
  Calls Tryz.prog 8 #[.agg #[.string c.nm,.int .i64 c.k,.int .i64 c.d,.int .i64 c.m,.int .i64 c.s,.int .i64 c.sh,.int .i64 c.p0,.int .i64 c.p1,.int .i64 c.p2,.int .i64 c.cy,.int .i64 c.ex,.int .i64 c.fi,.int .i64 c.la,.int .i64 c.po],.int .i64 L,.int .i64 A,.agg #[.int .i64 a,.int .i64 b]] w fun e w'=>e= .returned (.tuple #[.slice none 0 0,.int .i64 er])∧Below w.heap.size w w':=by
 have C:=CalIn.new w c 24
 have S:=Pr.Two.new (w.alloc (.cells #[.string c.nm,.int .i64 c.k,.int .i64 c.d,.int .i64 c.m,.int .i64 c.s,.int .i64 c.sh,.int .i64 c.p0,.int .i64 c.p1,.int .i64 c.p2,.int .i64 c.cy,.int .i64 c.ex,.int .i64 c.fi,.int .i64 c.la,.int .i64 c.po] 24)) (.int .i64 a) (.int .i64 b) 26
 rw [World.size_alloc] at S
 replace C:=C.alloc (.cells #[.int .i64 a,.int .i64 b] 26)
 have B:=balloc (balloc (Below.refl _ w) (.cells #[.string c.nm,.int .i64 c.k,.int .i64 c.d,.int .i64 c.m,.int .i64 c.s,.int .i64 c.sh,.int .i64 c.p0,.int .i64 c.p1,.int .i64 c.p2,.int .i64 c.cy,.int .i64 c.ex,.int .i64 c.fi,.int .i64 c.la,.int .i64 c.po] 24)) (.cells #[.int .i64 a,.int .i64 b] 26)
 replace T:=(T.alloc (.cells #[.string c.nm,.int .i64 c.k,.int .i64 c.d,.int .i64 c.m,.int .i64 c.s,.int .i64 c.sh,.int .i64 c.p0,.int .i64 c.p1,.int .i64 c.p2,.int .i64 c.cy,.int .i64 c.ex,.int .i64 c.fi,.int .i64 c.la,.int .i64 c.po] 24)).alloc (.cells #[.int .i64 a,.int .i64 b] 26)
 have qm:=fun w T=>cut_er c L a b er w R ne hm T
 have n1:(er != 0)=true:=bne_iff_ne.2 ne
 clear R ne
 go_enter Tryz.func8,Tryz.ntmps8
 go_upto_region 1 with fail
 generalize (w.alloc (.cells #[.string c.nm,.int .i64 c.k,.int .i64 c.d,.int .i64 c.m,.int .i64 c.s,.int .i64 c.sh,.int .i64 c.p0,.int .i64 c.p1,.int .i64 c.p2,.int .i64 c.cy,.int .i64 c.ex,.int .i64 c.fi,.int .i64 c.la,.int .i64 c.po] 24)).alloc (.cells #[.int .i64 a,.int .i64 b] 26)=W0 at *
 obtain ⟨_,c0,c1,c2,c3,c4,c5,c6,c7,c8,c9,c10,c11,c12,c13⟩:=id C
 obtain ⟨_,s0,s1,fs0,fs1⟩:=id S
 go_wp2_with fail
 refine (qm _ T).mono ?_
 rintro e w1 ⟨rfl,hb⟩
 replace C:=C.kept hb
 replace B:=bthen B hb
 replace T:=T.kept hb
 replace S:=S.kept hb
 clear hb c0 c1 c2 c3 c4 c5 c6 c7 c8 c9 c10 c11 c12 c13 s0 s1 fs0 fs1
 obtain ⟨_,c0,c1,c2,c3,c4,c5,c6,c7,c8,c9,c10,c11,c12,c13⟩:=id C
 obtain ⟨_,s0,s1,fs0,fs1⟩:=id S
 go_wp2
 go_ret2
 exact ⟨by simp,B⟩

end Go.Proofs.YtoilomigceijaaaGreatDoor.Pp

