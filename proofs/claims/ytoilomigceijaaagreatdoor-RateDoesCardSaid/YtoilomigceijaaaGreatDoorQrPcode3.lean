/- Exact of package rate. -/
import Derived.Test.YtoilomigceijaaaGreatDoorQrJPa
import Derived.Test.YtoilomigceijaaaGreatDoorQrJQ
set_option linter.unusedSimpArgs false
set_option linter.unusedVariables false
namespace Go.Proofs.YtoilomigceijaaaGreatDoor.Pp
open Go.RowKit Bn Bx Cp Am Fp Ap Cm Em Ep Rk Hp Ip Jp Dp
open Vm (Fit1)
open Sm (IsSplit sm)
open Qm (Rat1 rat1_ex)
open Sr (wt exact_go exact_over ExactRes)
open Sl (ls ls_len ls_at ls_sum row_rd)

set_option maxHeartbeats 8000000

theorem exact_ex (A t:Int)(pd:Nat→Int)(M:Nat)(t0:t≠0):(∃ N D:Nat→Int,∀ i,i<M→Rat1 (A*pd i) t (N i) (D i) 0)∨∃ (k0:Nat) (N D:Nat→Int),k0<M∧(∀ i,i<k0→Rat1 (A*pd i) t (N i) (D i) 0)∧Rat1 (A*pd k0) t 0 0 2:=by
 have RX:∀ i,∃ N D er,Rat1 (A*pd i) t N D er:=fun i=>rat1_ex _ t0
 have pick:∀ m,(∀ i,i<m→∃ N D,Rat1 (A*pd i) t N D 0)→∃ N D:Nat→Int,∀ i,i<m→Rat1 (A*pd i) t (N i) (D i) 0:=fun m RF=>by
  classical
  refine ⟨fun i=>if h:i<m then (RF i h).choose else 0,fun i=>if h:i<m then (RF i h).choose_spec.choose else 0,fun i h=>?_⟩
  simp only [h,dif_pos]
  exact (RF i h).choose_spec.choose_spec
 induction M with
 | zero=>exact .inl ⟨fun _=>0,fun _=>0,fun i h=>by omega⟩
 | succ m ih =>
   rcases ih with ⟨N,D,h⟩|⟨k0,N,D,h1,h2,h3⟩
   ·obtain ⟨n,d,er,r⟩:=RX m
    rcases id r with ⟨e,_⟩|⟨e,e1,e2,_⟩
    ·subst e
     refine .inl (pick (m+1) (fun i hi=>?_))
     by_cases q:i=m
     ·subst q;exact ⟨n,d,r⟩
     ·exact ⟨N i,D i,h i (by omega)⟩
    ·subst e e1 e2
     exact .inr ⟨m,N,D,by omega,h,r⟩
   ·exact .inr ⟨k0,N,D,by omega,h2,h3⟩

set_option maxRecDepth 100000 in
theorem Exact_ok (c:CalZ)(L A a b y0 i0 y n:Int)(N M:Nat)(p q:Nat→Int)(w:World)(h:Cut c L a b y0 i0 y n N)(hM:N+1=M)(M1:M≤4096)(fa:Fit1 A)(R:∀ i,i<M→Rat1 (A*pday c L a b (y0,i0) i) (b - a+1) (p i) (q i) 0)(hm:c.nm.size≤maxLen)(T:FTab w) :
  Calls Tryz.prog 10 #[.agg #[.string c.nm,.int .i64 c.k,.int .i64 c.d,.int .i64 c.m,.int .i64 c.s,.int .i64 c.sh,.int .i64 c.p0,.int .i64 c.p1,.int .i64 c.p2,.int .i64 c.cy,.int .i64 c.ex,.int .i64 c.fi,.int .i64 c.la,.int .i64 c.po],.int .i64 L,.int .i64 A,.agg #[.int .i64 a,.int .i64 b]] w (ExactRes w M p q):=by
 have C:=CalIn.new w c 24
 have S:=Pr.Two.new (w.alloc (.cells #[.string c.nm,.int .i64 c.k,.int .i64 c.d,.int .i64 c.m,.int .i64 c.s,.int .i64 c.sh,.int .i64 c.p0,.int .i64 c.p1,.int .i64 c.p2,.int .i64 c.cy,.int .i64 c.ex,.int .i64 c.fi,.int .i64 c.la,.int .i64 c.po] 24)) (.int .i64 a) (.int .i64 b) 26
 rw [World.size_alloc] at S
 replace C:=C.alloc (.cells #[.int .i64 a,.int .i64 b] 26)
 have B:=balloc (balloc (Below.refl _ w) (.cells #[.string c.nm,.int .i64 c.k,.int .i64 c.d,.int .i64 c.m,.int .i64 c.s,.int .i64 c.sh,.int .i64 c.p0,.int .i64 c.p1,.int .i64 c.p2,.int .i64 c.cy,.int .i64 c.ex,.int .i64 c.fi,.int .i64 c.la,.int .i64 c.po] 24)) (.cells #[.int .i64 a,.int .i64 b] 26)
 replace T:=(T.alloc (.cells #[.string c.nm,.int .i64 c.k,.int .i64 c.d,.int .i64 c.m,.int .i64 c.s,.int .i64 c.sh,.int .i64 c.p0,.int .i64 c.p1,.int .i64 c.p2,.int .i64 c.cy,.int .i64 c.ex,.int .i64 c.fi,.int .i64 c.la,.int .i64 c.po] 24)).alloc (.cells #[.int .i64 a,.int .i64 b] 26)
 have qd:=fun w T=>Days_ok c L a b y0 i0 y n N M w h hM (by omega) hm T
 have W:=weigh h hM
 have bd:=h.bd
 have ab:=h.ab
 have qs:=fun g w R2=>exact_go (some ⟨g,0,none⟩) M M (ls (pday c L a b (y0,i0)) M) A p q w W.len (by omega) M1 fa W.f R2 W.p (by rw [W.s];omega) (by rw [W.s];unfold Fit1;omega) (fun i hi=>by rw [W.w i hi,W.s];exact R i hi)
 clear h hM bd ab W fa R
 go_enter Tryz.func10,Tryz.ntmps10
 go_upto_region 1 with fail
 generalize (w.alloc (.cells #[.string c.nm,.int .i64 c.k,.int .i64 c.d,.int .i64 c.m,.int .i64 c.s,.int .i64 c.sh,.int .i64 c.p0,.int .i64 c.p1,.int .i64 c.p2,.int .i64 c.cy,.int .i64 c.ex,.int .i64 c.fi,.int .i64 c.la,.int .i64 c.po] 24)).alloc (.cells #[.int .i64 a,.int .i64 b] 26)=W0 at *
 obtain ⟨_,c0,c1,c2,c3,c4,c5,c6,c7,c8,c9,c10,c11,c12,c13⟩:=id C
 obtain ⟨_,s0,s1,fs0,fs1⟩:=id S
 go_wp2_with fail
 refine (qd _ T).mono ?_
 rintro e w1 ⟨g,rfl,Q,hg,hb⟩
 replace C:=C.kept hb
 replace B:=bthen B hb
 replace T:=T.kept hb
 replace S:=S.kept hb
 clear hb c0 c1 c2 c3 c4 c5 c6 c7 c8 c9 c10 c11 c12 c13 s0 s1 fs0 fs1
 obtain ⟨_,c0,c1,c2,c3,c4,c5,c6,c7,c8,c9,c10,c11,c12,c13⟩:=id C
 obtain ⟨_,s0,s1,fs0,fs1⟩:=id S
 go_wp2_with fail
 refine (qs g _ (row_rd Q)).mono ?_
 rintro e w2 ⟨g2,rfl,O,hg2,hb⟩
 have Z:ExactRes w M p q (.returned (.tuple #[.slice (some ⟨g2,0,none⟩) M M,.int .i64 0])) w2:=⟨g2,rfl,O,by have:=B.size;omega,bthen B hb⟩
 have HZ:=Lib.hid Z
 clear Z O Q
 go_wp2
 exact bodyPost_ret (v:=.tuple #[.slice (some ⟨g2,0,none⟩) M M,.int .i64 0]) (by simp [results,Tryz.results10,go_sem]) rfl HZ.out

set_option maxRecDepth 100000 in
theorem Exact_over (c:CalZ)(L A a b y0 i0 y n:Int)(N M k0:Nat)(p q:Nat→Int)(w:World)(h:Cut c L a b y0 i0 y n N)(hM:N+1=M)(M1:M≤4096)(fa:Fit1 A)(hk:k0<M)(R:∀ i,i<k0→Rat1 (A*pday c L a b (y0,i0) i) (b - a+1) (p i) (q i) 0)(RE:Rat1 (A*pday c L a b (y0,i0) k0) (b - a+1) 0 0 2)(hm:c.nm.size≤maxLen)(T:FTab w) :
  Calls Tryz.prog 10 #[.agg #[.string c.nm,.int .i64 c.k,.int .i64 c.d,.int .i64 c.m,.int .i64 c.s,.int .i64 c.sh,.int .i64 c.p0,.int .i64 c.p1,.int .i64 c.p2,.int .i64 c.cy,.int .i64 c.ex,.int .i64 c.fi,.int .i64 c.la,.int .i64 c.po],.int .i64 L,.int .i64 A,.agg #[.int .i64 a,.int .i64 b]] w fun e w'=>e= .returned (.tuple #[.slice none 0 0,.int .i64 2])∧Below w.heap.size w w':=by
 have C:=CalIn.new w c 24
 have S:=Pr.Two.new (w.alloc (.cells #[.string c.nm,.int .i64 c.k,.int .i64 c.d,.int .i64 c.m,.int .i64 c.s,.int .i64 c.sh,.int .i64 c.p0,.int .i64 c.p1,.int .i64 c.p2,.int .i64 c.cy,.int .i64 c.ex,.int .i64 c.fi,.int .i64 c.la,.int .i64 c.po] 24)) (.int .i64 a) (.int .i64 b) 26
 rw [World.size_alloc] at S
 replace C:=C.alloc (.cells #[.int .i64 a,.int .i64 b] 26)
 have B:=balloc (balloc (Below.refl _ w) (.cells #[.string c.nm,.int .i64 c.k,.int .i64 c.d,.int .i64 c.m,.int .i64 c.s,.int .i64 c.sh,.int .i64 c.p0,.int .i64 c.p1,.int .i64 c.p2,.int .i64 c.cy,.int .i64 c.ex,.int .i64 c.fi,.int .i64 c.la,.int .i64 c.po] 24)) (.cells #[.int .i64 a,.int .i64 b] 26)
 replace T:=(T.alloc (.cells #[.string c.nm,.int .i64 c.k,.int .i64 c.d,.int .i64 c.m,.int .i64 c.s,.int .i64 c.sh,.int .i64 c.p0,.int .i64 c.p1,.int .i64 c.p2,.int .i64 c.cy,.int .i64 c.ex,.int .i64 c.fi,.int .i64 c.la,.int .i64 c.po] 24)).alloc (.cells #[.int .i64 a,.int .i64 b] 26)
 have qd:=fun w T=>Days_ok c L a b y0 i0 y n N M w h hM (by omega) hm T
 have W:=weigh h hM
 have bd:=h.bd
 have ab:=h.ab
 have qs:=fun g w R2=>exact_over (some ⟨g,0,none⟩) M M (ls (pday c L a b (y0,i0)) M) A p q k0 hk w W.len (by omega) M1 fa W.f R2 W.p (by rw [W.s];omega) (by rw [W.s];unfold Fit1;omega) (fun i hi=>by rw [W.w i (by omega),W.s];exact R i hi) (by rw [W.w k0 hk,W.s];exact RE)
 clear h hM bd ab W fa R RE
 go_enter Tryz.func10,Tryz.ntmps10
 go_upto_region 1 with fail
 generalize (w.alloc (.cells #[.string c.nm,.int .i64 c.k,.int .i64 c.d,.int .i64 c.m,.int .i64 c.s,.int .i64 c.sh,.int .i64 c.p0,.int .i64 c.p1,.int .i64 c.p2,.int .i64 c.cy,.int .i64 c.ex,.int .i64 c.fi,.int .i64 c.la,.int .i64 c.po] 24)).alloc (.cells #[.int .i64 a,.int .i64 b] 26)=W0 at *
 obtain ⟨_,c0,c1,c2,c3,c4,c5,c6,c7,c8,c9,c10,c11,c12,c13⟩:=id C
 obtain ⟨_,s0,s1,fs0,fs1⟩:=id S
 go_wp2_with fail
 refine (qd _ T).mono ?_
 rintro e w1 ⟨g,rfl,Q,hg,hb⟩
 replace C:=C.kept hb
 replace B:=bthen B hb
 replace T:=T.kept hb
 replace S:=S.kept hb
 clear hb c0 c1 c2 c3 c4 c5 c6 c7 c8 c9 c10 c11 c12 c13 s0 s1 fs0 fs1
 obtain ⟨_,c0,c1,c2,c3,c4,c5,c6,c7,c8,c9,c10,c11,c12,c13⟩:=id C
 obtain ⟨_,s0,s1,fs0,fs1⟩:=id S
 go_wp2_with fail
 refine (qs g _ (row_rd Q)).mono ?_
 rintro e w2 ⟨rfl,hb⟩
 go_wp2
 go_ret2
 exact ⟨by simp,bthen B hb⟩

set_option maxRecDepth 100000 in
theorem Exact_er (c:CalZ)(L A a b er:Int)(w:World)(R:MeetsA c L a b er)(ne:er≠0)(hm:c.nm.size≤maxLen)(T:FTab w) :
  Calls Tryz.prog 10 #[.agg #[.string c.nm,.int .i64 c.k,.int .i64 c.d,.int .i64 c.m,.int .i64 c.s,.int .i64 c.sh,.int .i64 c.p0,.int .i64 c.p1,.int .i64 c.p2,.int .i64 c.cy,.int .i64 c.ex,.int .i64 c.fi,.int .i64 c.la,.int .i64 c.po],.int .i64 L,.int .i64 A,.agg #[.int .i64 a,.int .i64 b]] w fun e w'=>e= .returned (.tuple #[.slice none 0 0,.int .i64 er])∧Below w.heap.size w w':=by
 have C:=CalIn.new w c 24
 have S:=Pr.Two.new (w.alloc (.cells #[.string c.nm,.int .i64 c.k,.int .i64 c.d,.int .i64 c.m,.int .i64 c.s,.int .i64 c.sh,.int .i64 c.p0,.int .i64 c.p1,.int .i64 c.p2,.int .i64 c.cy,.int .i64 c.ex,.int .i64 c.fi,.int .i64 c.la,.int .i64 c.po] 24)) (.int .i64 a) (.int .i64 b) 26
 rw [World.size_alloc] at S
 replace C:=C.alloc (.cells #[.int .i64 a,.int .i64 b] 26)
 have B:=balloc (balloc (Below.refl _ w) (.cells #[.string c.nm,.int .i64 c.k,.int .i64 c.d,.int .i64 c.m,.int .i64 c.s,.int .i64 c.sh,.int .i64 c.p0,.int .i64 c.p1,.int .i64 c.p2,.int .i64 c.cy,.int .i64 c.ex,.int .i64 c.fi,.int .i64 c.la,.int .i64 c.po] 24)) (.cells #[.int .i64 a,.int .i64 b] 26)
 replace T:=(T.alloc (.cells #[.string c.nm,.int .i64 c.k,.int .i64 c.d,.int .i64 c.m,.int .i64 c.s,.int .i64 c.sh,.int .i64 c.p0,.int .i64 c.p1,.int .i64 c.p2,.int .i64 c.cy,.int .i64 c.ex,.int .i64 c.fi,.int .i64 c.la,.int .i64 c.po] 24)).alloc (.cells #[.int .i64 a,.int .i64 b] 26)
 have qm:=fun w T=>Days_er c L a b er w R ne hm T
 have n1:(er != 0)=true:=bne_iff_ne.2 ne
 clear R ne
 go_enter Tryz.func10,Tryz.ntmps10
 go_upto_region 1 with fail
 generalize (w.alloc (.cells #[.string c.nm,.int .i64 c.k,.int .i64 c.d,.int .i64 c.m,.int .i64 c.s,.int .i64 c.sh,.int .i64 c.p0,.int .i64 c.p1,.int .i64 c.p2,.int .i64 c.cy,.int .i64 c.ex,.int .i64 c.fi,.int .i64 c.la,.int .i64 c.po] 24)).alloc (.cells #[.int .i64 a,.int .i64 b] 26)=W0 at *
 obtain ⟨_,c0,c1,c2,c3,c4,c5,c6,c7,c8,c9,c10,c11,c12,c13⟩:=id C
 obtain ⟨_,s0,s1,fs0,fs1⟩:=id S
 go_wp2_with fail
 refine (qm _ T).mono ?_
 rintro e w1 ⟨rfl,hb⟩
 replace C:=C.kept hb
 replace B:=bthen B hb
 replace T:=T.kept hb
 replace S:=S.kept hb
 clear hb c0 c1 c2 c3 c4 c5 c6 c7 c8 c9 c10 c11 c12 c13 s0 s1 fs0 fs1
 obtain ⟨_,c0,c1,c2,c3,c4,c5,c6,c7,c8,c9,c10,c11,c12,c13⟩:=id C
 obtain ⟨_,s0,s1,fs0,fs1⟩:=id S
 go_wp2
 go_ret2
 exact ⟨by simp,B⟩

end Go.Proofs.YtoilomigceijaaaGreatDoor.Pp

