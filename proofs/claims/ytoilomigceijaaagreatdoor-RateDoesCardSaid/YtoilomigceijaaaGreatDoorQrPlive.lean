/- live and brief of layer 21. -/
import Derived.Test.YtoilomigceijaaaGreatDoorQrJPa
import Derived.OpenShut
import Derived.BigQuiet
set_option linter.unusedSimpArgs false
set_option linter.unusedVariables false
namespace Go.Proofs.YtoilomigceijaaaGreatDoor.Pl
open Go.RowKit Bn Bx Cp Am Fp Ap Cm Em Ep Rk Hp Ip Jp Dp Pp
open Sm (IsSplit sm)

set_option maxHeartbeats 4000000

def RBrief (c:CalZ)(a b:Int)(w:World)(e:Ending)(w':World):Prop :=
 ∃ r,e= .returned (.bool r)∧Below w.heap.size w w'∧(r=true→c.nm.size≤100∧(a≤b→0≤a→b≤3068036→b - a≤1500))

set_option maxRecDepth 100000 in
theorem rbrief_any (c:CalZ)(a b:Int)(w:World):Calls Tryz.prog 5 #[.agg #[.string c.nm,.int .i64 c.k,.int .i64 c.d,.int .i64 c.m,.int .i64 c.s,.int .i64 c.sh,.int .i64 c.p0,.int .i64 c.p1,.int .i64 c.p2,.int .i64 c.cy,.int .i64 c.ex,.int .i64 c.fi,.int .i64 c.la,.int .i64 c.po],.agg #[.int .i64 a,.int .i64 b]] w (RBrief c a b w):=by
 have C:=CalIn.new w c 24
 have K:=Pr.Two.new (w.alloc (.cells #[.string c.nm,.int .i64 c.k,.int .i64 c.d,.int .i64 c.m,.int .i64 c.s,.int .i64 c.sh,.int .i64 c.p0,.int .i64 c.p1,.int .i64 c.p2,.int .i64 c.cy,.int .i64 c.ex,.int .i64 c.fi,.int .i64 c.la,.int .i64 c.po] 24)) (.int .i64 a) (.int .i64 b) 26
 rw [World.size_alloc] at K
 replace C:=C.alloc (.cells #[.int .i64 a,.int .i64 b] 26)
 have B:=balloc (balloc (Below.refl _ w) (.cells #[.string c.nm,.int .i64 c.k,.int .i64 c.d,.int .i64 c.m,.int .i64 c.s,.int .i64 c.sh,.int .i64 c.p0,.int .i64 c.p1,.int .i64 c.p2,.int .i64 c.cy,.int .i64 c.ex,.int .i64 c.fi,.int .i64 c.la,.int .i64 c.po] 24)) (.cells #[.int .i64 a,.int .i64 b] 26)
 obtain ⟨_,c0,c1,c2,c3,c4,c5,c6,c7,c8,c9,c10,c11,c12,c13⟩:=id C
 obtain ⟨_,r0,r1,g0,g1⟩:=id K
 by_cases hl:100<c.nm.size
 ·have d1:decide ((c.nm.size:Int)≤100)=false:=decide_eq_false (by omega)
  clear hl
  go_enter Tryz.func5,Tryz.ntmps5
  go_wp2
  go_ret
  exact ⟨false,by simp,B,fun h=>by cases h⟩
 have d1:decide ((c.nm.size:Int)≤100)=true:=decide_eq_true (by omega)
 have O:decide (b<a)=true∨(decide (b<a)=false∧decide (a<0)=true)∨(decide (b<a)=false∧decide (a<0)=false∧decide ((3068037:Int)≤b)=true)∨(decide (b<a)=false∧decide (a<0)=false∧decide ((3068037:Int)≤b)=false):=by
  by_cases h1:b<a
  ·exact .inl (decide_eq_true h1)
  ·by_cases h2:a<0
   ·exact .inr (.inl ⟨decide_eq_false h1,decide_eq_true h2⟩)
   ·by_cases h3:(3068037:Int)≤b
    ·exact .inr (.inr (.inl ⟨decide_eq_false h1,decide_eq_false h2,decide_eq_true h3⟩))
    ·exact .inr (.inr (.inr ⟨decide_eq_false h1,decide_eq_false h2,decide_eq_false h3⟩))
 have hl':=Lib.hid hl
 clear hl
 rcases O with h1|⟨h1,h2⟩|⟨h1,h2,h3⟩|⟨h1,h2,h3⟩
 ·go_enter Tryz.func5,Tryz.ntmps5
  go_wp2
  go_ret
  exact ⟨true,by simp,B,fun _=>⟨by have:=hl'.out;omega,fun q1 _ _=>by have:=of_decide_eq_true h1;omega⟩⟩
 ·go_enter Tryz.func5,Tryz.ntmps5
  go_wp2
  go_ret
  exact ⟨true,by simp,B,fun _=>⟨by have:=hl'.out;omega,fun _ q1 _=>by have:=of_decide_eq_true h2;omega⟩⟩
 ·go_enter Tryz.func5,Tryz.ntmps5
  go_wp2
  go_ret
  exact ⟨true,by simp,B,fun _=>⟨by have:=hl'.out;omega,fun _ _ q1=>by have:=of_decide_eq_true h3;omega⟩⟩
 ·have q1:=of_decide_eq_false h1
  have q2:=of_decide_eq_false h2
  have q3:=of_decide_eq_false h3
  have hz:IntKind.i64.wrap (b - a)=b - a:=IntWalk.i64_in _ (by omega)
  obtain ⟨v,hv⟩:∃ v,decide (b - a≤1500)=v:=⟨_,rfl⟩
  clear q1 q2 q3
  go_enter Tryz.func5,Tryz.ntmps5
  go_wp2
  go_ret
  exact ⟨v,by simp,B,fun h=>⟨by have:=hl'.out;omega,fun _ _ _=>by rw [h] at hv;exact of_decide_eq_true hv⟩⟩

def nrf2:CalZ:=⟨⟨#[120]⟩,3,6,1,1,1,4,5,4,0,12,2000,2030,1⟩
theorem nrf2_ok:CalOk nrf2:=⟨.inr (.inl ⟨rfl,rfl,rfl,rfl,rfl,rfl,rfl,rfl,rfl,rfl⟩),by decide,⟨by decide,by decide,by decide,by decide⟩,⟨by decide,by decide,by decide⟩⟩
theorem nrf2_7:UnitOk nrf2 5 2023 7:=⟨nrf2_ok,⟨by decide,by decide⟩,⟨by decide,by decide⟩,by decide,by decide +kernel⟩
theorem nrf2_8:UnitOk nrf2 5 2023 8:=⟨nrf2_ok,⟨by decide,by decide⟩,⟨by decide,by decide⟩,by decide,by decide +kernel⟩
theorem nrf2_ends:uend nrf2 2023 5 (7 - 1)+1=154568∧uend nrf2 2023 5 7=154574∧uend nrf2 2023 5 8=154581∧uend nrf2 2023 5 (8 - 1)=154574:=by decide +kernel
theorem nrf2_cut:Cut nrf2 5 154573 154575 2023 7 2023 8 1:=by
 have e:=nrf2_ends
 obtain ⟨N,way⟩:=way_ex nrf2_8 nrf2_7 (.inr ⟨rfl,by decide⟩)
 have l:=way.len
 have a:=way.at_
 have n1:N=1:=by
  by_cases z:N=0
  ·subst z
   simp [itu] at a
  ·omega
 subst n1
 exact ⟨way,daya_of nrf2_7 (by omega) (by omega),daya_of nrf2_8 (by omega) (by omega),by decide⟩
theorem nrf2_days:pday nrf2 5 154573 154575 (2023,7) 0=2∧pday nrf2 5 154573 154575 (2023,7) 1=1:=by decide +kernel
theorem split_73 {w o:Nat→Int}(h0:w 0=2)(h1:w 1=1)(h:IsSplit 10 w 2 o):o 0=7∧o 1=3:=by
 obtain ⟨C,hC,e⟩:=h
 have t:Sm.tot w 2=3:=by simp [Sm.tot,sm,h0,h1]
 have q0:Sm.quo 10 w 2 0=6:=by unfold Sm.quo;rw [t,h0];rfl
 have q1:Sm.quo 10 w 2 1=3:=by unfold Sm.quo;rw [t,h1];rfl
 have r0:Sm.rem 10 w 2 0=2:=by unfold Sm.rem;rw [t,h0];rfl
 have r1:Sm.rem 10 w 2 1=1:=by unfold Sm.rem;rw [t,h1];rfl
 have lf:Sm.left 10 w 2=1:=by unfold Sm.left;rw [t];simp [sm,r0,r1]
 have c:=hC.1
 rw [lf] at c
 rw [e 0 (by omega),e 1 (by omega),q0,q1]
 cases c0:C 0<;>cases c1:C 1<;>simp [Sm.cnt,sm,Sm.one,c0,c1] at c ⊢
 have:=hC.2 1 0 (by omega) (by omega) c1 c0
 unfold Sm.Ahead at this
 omega

set_option maxRecDepth 100000 in
set_option maxHeartbeats 8000000 in
theorem rlive_ok (w:World)(tb:FTab w):Calls Tryz.prog 4 #[] w fun e w'=>e= .returned (.bool true)∧Below w.heap.size w w':=by
 have en:=nrf2_ends
 have q1:∀ w,FTab w→Calls Tryz.prog 15 #[.agg #[.string ⟨#[120]⟩,.int .i64 3,.int .i64 6,.int .i64 1,.int .i64 1,.int .i64 1,.int .i64 4,.int .i64 5,.int .i64 4,.int .i64 0,.int .i64 12,.int .i64 2000,.int .i64 2030,.int .i64 1],.agg #[.int .i64 5,.int .i64 2023,.int .i64 7]] w fun e w'=>e= .returned (.tuple #[.agg #[.int .i64 154568,.int .i64 154574],.int .i64 0])∧Below w.heap.size w w' :=
  fun w T=>Span_any nrf2 5 2023 7 154568 154574 0 w (.inl ⟨nrf2_7,en.1.symm,en.2.1.symm,rfl⟩) (by unfold maxLen;decide) T
 have q2:∀ w,FTab w→Calls Tryz.prog 8 #[.agg #[.string ⟨#[120]⟩,.int .i64 3,.int .i64 6,.int .i64 1,.int .i64 1,.int .i64 1,.int .i64 4,.int .i64 5,.int .i64 4,.int .i64 0,.int .i64 12,.int .i64 2000,.int .i64 2030,.int .i64 1],.int .i64 5,.int .i64 10,.agg #[.int .i64 154573,.int .i64 154575]] w (SharesTo w nrf2 5 10 154573 154575 (2023,7) 2) :=
  fun w T=>Split_ok nrf2 5 10 154573 154575 2023 7 2023 8 1 2 w nrf2_cut rfl (by omega) (by unfold Vm.Fit1;omega) (by unfold maxLen;decide) T
 clear en
 have C:=CalIn.new w nrf2 24
 have B:=balloc (Below.refl _ w) (.cells #[.string ⟨#[120]⟩,.int .i64 3,.int .i64 6,.int .i64 1,.int .i64 1,.int .i64 1,.int .i64 4,.int .i64 5,.int .i64 4,.int .i64 0,.int .i64 12,.int .i64 2000,.int .i64 2030,.int .i64 1] 24)
 have T:=tb.alloc (.cells #[.string ⟨#[120]⟩,.int .i64 3,.int .i64 6,.int .i64 1,.int .i64 1,.int .i64 1,.int .i64 4,.int .i64 5,.int .i64 4,.int .i64 0,.int .i64 12,.int .i64 2000,.int .i64 2030,.int .i64 1] 24)
 go_enter Tryz.func4,Tryz.ntmps4
 go_upto_region 2 with fail
 replace C:CalIn (w.alloc (.cells #[.string ⟨#[120]⟩,.int .i64 3,.int .i64 6,.int .i64 1,.int .i64 1,.int .i64 1,.int .i64 4,.int .i64 5,.int .i64 4,.int .i64 0,.int .i64 12,.int .i64 2000,.int .i64 2030,.int .i64 1] 24)) w.heap.size nrf2:=C
 generalize w.alloc (.cells #[.string ⟨#[120]⟩,.int .i64 3,.int .i64 6,.int .i64 1,.int .i64 1,.int .i64 1,.int .i64 4,.int .i64 5,.int .i64 4,.int .i64 0,.int .i64 12,.int .i64 2000,.int .i64 2030,.int .i64 1] 24)=W0 at *
 obtain ⟨_,k0,k1,k2,k3,k4,k5,k6,k7,k8,k9,k10,k11,k12,k13⟩:=id C
 simp only [nrf2] at k0 k1 k2 k3 k4 k5 k6 k7 k8 k9 k10 k11 k12 k13
 go_wp2_with fail
 refine (q1 _ T).mono ?_
 rintro e w1 ⟨rfl,hb⟩
 replace C:=C.kept hb
 replace B:=bthen B hb
 replace T:=T.kept hb
 clear hb k0 k1 k2 k3 k4 k5 k6 k7 k8 k9 k10 k11 k12 k13
 have K:=Pr.Two.new w1 (.int .i64 154568) (.int .i64 154574) 26
 replace C:=C.alloc (.cells #[.int .i64 154568,.int .i64 154574] 26)
 replace T:=T.alloc (.cells #[.int .i64 154568,.int .i64 154574] 26)
 replace B:=balloc B (.cells #[.int .i64 154568,.int .i64 154574] 26)
 obtain ⟨_,k0,k1,k2,k3,k4,k5,k6,k7,k8,k9,k10,k11,k12,k13⟩:=id C
 obtain ⟨_,x0,x1,fx0,fx1⟩:=id K
 simp only [nrf2] at k0 k1 k2 k3 k4 k5 k6 k7 k8 k9 k10 k11 k12 k13
 go_wp2_with fail
 refine (q2 _ T).mono ?_
 rintro e w2 ⟨g,o,rfl,R,ho,hg,hb⟩
 replace B:=bthen B hb
 clear hb hg k0 k1 k2 k3 k4 k5 k6 k7 k8 k9 k10 k11 k12 k13 x0 x1 fx0 fx1 C T q1 q2
 obtain ⟨s0,s1⟩:=split_73 nrf2_days.1 nrf2_days.2 ho
 have r0:=R.c 0 3 (by omega) (by omega)
 have r1:=R.c 1 3 (by omega) (by omega)
 have e0:shareF nrf2 5 (2023,7) o 0 3=7:=s0
 have e1:shareF nrf2 5 (2023,7) o 1 3=3:=s1
 rw [e0] at r0
 rw [e1] at r1
 simp only [Nat.zero_mul,Nat.zero_add,Nat.one_mul] at r0 r1
 clear e0 e1 s0 s1 ho
 go_wp2
 go_ret
 exact ⟨by simp,B⟩

end Go.Proofs.YtoilomigceijaaaGreatDoor.Pl

