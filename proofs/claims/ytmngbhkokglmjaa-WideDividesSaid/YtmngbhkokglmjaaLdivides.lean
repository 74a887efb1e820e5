/- WideDivides' walk: the program and the reference come to the same. -/
import Derived.Test.YtmngbhkokglmjaaLmd
import Derived.Test.YtmngbhkokglmjaaRmd
import Derived.Test.YtmngbhkokglmjaaPairs
import Derived.OpenShut
namespace Go.Proofs.Ytmngbhkokglmjaa.Vr
open Go.RowKit Go.Proofs.Ytmngbhkokglmjaa.Vm Go.Proofs.Ytmngbhkokglmjaa.Vc Go.Proofs.Ytmngbhkokglmjaa.Pr

set_option maxHeartbeats 1000000

theorem divides_walk (h1 l1 a b c : Int) (w : World) (wh : (Lit.int .i64 h1).wf = true) (wl : (Lit.int .u64 l1).wf = true) (wa : (Lit.int .i64 a).wf = true) (wb : (Lit.int .i64 b).wf = true) (wc : (Lit.int .i64 c).wf = true) :
    Calls Try.prog 10 #[.agg #[.int .i64 h1, .int .u64 l1], .int .i64 a, .int .i64 b, .int .i64 c] w fun e w' => e = .returned (.bool true) ∧ Below w.heap.size w w' := by
  have b1 : Bd h1 l1 := ⟨(bounds_i64 wh).1, (bounds_i64 wh).2, (bounds_u64 wl).1, (bounds_u64 wl).2⟩
  have fa : Fit1 a := bounds_i64 wa
  have fb : Fit1 b := bounds_i64 wb
  have fc : Fit1 c := bounds_i64 wc
  clear wa wb wc
  clear wh wl
  have cl := Vl.live_ok
  obtain ⟨hq, lq, r, er, rr⟩ := divres_ex (c := c) (bd_fits b1)
  obtain ⟨q, m, me, mm⟩ := mdres_ex (a * b) c
  obtain ⟨hp, lp, ep, bp⟩ := words_ex (x := a * b) (by have := prod_fits fa fb; unfold Fits; omega)
  obtain ⟨ho, lo, eo, bo⟩ := words_ex (x := a) (by unfold Fit1 at fa; unfold Fits; omega)
  have cd := fun w => Div_any h1 l1 c hq lq r er w b1 fc rr
  have rd := fun w => rDiv_any h1 l1 c hq lq r er w b1 fc rr
  have cm := fun w => Vl.muldiv_to a b c q m me w fa fb fc mm
  have rm := fun w => rmuldiv_to a b c q m me w fa fb fc mm
  have cu := fun w => Mul_any a b hp lp w fa fb bp ep
  have ru := fun w => rMul_to a b hp lp w fa fb bp ep
  have co : ∀ w, Calls Try.prog 38 #[.int .i64 a] w fun e w' => e = .returned (.agg #[.int .i64 ho, .int .u64 lo]) ∧ Below w.heap.size w w' := fun w => by
    have := of_num fa.1 fa.2
    have h := num_inj bo this.2 (eo.trans this.1.symm)
    rw [h.1, h.2]; exact Of_any a w
  have ro := fun w => rOf_to a ho lo w fa eo bo
  clear rr mm ep bp eo bo b1 fa fb fc
  go_enter Try.func10, Try.ntmps10
  go_wp2_with fail
  refine (cl _).mono ?_
  rintro e w1 ⟨rfl, hb⟩
  have P1 := (Two.new w (.int .i64 h1) (.int .u64 l1) 40).kept hb
  have B1 := bthen (balloc (Below.refl _ w) _) hb
  try simp only [World.size_alloc] at P1
  clear hb
  obtain ⟨z0, c00, c01, _, _⟩ := id P1
  go_wp2_with fail
  refine (cd _).mono ?_
  rintro e w2 ⟨rfl, hb⟩
  replace P1 := (P1).kept hb
  replace B1 := bthen (B1) hb
  clear hb z0 c00 c01
  obtain ⟨z0, c00, c01, _, _⟩ := id P1
  go_wp2_with fail
  refine (rd _).mono ?_
  rintro e w3 ⟨rfl, hb⟩
  replace P1 := ((P1).alloc (.cells #[.int .i64 hq, .int .u64 lq] 40)).kept hb
  have Q1 := (Two.new w2 (.int .i64 hq) (.int .u64 lq) 40).kept hb
  replace B1 := bthen (balloc (B1) _) hb
  try simp only [World.size_alloc] at P1 Q1
  clear hb z0 c00 c01
  obtain ⟨z0, c00, c01, _, _⟩ := id P1
  obtain ⟨z1, c10, c11, _, _⟩ := id Q1
  go_wp2_with fail
  refine (cm _).mono ?_
  rintro e w4 ⟨rfl, hb⟩
  replace P1 := ((P1).alloc (.cells #[.int .i64 hq, .int .u64 lq] 40)).kept hb
  replace Q1 := ((Q1).alloc (.cells #[.int .i64 hq, .int .u64 lq] 40)).kept hb
  have Q2 := (Two.new w3 (.int .i64 hq) (.int .u64 lq) 40).kept hb
  replace B1 := bthen (balloc (B1) _) hb
  try simp only [World.size_alloc] at P1 Q1 Q2
  clear hb z0 c00 c01 z1 c10 c11
  obtain ⟨z0, c00, c01, _, _⟩ := id P1
  obtain ⟨z1, c10, c11, _, _⟩ := id Q1
  obtain ⟨z2, c20, c21, _, _⟩ := id Q2
  go_wp2_with fail
  refine (rm _).mono ?_
  rintro e w5 ⟨rfl, hb⟩
  replace P1 := (P1).kept hb
  replace Q1 := (Q1).kept hb
  replace Q2 := (Q2).kept hb
  replace B1 := bthen (B1) hb
  clear hb z0 c00 c01 z1 c10 c11 z2 c20 c21
  obtain ⟨z0, c00, c01, _, _⟩ := id P1
  obtain ⟨z1, c10, c11, _, _⟩ := id Q1
  obtain ⟨z2, c20, c21, _, _⟩ := id Q2
  go_wp2_with fail
  refine (cu _).mono ?_
  rintro e w6 ⟨rfl, hb⟩
  replace P1 := (P1).kept hb
  replace Q1 := (Q1).kept hb
  replace Q2 := (Q2).kept hb
  replace B1 := bthen (B1) hb
  clear hb z0 c00 c01 z1 c10 c11 z2 c20 c21
  obtain ⟨z0, c00, c01, _, _⟩ := id P1
  obtain ⟨z1, c10, c11, _, _⟩ := id Q1
  obtain ⟨z2, c20, c21, _, _⟩ := id Q2
  go_wp2_with fail
  refine (ru _).mono ?_
  rintro e w7 ⟨rfl, hb⟩
  replace P1 := (P1).kept hb
  replace Q1 := (Q1).kept hb
  replace Q2 := (Q2).kept hb
  replace B1 := bthen (B1) hb
  clear hb z0 c00 c01 z1 c10 c11 z2 c20 c21
  obtain ⟨z0, c00, c01, _, _⟩ := id P1
  obtain ⟨z1, c10, c11, _, _⟩ := id Q1
  obtain ⟨z2, c20, c21, _, _⟩ := id Q2
  go_wp2_with fail
  refine (co _).mono ?_
  rintro e w8 ⟨rfl, hb⟩
  replace P1 := (P1).kept hb
  replace Q1 := (Q1).kept hb
  replace Q2 := (Q2).kept hb
  replace B1 := bthen (B1) hb
  clear hb z0 c00 c01 z1 c10 c11 z2 c20 c21
  obtain ⟨z0, c00, c01, _, _⟩ := id P1
  obtain ⟨z1, c10, c11, _, _⟩ := id Q1
  obtain ⟨z2, c20, c21, _, _⟩ := id Q2
  go_wp2_with fail
  refine (ro _).mono ?_
  rintro e w9 ⟨rfl, hb⟩
  replace P1 := (P1).kept hb
  replace Q1 := (Q1).kept hb
  replace Q2 := (Q2).kept hb
  replace B1 := bthen (B1) hb
  clear hb z0 c00 c01 z1 c10 c11 z2 c20 c21
  obtain ⟨z0, c00, c01, _, _⟩ := id P1
  obtain ⟨z1, c10, c11, _, _⟩ := id Q1
  obtain ⟨z2, c20, c21, _, _⟩ := id Q2
  go_wp2
  go_ret
  exact ⟨by simp, B1⟩

end Go.Proofs.Ytmngbhkokglmjaa.Vr
