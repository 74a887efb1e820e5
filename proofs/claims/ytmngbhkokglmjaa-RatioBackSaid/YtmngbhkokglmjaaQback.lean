/- RatioBack's walk. -/
import Derived.Test.YtmngbhkokglmjaaQlive
namespace Go.Proofs.Ytmngbhkokglmjaa.Ql
open Go.RowKit Go.Proofs.Ytmngbhkokglmjaa.Vm Go.Proofs.Ytmngbhkokglmjaa.Vc Go.Proofs.Ytmngbhkokglmjaa.Pr Go.Proofs.Ytmngbhkokglmjaa.Qm Go.Proofs.Ytmngbhkokglmjaa.Qc

set_option maxHeartbeats 1000000

theorem back_walk (a b c d : Int) (w : World) (wa : (Lit.int .i64 a).wf = true) (wb : (Lit.int .i64 b).wf = true) (wc : (Lit.int .i64 c).wf = true) (wd : (Lit.int .i64 d).wf = true) :
    Calls Try.prog 5 #[.agg #[.int .i64 a, .int .i64 b], .agg #[.int .i64 c, .int .i64 d]] w fun e w' => e = .returned (.bool true) ∧ Below w.heap.size w w' := by
  have fa : Fit1 a := bounds_i64 wa
  have fb : Fit1 b := bounds_i64 wb
  have fc : Fit1 c := bounds_i64 wc
  have fd : Fit1 d := bounds_i64 wd
  clear wa wb wc wd
  obtain ⟨sN, sD, se, rs⟩ := opres_ex (a := a) (b := b) (c := c) (d := d) (n := a * d + c * b) (m := b * d) low_ne
  obtain ⟨pN, pD, pe, rp⟩ := opres_ex (a := a) (b := b) (c := c) (d := d) (n := a * c) (m := b * d) low_ne
  have fs := opres_fit rs
  have fp := opres_fit rp
  have cl := live_ok
  have cs := fun w => Add_op a b c d sN sD se w fa fb fc fd rs
  have cp := fun w => Mul_op a b c d pN pD pe w fa fb fc fd rp
  have O1 : (∃ k : Unit, se ≠ 0) ∨ (se = 0 ∧ ∀ w, Calls Try.prog 14 #[.agg #[.int .i64 sN, .int .i64 sD], .agg #[.int .i64 c, .int .i64 d]] w fun e w' => e = .returned (.tuple #[.agg #[.int .i64 a, .int .i64 b], .int .i64 0]) ∧ Below w.heap.size w w') := by
    by_cases h : se = 0
    · subst h
      exact .inr ⟨rfl, fun w => Sub_op sN sD c d a b 0 w fs.1 fs.2 fc fd (back_sub fa fb rs)⟩
    · exact .inl ⟨(), h⟩
  have O2 : (∃ k : Unit, pe ≠ 0) ∨ (pe = 0 ∧ c = 0) ∨ (pe = 0 ∧ c ≠ 0 ∧ ∀ w, Calls Try.prog 18 #[.agg #[.int .i64 pN, .int .i64 pD], .agg #[.int .i64 c, .int .i64 d]] w fun e w' => e = .returned (.tuple #[.agg #[.int .i64 a, .int .i64 b], .int .i64 0]) ∧ Below w.heap.size w w') := by
    by_cases h : pe = 0
    · subst h
      by_cases h2 : c = 0
      · exact .inr (.inl ⟨rfl, h2⟩)
      · exact .inr (.inr ⟨rfl, h2, fun w => Div_op pN pD c d a b 0 w fp.1 fp.2 fc fd (back_div fa fb h2 rp)⟩)
    · exact .inl ⟨(), h⟩
  clear fa fb fc fd rs rp fs fp
  rcases O1 with ⟨_, o1⟩ | ⟨rfl, cb⟩ <;> rcases O2 with ⟨_, o2⟩ | ⟨rfl, o2⟩ | ⟨rfl, o2, cd⟩
  · have d1 : (se == 0) = false := beq_eq_false_iff_ne.2 o1
    have d2 : (pe == 0) = false := beq_eq_false_iff_ne.2 o2
    clear o1 o2
    go_enter Try.func5, Try.ntmps5
    go_wp2_with fail
    refine (cl _).mono ?_
    rintro e w1 ⟨rfl, hb⟩
    have P1 := (((Two.new w (.int .i64 a) (.int .i64 b) 23)).alloc (.cells #[.int .i64 c, .int .i64 d] 23)).kept hb
    have P2 := (Two.new (w.alloc (.cells #[.int .i64 a, .int .i64 b] 23)) (.int .i64 c) (.int .i64 d) 23).kept hb
    have B1 := bthen (balloc (balloc (Below.refl _ w) _) _) hb
    try simp only [World.size_alloc] at P1 P2
    clear hb
    obtain ⟨z0, c00, c01, _, _⟩ := id P1
    obtain ⟨z1, c10, c11, _, _⟩ := id P2
    go_wp2_with fail
    refine (cs _).mono ?_
    rintro e w2 ⟨rfl, hb⟩
    replace P1 := (P1).kept hb
    replace P2 := (P2).kept hb
    replace B1 := bthen (B1) hb
    clear hb z0 c00 c01 z1 c10 c11
    obtain ⟨z0, c00, c01, _, _⟩ := id P1
    obtain ⟨z1, c10, c11, _, _⟩ := id P2
    go_wp2_with fail
    refine (cp _).mono ?_
    rintro e w3 ⟨rfl, hb⟩
    replace P1 := ((P1).alloc (.cells #[.int .i64 sN, .int .i64 sD] 23)).kept hb
    replace P2 := ((P2).alloc (.cells #[.int .i64 sN, .int .i64 sD] 23)).kept hb
    have Q1 := (Two.new w2 (.int .i64 sN) (.int .i64 sD) 23).kept hb
    replace B1 := bthen (balloc (B1) _) hb
    try simp only [World.size_alloc] at P1 P2 Q1
    clear hb z0 c00 c01 z1 c10 c11
    obtain ⟨z0, c00, c01, _, _⟩ := id P1
    obtain ⟨z1, c10, c11, _, _⟩ := id P2
    obtain ⟨z2, c20, c21, _, _⟩ := id Q1
    go_wp2
    go_ret
    exact ⟨by simp, balloc (B1) _⟩
  · have d1 : (se == 0) = false := beq_eq_false_iff_ne.2 o1
    subst o2
    clear o1
    go_enter Try.func5, Try.ntmps5
    go_wp2_with fail
    refine (cl _).mono ?_
    rintro e w1 ⟨rfl, hb⟩
    have P1 := (((Two.new w (.int .i64 a) (.int .i64 b) 23)).alloc (.cells #[.int .i64 0, .int .i64 d] 23)).kept hb
    have P2 := (Two.new (w.alloc (.cells #[.int .i64 a, .int .i64 b] 23)) (.int .i64 0) (.int .i64 d) 23).kept hb
    have B1 := bthen (balloc (balloc (Below.refl _ w) _) _) hb
    try simp only [World.size_alloc] at P1 P2
    clear hb
    obtain ⟨z0, c00, c01, _, _⟩ := id P1
    obtain ⟨z1, c10, c11, _, _⟩ := id P2
    go_wp2_with fail
    refine (cs _).mono ?_
    rintro e w2 ⟨rfl, hb⟩
    replace P1 := (P1).kept hb
    replace P2 := (P2).kept hb
    replace B1 := bthen (B1) hb
    clear hb z0 c00 c01 z1 c10 c11
    obtain ⟨z0, c00, c01, _, _⟩ := id P1
    obtain ⟨z1, c10, c11, _, _⟩ := id P2
    go_wp2_with fail
    refine (cp _).mono ?_
    rintro e w3 ⟨rfl, hb⟩
    replace P1 := ((P1).alloc (.cells #[.int .i64 sN, .int .i64 sD] 23)).kept hb
    replace P2 := ((P2).alloc (.cells #[.int .i64 sN, .int .i64 sD] 23)).kept hb
    have Q1 := (Two.new w2 (.int .i64 sN) (.int .i64 sD) 23).kept hb
    replace B1 := bthen (balloc (B1) _) hb
    try simp only [World.size_alloc] at P1 P2 Q1
    clear hb z0 c00 c01 z1 c10 c11
    obtain ⟨z0, c00, c01, _, _⟩ := id P1
    obtain ⟨z1, c10, c11, _, _⟩ := id P2
    obtain ⟨z2, c20, c21, _, _⟩ := id Q1
    go_wp2
    go_ret
    exact ⟨by simp, balloc (B1) _⟩
  · have d1 : (se == 0) = false := beq_eq_false_iff_ne.2 o1
    have d2 : (c != 0) = true := bne_iff_ne.2 o2
    clear o1 o2
    go_enter Try.func5, Try.ntmps5
    go_wp2_with fail
    refine (cl _).mono ?_
    rintro e w1 ⟨rfl, hb⟩
    have P1 := (((Two.new w (.int .i64 a) (.int .i64 b) 23)).alloc (.cells #[.int .i64 c, .int .i64 d] 23)).kept hb
    have P2 := (Two.new (w.alloc (.cells #[.int .i64 a, .int .i64 b] 23)) (.int .i64 c) (.int .i64 d) 23).kept hb
    have B1 := bthen (balloc (balloc (Below.refl _ w) _) _) hb
    try simp only [World.size_alloc] at P1 P2
    clear hb
    obtain ⟨z0, c00, c01, _, _⟩ := id P1
    obtain ⟨z1, c10, c11, _, _⟩ := id P2
    go_wp2_with fail
    refine (cs _).mono ?_
    rintro e w2 ⟨rfl, hb⟩
    replace P1 := (P1).kept hb
    replace P2 := (P2).kept hb
    replace B1 := bthen (B1) hb
    clear hb z0 c00 c01 z1 c10 c11
    obtain ⟨z0, c00, c01, _, _⟩ := id P1
    obtain ⟨z1, c10, c11, _, _⟩ := id P2
    go_wp2_with fail
    refine (cp _).mono ?_
    rintro e w3 ⟨rfl, hb⟩
    replace P1 := ((P1).alloc (.cells #[.int .i64 sN, .int .i64 sD] 23)).kept hb
    replace P2 := ((P2).alloc (.cells #[.int .i64 sN, .int .i64 sD] 23)).kept hb
    have Q1 := (Two.new w2 (.int .i64 sN) (.int .i64 sD) 23).kept hb
    replace B1 := bthen (balloc (B1) _) hb
    try simp only [World.size_alloc] at P1 P2 Q1
    clear hb z0 c00 c01 z1 c10 c11
    obtain ⟨z0, c00, c01, _, _⟩ := id P1
    obtain ⟨z1, c10, c11, _, _⟩ := id P2
    obtain ⟨z2, c20, c21, _, _⟩ := id Q1
    go_wp2_with fail
    refine (cd _).mono ?_
    rintro e w4 ⟨rfl, hb⟩
    replace P1 := ((P1).alloc (.cells #[.int .i64 pN, .int .i64 pD] 23)).kept hb
    replace P2 := ((P2).alloc (.cells #[.int .i64 pN, .int .i64 pD] 23)).kept hb
    replace Q1 := ((Q1).alloc (.cells #[.int .i64 pN, .int .i64 pD] 23)).kept hb
    have Q3 := (Two.new w3 (.int .i64 pN) (.int .i64 pD) 23).kept hb
    replace B1 := bthen (balloc (B1) _) hb
    try simp only [World.size_alloc] at P1 P2 Q1 Q3
    clear hb z0 c00 c01 z1 c10 c11 z2 c20 c21
    obtain ⟨z0, c00, c01, _, _⟩ := id P1
    obtain ⟨z1, c10, c11, _, _⟩ := id P2
    obtain ⟨z2, c20, c21, _, _⟩ := id Q1
    obtain ⟨z3, c30, c31, _, _⟩ := id Q3
    go_wp2
    go_ret
    exact ⟨by simp, balloc (B1) _⟩
  · have d2 : (pe == 0) = false := beq_eq_false_iff_ne.2 o2
    clear o2
    go_enter Try.func5, Try.ntmps5
    go_wp2_with fail
    refine (cl _).mono ?_
    rintro e w1 ⟨rfl, hb⟩
    have P1 := (((Two.new w (.int .i64 a) (.int .i64 b) 23)).alloc (.cells #[.int .i64 c, .int .i64 d] 23)).kept hb
    have P2 := (Two.new (w.alloc (.cells #[.int .i64 a, .int .i64 b] 23)) (.int .i64 c) (.int .i64 d) 23).kept hb
    have B1 := bthen (balloc (balloc (Below.refl _ w) _) _) hb
    try simp only [World.size_alloc] at P1 P2
    clear hb
    obtain ⟨z0, c00, c01, _, _⟩ := id P1
    obtain ⟨z1, c10, c11, _, _⟩ := id P2
    go_wp2_with fail
    refine (cs _).mono ?_
    rintro e w2 ⟨rfl, hb⟩
    replace P1 := (P1).kept hb
    replace P2 := (P2).kept hb
    replace B1 := bthen (B1) hb
    clear hb z0 c00 c01 z1 c10 c11
    obtain ⟨z0, c00, c01, _, _⟩ := id P1
    obtain ⟨z1, c10, c11, _, _⟩ := id P2
    go_wp2_with fail
    refine (cb _).mono ?_
    rintro e w3 ⟨rfl, hb⟩
    replace P1 := ((P1).alloc (.cells #[.int .i64 sN, .int .i64 sD] 23)).kept hb
    replace P2 := ((P2).alloc (.cells #[.int .i64 sN, .int .i64 sD] 23)).kept hb
    have Q1 := (Two.new w2 (.int .i64 sN) (.int .i64 sD) 23).kept hb
    replace B1 := bthen (balloc (B1) _) hb
    try simp only [World.size_alloc] at P1 P2 Q1
    clear hb z0 c00 c01 z1 c10 c11
    obtain ⟨z0, c00, c01, _, _⟩ := id P1
    obtain ⟨z1, c10, c11, _, _⟩ := id P2
    obtain ⟨z2, c20, c21, _, _⟩ := id Q1
    go_wp2_with fail
    refine (cp _).mono ?_
    rintro e w4 ⟨rfl, hb⟩
    replace P1 := ((P1).alloc (.cells #[.int .i64 a, .int .i64 b] 23)).kept hb
    replace P2 := ((P2).alloc (.cells #[.int .i64 a, .int .i64 b] 23)).kept hb
    replace Q1 := ((Q1).alloc (.cells #[.int .i64 a, .int .i64 b] 23)).kept hb
    have Q2 := (Two.new w3 (.int .i64 a) (.int .i64 b) 23).kept hb
    replace B1 := bthen (balloc (B1) _) hb
    try simp only [World.size_alloc] at P1 P2 Q1 Q2
    clear hb z0 c00 c01 z1 c10 c11 z2 c20 c21
    obtain ⟨z0, c00, c01, _, _⟩ := id P1
    obtain ⟨z1, c10, c11, _, _⟩ := id P2
    obtain ⟨z2, c20, c21, _, _⟩ := id Q1
    obtain ⟨z3, c30, c31, _, _⟩ := id Q2
    go_wp2
    go_ret
    exact ⟨by simp, balloc (B1) _⟩
  · subst o2
    go_enter Try.func5, Try.ntmps5
    go_wp2_with fail
    refine (cl _).mono ?_
    rintro e w1 ⟨rfl, hb⟩
    have P1 := (((Two.new w (.int .i64 a) (.int .i64 b) 23)).alloc (.cells #[.int .i64 0, .int .i64 d] 23)).kept hb
    have P2 := (Two.new (w.alloc (.cells #[.int .i64 a, .int .i64 b] 23)) (.int .i64 0) (.int .i64 d) 23).kept hb
    have B1 := bthen (balloc (balloc (Below.refl _ w) _) _) hb
    try simp only [World.size_alloc] at P1 P2
    clear hb
    obtain ⟨z0, c00, c01, _, _⟩ := id P1
    obtain ⟨z1, c10, c11, _, _⟩ := id P2
    go_wp2_with fail
    refine (cs _).mono ?_
    rintro e w2 ⟨rfl, hb⟩
    replace P1 := (P1).kept hb
    replace P2 := (P2).kept hb
    replace B1 := bthen (B1) hb
    clear hb z0 c00 c01 z1 c10 c11
    obtain ⟨z0, c00, c01, _, _⟩ := id P1
    obtain ⟨z1, c10, c11, _, _⟩ := id P2
    go_wp2_with fail
    refine (cb _).mono ?_
    rintro e w3 ⟨rfl, hb⟩
    replace P1 := ((P1).alloc (.cells #[.int .i64 sN, .int .i64 sD] 23)).kept hb
    replace P2 := ((P2).alloc (.cells #[.int .i64 sN, .int .i64 sD] 23)).kept hb
    have Q1 := (Two.new w2 (.int .i64 sN) (.int .i64 sD) 23).kept hb
    replace B1 := bthen (balloc (B1) _) hb
    try simp only [World.size_alloc] at P1 P2 Q1
    clear hb z0 c00 c01 z1 c10 c11
    obtain ⟨z0, c00, c01, _, _⟩ := id P1
    obtain ⟨z1, c10, c11, _, _⟩ := id P2
    obtain ⟨z2, c20, c21, _, _⟩ := id Q1
    go_wp2_with fail
    refine (cp _).mono ?_
    rintro e w4 ⟨rfl, hb⟩
    replace P1 := ((P1).alloc (.cells #[.int .i64 a, .int .i64 b] 23)).kept hb
    replace P2 := ((P2).alloc (.cells #[.int .i64 a, .int .i64 b] 23)).kept hb
    replace Q1 := ((Q1).alloc (.cells #[.int .i64 a, .int .i64 b] 23)).kept hb
    have Q2 := (Two.new w3 (.int .i64 a) (.int .i64 b) 23).kept hb
    replace B1 := bthen (balloc (B1) _) hb
    try simp only [World.size_alloc] at P1 P2 Q1 Q2
    clear hb z0 c00 c01 z1 c10 c11 z2 c20 c21
    obtain ⟨z0, c00, c01, _, _⟩ := id P1
    obtain ⟨z1, c10, c11, _, _⟩ := id P2
    obtain ⟨z2, c20, c21, _, _⟩ := id Q1
    obtain ⟨z3, c30, c31, _, _⟩ := id Q2
    go_wp2
    go_ret
    exact ⟨by simp, balloc (B1) _⟩
  · have d2 : (c != 0) = true := bne_iff_ne.2 o2
    clear o2
    go_enter Try.func5, Try.ntmps5
    go_wp2_with fail
    refine (cl _).mono ?_
    rintro e w1 ⟨rfl, hb⟩
    have P1 := (((Two.new w (.int .i64 a) (.int .i64 b) 23)).alloc (.cells #[.int .i64 c, .int .i64 d] 23)).kept hb
    have P2 := (Two.new (w.alloc (.cells #[.int .i64 a, .int .i64 b] 23)) (.int .i64 c) (.int .i64 d) 23).kept hb
    have B1 := bthen (balloc (balloc (Below.refl _ w) _) _) hb
    try simp only [World.size_alloc] at P1 P2
    clear hb
    obtain ⟨z0, c00, c01, _, _⟩ := id P1
    obtain ⟨z1, c10, c11, _, _⟩ := id P2
    go_wp2_with fail
    refine (cs _).mono ?_
    rintro e w2 ⟨rfl, hb⟩
    replace P1 := (P1).kept hb
    replace P2 := (P2).kept hb
    replace B1 := bthen (B1) hb
    clear hb z0 c00 c01 z1 c10 c11
    obtain ⟨z0, c00, c01, _, _⟩ := id P1
    obtain ⟨z1, c10, c11, _, _⟩ := id P2
    go_wp2_with fail
    refine (cb _).mono ?_
    rintro e w3 ⟨rfl, hb⟩
    replace P1 := ((P1).alloc (.cells #[.int .i64 sN, .int .i64 sD] 23)).kept hb
    replace P2 := ((P2).alloc (.cells #[.int .i64 sN, .int .i64 sD] 23)).kept hb
    have Q1 := (Two.new w2 (.int .i64 sN) (.int .i64 sD) 23).kept hb
    replace B1 := bthen (balloc (B1) _) hb
    try simp only [World.size_alloc] at P1 P2 Q1
    clear hb z0 c00 c01 z1 c10 c11
    obtain ⟨z0, c00, c01, _, _⟩ := id P1
    obtain ⟨z1, c10, c11, _, _⟩ := id P2
    obtain ⟨z2, c20, c21, _, _⟩ := id Q1
    go_wp2_with fail
    refine (cp _).mono ?_
    rintro e w4 ⟨rfl, hb⟩
    replace P1 := ((P1).alloc (.cells #[.int .i64 a, .int .i64 b] 23)).kept hb
    replace P2 := ((P2).alloc (.cells #[.int .i64 a, .int .i64 b] 23)).kept hb
    replace Q1 := ((Q1).alloc (.cells #[.int .i64 a, .int .i64 b] 23)).kept hb
    have Q2 := (Two.new w3 (.int .i64 a) (.int .i64 b) 23).kept hb
    replace B1 := bthen (balloc (B1) _) hb
    try simp only [World.size_alloc] at P1 P2 Q1 Q2
    clear hb z0 c00 c01 z1 c10 c11 z2 c20 c21
    obtain ⟨z0, c00, c01, _, _⟩ := id P1
    obtain ⟨z1, c10, c11, _, _⟩ := id P2
    obtain ⟨z2, c20, c21, _, _⟩ := id Q1
    obtain ⟨z3, c30, c31, _, _⟩ := id Q2
    go_wp2_with fail
    refine (cd _).mono ?_
    rintro e w5 ⟨rfl, hb⟩
    replace P1 := ((P1).alloc (.cells #[.int .i64 pN, .int .i64 pD] 23)).kept hb
    replace P2 := ((P2).alloc (.cells #[.int .i64 pN, .int .i64 pD] 23)).kept hb
    replace Q1 := ((Q1).alloc (.cells #[.int .i64 pN, .int .i64 pD] 23)).kept hb
    replace Q2 := ((Q2).alloc (.cells #[.int .i64 pN, .int .i64 pD] 23)).kept hb
    have Q3 := (Two.new w4 (.int .i64 pN) (.int .i64 pD) 23).kept hb
    replace B1 := bthen (balloc (B1) _) hb
    try simp only [World.size_alloc] at P1 P2 Q1 Q2 Q3
    clear hb z0 c00 c01 z1 c10 c11 z2 c20 c21 z3 c30 c31
    obtain ⟨z0, c00, c01, _, _⟩ := id P1
    obtain ⟨z1, c10, c11, _, _⟩ := id P2
    obtain ⟨z2, c20, c21, _, _⟩ := id Q1
    obtain ⟨z3, c30, c31, _, _⟩ := id Q2
    obtain ⟨z4, c40, c41, _, _⟩ := id Q3
    go_wp2
    go_ret
    exact ⟨by simp, balloc (B1) _⟩

end Go.Proofs.Ytmngbhkokglmjaa.Ql
