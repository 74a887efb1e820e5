/- RatioOrder's walk. -/
import Derived.Test.YtmngbhkokglmjaaQlive
namespace Go.Proofs.Ytmngbhkokglmjaa.Ql
open Go.RowKit Go.Proofs.Ytmngbhkokglmjaa.Vm Go.Proofs.Ytmngbhkokglmjaa.Vc Go.Proofs.Ytmngbhkokglmjaa.Pr Go.Proofs.Ytmngbhkokglmjaa.Qm Go.Proofs.Ytmngbhkokglmjaa.Qc

set_option maxHeartbeats 1000000

theorem order_walk (a b c d f g : Int) (w : World) (wa : (Lit.int .i64 a).wf = true) (wb : (Lit.int .i64 b).wf = true) (wc : (Lit.int .i64 c).wf = true) (wd : (Lit.int .i64 d).wf = true) (wf : (Lit.int .i64 f).wf = true) (wg : (Lit.int .i64 g).wf = true) :
    Calls Try.prog 6 #[.agg #[.int .i64 a, .int .i64 b], .agg #[.int .i64 c, .int .i64 d], .agg #[.int .i64 f, .int .i64 g]] w fun e w' => e = .returned (.bool true) ∧ Below w.heap.size w w' := by
  have fa : Fit1 a := bounds_i64 wa
  have fb : Fit1 b := bounds_i64 wb
  have fc : Fit1 c := bounds_i64 wc
  have fd : Fit1 d := bounds_i64 wd
  have ff : Fit1 f := bounds_i64 wf
  have fg : Fit1 g := bounds_i64 wg
  clear wa wb wc wd wf wg
  have cl := live_ok
  obtain ⟨sN, sD, se, rs⟩ := opres_ex (a := a) (b := b) (c := c) (d := d) (n := a * d + c * b) (m := b * d) low_ne
  obtain ⟨pN, pD, pe, rp⟩ := opres_ex (a := a) (b := b) (c := c) (d := d) (n := a * c) (m := b * d) low_ne
  obtain ⟨uN, uD, ue, ru⟩ := opres_ex (a := c) (b := d) (c := f) (d := g) (n := c * g + f * d) (m := d * g) low_ne
  obtain ⟨vN, vD, ve, rv⟩ := opres_ex (a := a) (b := b) (c := f) (d := g) (n := a * f) (m := b * g) low_ne
  obtain ⟨xN, xD, xe, rx⟩ := opres_ex (a := sN) (b := sD) (c := f) (d := g) (n := sN * g + f * sD) (m := sD * g) low_ne
  obtain ⟨mN, mD, me, rm⟩ := opres_ex (a := a) (b := b) (c := uN) (d := uD) (n := a * uN) (m := b * uD) low_ne
  have fs := opres_fit rs
  have fp := opres_fit rp
  have fu := opres_fit ru
  have fv := opres_fit rv
  have cs := fun w => Add_op a b c d sN sD se w fa fb fc fd rs
  have ct := fun w => Add_op c d a b sN sD se w fc fd fa fb (add_swap rs)
  have cp := fun w => Mul_op a b c d pN pD pe w fa fb fc fd rp
  have cq := fun w => Mul_op c d a b pN pD pe w fc fd fa fb (mul_swap rp)
  have cu := fun w => Add_op c d f g uN uD ue w fc fd ff fg ru
  have cvv := fun w => Mul_op a b f g vN vD ve w fa fb ff fg rv
  have cx := fun w => Add_op sN sD f g xN xD xe w fs.1 fs.2 ff fg rx
  have cm := fun w => Mul_op a b uN uD mN mD me w fa fb fu.1 fu.2 rm
  have O1 : (se ≠ 0 ∧ True) ∨ (se = 0 ∧ ue ≠ 0 ∧ True) ∨ (se = 0 ∧ ue = 0 ∧ (pe ≠ 0 ∨ (pe = 0 ∧ ve ≠ 0)) ∧ ∀ w, Calls Try.prog 12 #[.agg #[.int .i64 a, .int .i64 b], .agg #[.int .i64 uN, .int .i64 uD]] w fun e w' => e = .returned (.tuple #[.agg #[.int .i64 xN, .int .i64 xD], .int .i64 xe]) ∧ Below w.heap.size w w') ∨
      (se = 0 ∧ ue = 0 ∧ pe = 0 ∧ ve = 0 ∧ (∀ w, Calls Try.prog 12 #[.agg #[.int .i64 a, .int .i64 b], .agg #[.int .i64 uN, .int .i64 uD]] w fun e w' => e = .returned (.tuple #[.agg #[.int .i64 xN, .int .i64 xD], .int .i64 xe]) ∧ Below w.heap.size w w') ∧
        ∀ w, Calls Try.prog 12 #[.agg #[.int .i64 pN, .int .i64 pD], .agg #[.int .i64 vN, .int .i64 vD]] w fun e w' => e = .returned (.tuple #[.agg #[.int .i64 mN, .int .i64 mD], .int .i64 me]) ∧ Below w.heap.size w w') := by
    by_cases h1 : se = 0
    · by_cases h2 : ue = 0
      · subst h1 h2
        have cy := fun w => Add_op a b uN uD xN xD xe w fa fb fu.1 fu.2 (add_brackets rs ru rx)
        by_cases h3 : pe = 0
        · by_cases h4 : ve = 0
          · subst h3 h4
            exact .inr (.inr (.inr ⟨rfl, rfl, rfl, rfl, cy, fun w => Add_op pN pD vN vD mN mD me w fp.1 fp.2 fv.1 fv.2 (mul_over_add ru rp rv rm)⟩))
          · exact .inr (.inr (.inl ⟨rfl, rfl, .inr ⟨h3, h4⟩, cy⟩))
        · exact .inr (.inr (.inl ⟨rfl, rfl, .inl h3, cy⟩))
      · exact .inr (.inl ⟨h1, h2, trivial⟩)
    · exact .inl ⟨h1, trivial⟩
  clear rs rp ru rv rx rm fs fp fu fv fa fb fc fd ff fg
  rcases O1 with ⟨o1, _⟩ | ⟨rfl, o1, _⟩ | ⟨rfl, rfl, o1, cy⟩ | ⟨rfl, rfl, rfl, rfl, cy, cn⟩
  · have d1 : (se == 0) = false := beq_eq_false_iff_ne.2 o1
    clear o1 cx cm
    go_enter Try.func6, Try.ntmps6
    go_wp2_with fail
    refine (cl _).mono ?_
    rintro e w1 ⟨rfl, hb⟩
    have P1 := ((((Two.new w (.int .i64 a) (.int .i64 b) 23)).alloc (.cells #[.int .i64 c, .int .i64 d] 23)).alloc (.cells #[.int .i64 f, .int .i64 g] 23)).kept hb
    have P2 := (((Two.new (w.alloc (.cells #[.int .i64 a, .int .i64 b] 23)) (.int .i64 c) (.int .i64 d) 23)).alloc (.cells #[.int .i64 f, .int .i64 g] 23)).kept hb
    have P3 := (Two.new ((w.alloc (.cells #[.int .i64 a, .int .i64 b] 23)).alloc (.cells #[.int .i64 c, .int .i64 d] 23)) (.int .i64 f) (.int .i64 g) 23).kept hb
    have B1 := bthen (balloc (balloc (balloc (Below.refl _ w) _) _) _) hb
    try simp only [World.size_alloc] at P1 P2 P3
    clear hb
    obtain ⟨z0, c00, c01, _, _⟩ := id P1
    obtain ⟨z1, c10, c11, _, _⟩ := id P2
    obtain ⟨z2, c20, c21, _, _⟩ := id P3
    go_wp2_with fail
    refine (cs _).mono ?_
    rintro e w2 ⟨rfl, hb⟩
    replace P1 := (P1).kept hb
    replace P2 := (P2).kept hb
    replace P3 := (P3).kept hb
    replace B1 := bthen (B1) hb
    clear hb z0 c00 c01 z1 c10 c11 z2 c20 c21
    obtain ⟨z0, c00, c01, _, _⟩ := id P1
    obtain ⟨z1, c10, c11, _, _⟩ := id P2
    obtain ⟨z2, c20, c21, _, _⟩ := id P3
    go_wp2_with fail
    refine (ct _).mono ?_
    rintro e w3 ⟨rfl, hb⟩
    replace P1 := ((P1).alloc (.cells #[.int .i64 sN, .int .i64 sD] 23)).kept hb
    replace P2 := ((P2).alloc (.cells #[.int .i64 sN, .int .i64 sD] 23)).kept hb
    replace P3 := ((P3).alloc (.cells #[.int .i64 sN, .int .i64 sD] 23)).kept hb
    have Q1 := (Two.new w2 (.int .i64 sN) (.int .i64 sD) 23).kept hb
    replace B1 := bthen (balloc (B1) _) hb
    try simp only [World.size_alloc] at P1 P2 P3 Q1
    clear hb z0 c00 c01 z1 c10 c11 z2 c20 c21
    obtain ⟨z0, c00, c01, _, _⟩ := id P1
    obtain ⟨z1, c10, c11, _, _⟩ := id P2
    obtain ⟨z2, c20, c21, _, _⟩ := id P3
    obtain ⟨z3, c30, c31, _, _⟩ := id Q1
    go_wp2_with fail
    refine (cp _).mono ?_
    rintro e w4 ⟨rfl, hb⟩
    replace P1 := ((P1).alloc (.cells #[.int .i64 sN, .int .i64 sD] 23)).kept hb
    replace P2 := ((P2).alloc (.cells #[.int .i64 sN, .int .i64 sD] 23)).kept hb
    replace P3 := ((P3).alloc (.cells #[.int .i64 sN, .int .i64 sD] 23)).kept hb
    replace Q1 := ((Q1).alloc (.cells #[.int .i64 sN, .int .i64 sD] 23)).kept hb
    have Q2 := (Two.new w3 (.int .i64 sN) (.int .i64 sD) 23).kept hb
    replace B1 := bthen (balloc (B1) _) hb
    try simp only [World.size_alloc] at P1 P2 P3 Q1 Q2
    clear hb z0 c00 c01 z1 c10 c11 z2 c20 c21 z3 c30 c31
    obtain ⟨z0, c00, c01, _, _⟩ := id P1
    obtain ⟨z1, c10, c11, _, _⟩ := id P2
    obtain ⟨z2, c20, c21, _, _⟩ := id P3
    obtain ⟨z3, c30, c31, _, _⟩ := id Q1
    obtain ⟨z4, c40, c41, _, _⟩ := id Q2
    go_wp2_with fail
    refine (cq _).mono ?_
    rintro e w5 ⟨rfl, hb⟩
    replace P1 := ((P1).alloc (.cells #[.int .i64 pN, .int .i64 pD] 23)).kept hb
    replace P2 := ((P2).alloc (.cells #[.int .i64 pN, .int .i64 pD] 23)).kept hb
    replace P3 := ((P3).alloc (.cells #[.int .i64 pN, .int .i64 pD] 23)).kept hb
    replace Q1 := ((Q1).alloc (.cells #[.int .i64 pN, .int .i64 pD] 23)).kept hb
    replace Q2 := ((Q2).alloc (.cells #[.int .i64 pN, .int .i64 pD] 23)).kept hb
    have Q3 := (Two.new w4 (.int .i64 pN) (.int .i64 pD) 23).kept hb
    replace B1 := bthen (balloc (B1) _) hb
    try simp only [World.size_alloc] at P1 P2 P3 Q1 Q2 Q3
    clear hb z0 c00 c01 z1 c10 c11 z2 c20 c21 z3 c30 c31 z4 c40 c41
    obtain ⟨z0, c00, c01, _, _⟩ := id P1
    obtain ⟨z1, c10, c11, _, _⟩ := id P2
    obtain ⟨z2, c20, c21, _, _⟩ := id P3
    obtain ⟨z3, c30, c31, _, _⟩ := id Q1
    obtain ⟨z4, c40, c41, _, _⟩ := id Q2
    obtain ⟨z5, c50, c51, _, _⟩ := id Q3
    go_wp2_with fail
    refine (cu _).mono ?_
    rintro e w6 ⟨rfl, hb⟩
    replace P1 := ((P1).alloc (.cells #[.int .i64 pN, .int .i64 pD] 23)).kept hb
    replace P2 := ((P2).alloc (.cells #[.int .i64 pN, .int .i64 pD] 23)).kept hb
    replace P3 := ((P3).alloc (.cells #[.int .i64 pN, .int .i64 pD] 23)).kept hb
    replace Q1 := ((Q1).alloc (.cells #[.int .i64 pN, .int .i64 pD] 23)).kept hb
    replace Q2 := ((Q2).alloc (.cells #[.int .i64 pN, .int .i64 pD] 23)).kept hb
    replace Q3 := ((Q3).alloc (.cells #[.int .i64 pN, .int .i64 pD] 23)).kept hb
    have Q4 := (Two.new w5 (.int .i64 pN) (.int .i64 pD) 23).kept hb
    replace B1 := bthen (balloc (B1) _) hb
    try simp only [World.size_alloc] at P1 P2 P3 Q1 Q2 Q3 Q4
    clear hb z0 c00 c01 z1 c10 c11 z2 c20 c21 z3 c30 c31 z4 c40 c41 z5 c50 c51
    obtain ⟨z0, c00, c01, _, _⟩ := id P1
    obtain ⟨z1, c10, c11, _, _⟩ := id P2
    obtain ⟨z2, c20, c21, _, _⟩ := id P3
    obtain ⟨z3, c30, c31, _, _⟩ := id Q1
    obtain ⟨z4, c40, c41, _, _⟩ := id Q2
    obtain ⟨z5, c50, c51, _, _⟩ := id Q3
    obtain ⟨z6, c60, c61, _, _⟩ := id Q4
    go_wp2_with fail
    refine (cvv _).mono ?_
    rintro e w7 ⟨rfl, hb⟩
    replace P1 := ((P1).alloc (.cells #[.int .i64 uN, .int .i64 uD] 23)).kept hb
    replace P2 := ((P2).alloc (.cells #[.int .i64 uN, .int .i64 uD] 23)).kept hb
    replace P3 := ((P3).alloc (.cells #[.int .i64 uN, .int .i64 uD] 23)).kept hb
    replace Q1 := ((Q1).alloc (.cells #[.int .i64 uN, .int .i64 uD] 23)).kept hb
    replace Q2 := ((Q2).alloc (.cells #[.int .i64 uN, .int .i64 uD] 23)).kept hb
    replace Q3 := ((Q3).alloc (.cells #[.int .i64 uN, .int .i64 uD] 23)).kept hb
    replace Q4 := ((Q4).alloc (.cells #[.int .i64 uN, .int .i64 uD] 23)).kept hb
    have Q5 := (Two.new w6 (.int .i64 uN) (.int .i64 uD) 23).kept hb
    replace B1 := bthen (balloc (B1) _) hb
    try simp only [World.size_alloc] at P1 P2 P3 Q1 Q2 Q3 Q4 Q5
    clear hb z0 c00 c01 z1 c10 c11 z2 c20 c21 z3 c30 c31 z4 c40 c41 z5 c50 c51 z6 c60 c61
    obtain ⟨z0, c00, c01, _, _⟩ := id P1
    obtain ⟨z1, c10, c11, _, _⟩ := id P2
    obtain ⟨z2, c20, c21, _, _⟩ := id P3
    obtain ⟨z3, c30, c31, _, _⟩ := id Q1
    obtain ⟨z4, c40, c41, _, _⟩ := id Q2
    obtain ⟨z5, c50, c51, _, _⟩ := id Q3
    obtain ⟨z6, c60, c61, _, _⟩ := id Q4
    obtain ⟨z7, c70, c71, _, _⟩ := id Q5
    go_wp2
    go_ret
    exact ⟨by simp, balloc (B1) _⟩
  · have d1 : (ue == 0) = false := beq_eq_false_iff_ne.2 o1
    clear o1 cx cm
    go_enter Try.func6, Try.ntmps6
    go_wp2_with fail
    refine (cl _).mono ?_
    rintro e w1 ⟨rfl, hb⟩
    have P1 := ((((Two.new w (.int .i64 a) (.int .i64 b) 23)).alloc (.cells #[.int .i64 c, .int .i64 d] 23)).alloc (.cells #[.int .i64 f, .int .i64 g] 23)).kept hb
    have P2 := (((Two.new (w.alloc (.cells #[.int .i64 a, .int .i64 b] 23)) (.int .i64 c) (.int .i64 d) 23)).alloc (.cells #[.int .i64 f, .int .i64 g] 23)).kept hb
    have P3 := (Two.new ((w.alloc (.cells #[.int .i64 a, .int .i64 b] 23)).alloc (.cells #[.int .i64 c, .int .i64 d] 23)) (.int .i64 f) (.int .i64 g) 23).kept hb
    have B1 := bthen (balloc (balloc (balloc (Below.refl _ w) _) _) _) hb
    try simp only [World.size_alloc] at P1 P2 P3
    clear hb
    obtain ⟨z0, c00, c01, _, _⟩ := id P1
    obtain ⟨z1, c10, c11, _, _⟩ := id P2
    obtain ⟨z2, c20, c21, _, _⟩ := id P3
    go_wp2_with fail
    refine (cs _).mono ?_
    rintro e w2 ⟨rfl, hb⟩
    replace P1 := (P1).kept hb
    replace P2 := (P2).kept hb
    replace P3 := (P3).kept hb
    replace B1 := bthen (B1) hb
    clear hb z0 c00 c01 z1 c10 c11 z2 c20 c21
    obtain ⟨z0, c00, c01, _, _⟩ := id P1
    obtain ⟨z1, c10, c11, _, _⟩ := id P2
    obtain ⟨z2, c20, c21, _, _⟩ := id P3
    go_wp2_with fail
    refine (ct _).mono ?_
    rintro e w3 ⟨rfl, hb⟩
    replace P1 := ((P1).alloc (.cells #[.int .i64 sN, .int .i64 sD] 23)).kept hb
    replace P2 := ((P2).alloc (.cells #[.int .i64 sN, .int .i64 sD] 23)).kept hb
    replace P3 := ((P3).alloc (.cells #[.int .i64 sN, .int .i64 sD] 23)).kept hb
    have Q1 := (Two.new w2 (.int .i64 sN) (.int .i64 sD) 23).kept hb
    replace B1 := bthen (balloc (B1) _) hb
    try simp only [World.size_alloc] at P1 P2 P3 Q1
    clear hb z0 c00 c01 z1 c10 c11 z2 c20 c21
    obtain ⟨z0, c00, c01, _, _⟩ := id P1
    obtain ⟨z1, c10, c11, _, _⟩ := id P2
    obtain ⟨z2, c20, c21, _, _⟩ := id P3
    obtain ⟨z3, c30, c31, _, _⟩ := id Q1
    go_wp2_with fail
    refine (cp _).mono ?_
    rintro e w4 ⟨rfl, hb⟩
    replace P1 := ((P1).alloc (.cells #[.int .i64 sN, .int .i64 sD] 23)).kept hb
    replace P2 := ((P2).alloc (.cells #[.int .i64 sN, .int .i64 sD] 23)).kept hb
    replace P3 := ((P3).alloc (.cells #[.int .i64 sN, .int .i64 sD] 23)).kept hb
    replace Q1 := ((Q1).alloc (.cells #[.int .i64 sN, .int .i64 sD] 23)).kept hb
    have Q2 := (Two.new w3 (.int .i64 sN) (.int .i64 sD) 23).kept hb
    replace B1 := bthen (balloc (B1) _) hb
    try simp only [World.size_alloc] at P1 P2 P3 Q1 Q2
    clear hb z0 c00 c01 z1 c10 c11 z2 c20 c21 z3 c30 c31
    obtain ⟨z0, c00, c01, _, _⟩ := id P1
    obtain ⟨z1, c10, c11, _, _⟩ := id P2
    obtain ⟨z2, c20, c21, _, _⟩ := id P3
    obtain ⟨z3, c30, c31, _, _⟩ := id Q1
    obtain ⟨z4, c40, c41, _, _⟩ := id Q2
    go_wp2_with fail
    refine (cq _).mono ?_
    rintro e w5 ⟨rfl, hb⟩
    replace P1 := ((P1).alloc (.cells #[.int .i64 pN, .int .i64 pD] 23)).kept hb
    replace P2 := ((P2).alloc (.cells #[.int .i64 pN, .int .i64 pD] 23)).kept hb
    replace P3 := ((P3).alloc (.cells #[.int .i64 pN, .int .i64 pD] 23)).kept hb
    replace Q1 := ((Q1).alloc (.cells #[.int .i64 pN, .int .i64 pD] 23)).kept hb
    replace Q2 := ((Q2).alloc (.cells #[.int .i64 pN, .int .i64 pD] 23)).kept hb
    have Q3 := (Two.new w4 (.int .i64 pN) (.int .i64 pD) 23).kept hb
    replace B1 := bthen (balloc (B1) _) hb
    try simp only [World.size_alloc] at P1 P2 P3 Q1 Q2 Q3
    clear hb z0 c00 c01 z1 c10 c11 z2 c20 c21 z3 c30 c31 z4 c40 c41
    obtain ⟨z0, c00, c01, _, _⟩ := id P1
    obtain ⟨z1, c10, c11, _, _⟩ := id P2
    obtain ⟨z2, c20, c21, _, _⟩ := id P3
    obtain ⟨z3, c30, c31, _, _⟩ := id Q1
    obtain ⟨z4, c40, c41, _, _⟩ := id Q2
    obtain ⟨z5, c50, c51, _, _⟩ := id Q3
    go_wp2_with fail
    refine (cu _).mono ?_
    rintro e w6 ⟨rfl, hb⟩
    replace P1 := ((P1).alloc (.cells #[.int .i64 pN, .int .i64 pD] 23)).kept hb
    replace P2 := ((P2).alloc (.cells #[.int .i64 pN, .int .i64 pD] 23)).kept hb
    replace P3 := ((P3).alloc (.cells #[.int .i64 pN, .int .i64 pD] 23)).kept hb
    replace Q1 := ((Q1).alloc (.cells #[.int .i64 pN, .int .i64 pD] 23)).kept hb
    replace Q2 := ((Q2).alloc (.cells #[.int .i64 pN, .int .i64 pD] 23)).kept hb
    replace Q3 := ((Q3).alloc (.cells #[.int .i64 pN, .int .i64 pD] 23)).kept hb
    have Q4 := (Two.new w5 (.int .i64 pN) (.int .i64 pD) 23).kept hb
    replace B1 := bthen (balloc (B1) _) hb
    try simp only [World.size_alloc] at P1 P2 P3 Q1 Q2 Q3 Q4
    clear hb z0 c00 c01 z1 c10 c11 z2 c20 c21 z3 c30 c31 z4 c40 c41 z5 c50 c51
    obtain ⟨z0, c00, c01, _, _⟩ := id P1
    obtain ⟨z1, c10, c11, _, _⟩ := id P2
    obtain ⟨z2, c20, c21, _, _⟩ := id P3
    obtain ⟨z3, c30, c31, _, _⟩ := id Q1
    obtain ⟨z4, c40, c41, _, _⟩ := id Q2
    obtain ⟨z5, c50, c51, _, _⟩ := id Q3
    obtain ⟨z6, c60, c61, _, _⟩ := id Q4
    go_wp2_with fail
    refine (cvv _).mono ?_
    rintro e w7 ⟨rfl, hb⟩
    replace P1 := ((P1).alloc (.cells #[.int .i64 uN, .int .i64 uD] 23)).kept hb
    replace P2 := ((P2).alloc (.cells #[.int .i64 uN, .int .i64 uD] 23)).kept hb
    replace P3 := ((P3).alloc (.cells #[.int .i64 uN, .int .i64 uD] 23)).kept hb
    replace Q1 := ((Q1).alloc (.cells #[.int .i64 uN, .int .i64 uD] 23)).kept hb
    replace Q2 := ((Q2).alloc (.cells #[.int .i64 uN, .int .i64 uD] 23)).kept hb
    replace Q3 := ((Q3).alloc (.cells #[.int .i64 uN, .int .i64 uD] 23)).kept hb
    replace Q4 := ((Q4).alloc (.cells #[.int .i64 uN, .int .i64 uD] 23)).kept hb
    have Q5 := (Two.new w6 (.int .i64 uN) (.int .i64 uD) 23).kept hb
    replace B1 := bthen (balloc (B1) _) hb
    try simp only [World.size_alloc] at P1 P2 P3 Q1 Q2 Q3 Q4 Q5
    clear hb z0 c00 c01 z1 c10 c11 z2 c20 c21 z3 c30 c31 z4 c40 c41 z5 c50 c51 z6 c60 c61
    obtain ⟨z0, c00, c01, _, _⟩ := id P1
    obtain ⟨z1, c10, c11, _, _⟩ := id P2
    obtain ⟨z2, c20, c21, _, _⟩ := id P3
    obtain ⟨z3, c30, c31, _, _⟩ := id Q1
    obtain ⟨z4, c40, c41, _, _⟩ := id Q2
    obtain ⟨z5, c50, c51, _, _⟩ := id Q3
    obtain ⟨z6, c60, c61, _, _⟩ := id Q4
    obtain ⟨z7, c70, c71, _, _⟩ := id Q5
    go_wp2
    all_goals
      go_ret
      exact ⟨by simp, balloc (B1) _⟩
  · rcases o1 with o1 | ⟨rfl, o1⟩
    · have d1 : (pe == 0) = false := beq_eq_false_iff_ne.2 o1
      clear o1 cm
      go_enter Try.func6, Try.ntmps6
      go_wp2_with fail
      refine (cl _).mono ?_
      rintro e w1 ⟨rfl, hb⟩
      have P1 := ((((Two.new w (.int .i64 a) (.int .i64 b) 23)).alloc (.cells #[.int .i64 c, .int .i64 d] 23)).alloc (.cells #[.int .i64 f, .int .i64 g] 23)).kept hb
      have P2 := (((Two.new (w.alloc (.cells #[.int .i64 a, .int .i64 b] 23)) (.int .i64 c) (.int .i64 d) 23)).alloc (.cells #[.int .i64 f, .int .i64 g] 23)).kept hb
      have P3 := (Two.new ((w.alloc (.cells #[.int .i64 a, .int .i64 b] 23)).alloc (.cells #[.int .i64 c, .int .i64 d] 23)) (.int .i64 f) (.int .i64 g) 23).kept hb
      have B1 := bthen (balloc (balloc (balloc (Below.refl _ w) _) _) _) hb
      try simp only [World.size_alloc] at P1 P2 P3
      clear hb
      obtain ⟨z0, c00, c01, _, _⟩ := id P1
      obtain ⟨z1, c10, c11, _, _⟩ := id P2
      obtain ⟨z2, c20, c21, _, _⟩ := id P3
      go_wp2_with fail
      refine (cs _).mono ?_
      rintro e w2 ⟨rfl, hb⟩
      replace P1 := (P1).kept hb
      replace P2 := (P2).kept hb
      replace P3 := (P3).kept hb
      replace B1 := bthen (B1) hb
      clear hb z0 c00 c01 z1 c10 c11 z2 c20 c21
      obtain ⟨z0, c00, c01, _, _⟩ := id P1
      obtain ⟨z1, c10, c11, _, _⟩ := id P2
      obtain ⟨z2, c20, c21, _, _⟩ := id P3
      go_wp2_with fail
      refine (ct _).mono ?_
      rintro e w3 ⟨rfl, hb⟩
      replace P1 := ((P1).alloc (.cells #[.int .i64 sN, .int .i64 sD] 23)).kept hb
      replace P2 := ((P2).alloc (.cells #[.int .i64 sN, .int .i64 sD] 23)).kept hb
      replace P3 := ((P3).alloc (.cells #[.int .i64 sN, .int .i64 sD] 23)).kept hb
      have Q1 := (Two.new w2 (.int .i64 sN) (.int .i64 sD) 23).kept hb
      replace B1 := bthen (balloc (B1) _) hb
      try simp only [World.size_alloc] at P1 P2 P3 Q1
      clear hb z0 c00 c01 z1 c10 c11 z2 c20 c21
      obtain ⟨z0, c00, c01, _, _⟩ := id P1
      obtain ⟨z1, c10, c11, _, _⟩ := id P2
      obtain ⟨z2, c20, c21, _, _⟩ := id P3
      obtain ⟨z3, c30, c31, _, _⟩ := id Q1
      go_wp2_with fail
      refine (cp _).mono ?_
      rintro e w4 ⟨rfl, hb⟩
      replace P1 := ((P1).alloc (.cells #[.int .i64 sN, .int .i64 sD] 23)).kept hb
      replace P2 := ((P2).alloc (.cells #[.int .i64 sN, .int .i64 sD] 23)).kept hb
      replace P3 := ((P3).alloc (.cells #[.int .i64 sN, .int .i64 sD] 23)).kept hb
      replace Q1 := ((Q1).alloc (.cells #[.int .i64 sN, .int .i64 sD] 23)).kept hb
      have Q2 := (Two.new w3 (.int .i64 sN) (.int .i64 sD) 23).kept hb
      replace B1 := bthen (balloc (B1) _) hb
      try simp only [World.size_alloc] at P1 P2 P3 Q1 Q2
      clear hb z0 c00 c01 z1 c10 c11 z2 c20 c21 z3 c30 c31
      obtain ⟨z0, c00, c01, _, _⟩ := id P1
      obtain ⟨z1, c10, c11, _, _⟩ := id P2
      obtain ⟨z2, c20, c21, _, _⟩ := id P3
      obtain ⟨z3, c30, c31, _, _⟩ := id Q1
      obtain ⟨z4, c40, c41, _, _⟩ := id Q2
      go_wp2_with fail
      refine (cq _).mono ?_
      rintro e w5 ⟨rfl, hb⟩
      replace P1 := ((P1).alloc (.cells #[.int .i64 pN, .int .i64 pD] 23)).kept hb
      replace P2 := ((P2).alloc (.cells #[.int .i64 pN, .int .i64 pD] 23)).kept hb
      replace P3 := ((P3).alloc (.cells #[.int .i64 pN, .int .i64 pD] 23)).kept hb
      replace Q1 := ((Q1).alloc (.cells #[.int .i64 pN, .int .i64 pD] 23)).kept hb
      replace Q2 := ((Q2).alloc (.cells #[.int .i64 pN, .int .i64 pD] 23)).kept hb
      have Q3 := (Two.new w4 (.int .i64 pN) (.int .i64 pD) 23).kept hb
      replace B1 := bthen (balloc (B1) _) hb
      try simp only [World.size_alloc] at P1 P2 P3 Q1 Q2 Q3
      clear hb z0 c00 c01 z1 c10 c11 z2 c20 c21 z3 c30 c31 z4 c40 c41
      obtain ⟨z0, c00, c01, _, _⟩ := id P1
      obtain ⟨z1, c10, c11, _, _⟩ := id P2
      obtain ⟨z2, c20, c21, _, _⟩ := id P3
      obtain ⟨z3, c30, c31, _, _⟩ := id Q1
      obtain ⟨z4, c40, c41, _, _⟩ := id Q2
      obtain ⟨z5, c50, c51, _, _⟩ := id Q3
      go_wp2_with fail
      refine (cu _).mono ?_
      rintro e w6 ⟨rfl, hb⟩
      replace P1 := ((P1).alloc (.cells #[.int .i64 pN, .int .i64 pD] 23)).kept hb
      replace P2 := ((P2).alloc (.cells #[.int .i64 pN, .int .i64 pD] 23)).kept hb
      replace P3 := ((P3).alloc (.cells #[.int .i64 pN, .int .i64 pD] 23)).kept hb
      replace Q1 := ((Q1).alloc (.cells #[.int .i64 pN, .int .i64 pD] 23)).kept hb
      replace Q2 := ((Q2).alloc (.cells #[.int .i64 pN, .int .i64 pD] 23)).kept hb
      replace Q3 := ((Q3).alloc (.cells #[.int .i64 pN, .int .i64 pD] 23)).kept hb
      have Q4 := (Two.new w5 (.int .i64 pN) (.int .i64 pD) 23).kept hb
      replace B1 := bthen (balloc (B1) _) hb
      try simp only [World.size_alloc] at P1 P2 P3 Q1 Q2 Q3 Q4
      clear hb z0 c00 c01 z1 c10 c11 z2 c20 c21 z3 c30 c31 z4 c40 c41 z5 c50 c51
      obtain ⟨z0, c00, c01, _, _⟩ := id P1
      obtain ⟨z1, c10, c11, _, _⟩ := id P2
      obtain ⟨z2, c20, c21, _, _⟩ := id P3
      obtain ⟨z3, c30, c31, _, _⟩ := id Q1
      obtain ⟨z4, c40, c41, _, _⟩ := id Q2
      obtain ⟨z5, c50, c51, _, _⟩ := id Q3
      obtain ⟨z6, c60, c61, _, _⟩ := id Q4
      go_wp2_with fail
      refine (cx _).mono ?_
      rintro e w7 ⟨rfl, hb⟩
      replace P1 := ((P1).alloc (.cells #[.int .i64 uN, .int .i64 uD] 23)).kept hb
      replace P2 := ((P2).alloc (.cells #[.int .i64 uN, .int .i64 uD] 23)).kept hb
      replace P3 := ((P3).alloc (.cells #[.int .i64 uN, .int .i64 uD] 23)).kept hb
      replace Q1 := ((Q1).alloc (.cells #[.int .i64 uN, .int .i64 uD] 23)).kept hb
      replace Q2 := ((Q2).alloc (.cells #[.int .i64 uN, .int .i64 uD] 23)).kept hb
      replace Q3 := ((Q3).alloc (.cells #[.int .i64 uN, .int .i64 uD] 23)).kept hb
      replace Q4 := ((Q4).alloc (.cells #[.int .i64 uN, .int .i64 uD] 23)).kept hb
      have Q5 := (Two.new w6 (.int .i64 uN) (.int .i64 uD) 23).kept hb
      replace B1 := bthen (balloc (B1) _) hb
      try simp only [World.size_alloc] at P1 P2 P3 Q1 Q2 Q3 Q4 Q5
      clear hb z0 c00 c01 z1 c10 c11 z2 c20 c21 z3 c30 c31 z4 c40 c41 z5 c50 c51 z6 c60 c61
      obtain ⟨z0, c00, c01, _, _⟩ := id P1
      obtain ⟨z1, c10, c11, _, _⟩ := id P2
      obtain ⟨z2, c20, c21, _, _⟩ := id P3
      obtain ⟨z3, c30, c31, _, _⟩ := id Q1
      obtain ⟨z4, c40, c41, _, _⟩ := id Q2
      obtain ⟨z5, c50, c51, _, _⟩ := id Q3
      obtain ⟨z6, c60, c61, _, _⟩ := id Q4
      obtain ⟨z7, c70, c71, _, _⟩ := id Q5
      go_wp2_with fail
      refine (cy _).mono ?_
      rintro e w8 ⟨rfl, hb⟩
      replace P1 := ((P1).alloc (.cells #[.int .i64 xN, .int .i64 xD] 23)).kept hb
      replace P2 := ((P2).alloc (.cells #[.int .i64 xN, .int .i64 xD] 23)).kept hb
      replace P3 := ((P3).alloc (.cells #[.int .i64 xN, .int .i64 xD] 23)).kept hb
      replace Q1 := ((Q1).alloc (.cells #[.int .i64 xN, .int .i64 xD] 23)).kept hb
      replace Q2 := ((Q2).alloc (.cells #[.int .i64 xN, .int .i64 xD] 23)).kept hb
      replace Q3 := ((Q3).alloc (.cells #[.int .i64 xN, .int .i64 xD] 23)).kept hb
      replace Q4 := ((Q4).alloc (.cells #[.int .i64 xN, .int .i64 xD] 23)).kept hb
      replace Q5 := ((Q5).alloc (.cells #[.int .i64 xN, .int .i64 xD] 23)).kept hb
      have Q6 := (Two.new w7 (.int .i64 xN) (.int .i64 xD) 23).kept hb
      replace B1 := bthen (balloc (B1) _) hb
      try simp only [World.size_alloc] at P1 P2 P3 Q1 Q2 Q3 Q4 Q5 Q6
      clear hb z0 c00 c01 z1 c10 c11 z2 c20 c21 z3 c30 c31 z4 c40 c41 z5 c50 c51 z6 c60 c61 z7 c70 c71
      obtain ⟨z0, c00, c01, _, _⟩ := id P1
      obtain ⟨z1, c10, c11, _, _⟩ := id P2
      obtain ⟨z2, c20, c21, _, _⟩ := id P3
      obtain ⟨z3, c30, c31, _, _⟩ := id Q1
      obtain ⟨z4, c40, c41, _, _⟩ := id Q2
      obtain ⟨z5, c50, c51, _, _⟩ := id Q3
      obtain ⟨z6, c60, c61, _, _⟩ := id Q4
      obtain ⟨z7, c70, c71, _, _⟩ := id Q5
      obtain ⟨z8, c80, c81, _, _⟩ := id Q6
      go_wp2_with fail
      refine (cvv _).mono ?_
      rintro e w9 ⟨rfl, hb⟩
      replace P1 := ((P1).alloc (.cells #[.int .i64 xN, .int .i64 xD] 23)).kept hb
      replace P2 := ((P2).alloc (.cells #[.int .i64 xN, .int .i64 xD] 23)).kept hb
      replace P3 := ((P3).alloc (.cells #[.int .i64 xN, .int .i64 xD] 23)).kept hb
      replace Q1 := ((Q1).alloc (.cells #[.int .i64 xN, .int .i64 xD] 23)).kept hb
      replace Q2 := ((Q2).alloc (.cells #[.int .i64 xN, .int .i64 xD] 23)).kept hb
      replace Q3 := ((Q3).alloc (.cells #[.int .i64 xN, .int .i64 xD] 23)).kept hb
      replace Q4 := ((Q4).alloc (.cells #[.int .i64 xN, .int .i64 xD] 23)).kept hb
      replace Q5 := ((Q5).alloc (.cells #[.int .i64 xN, .int .i64 xD] 23)).kept hb
      replace Q6 := ((Q6).alloc (.cells #[.int .i64 xN, .int .i64 xD] 23)).kept hb
      have Q7 := (Two.new w8 (.int .i64 xN) (.int .i64 xD) 23).kept hb
      replace B1 := bthen (balloc (B1) _) hb
      try simp only [World.size_alloc] at P1 P2 P3 Q1 Q2 Q3 Q4 Q5 Q6 Q7
      clear hb z0 c00 c01 z1 c10 c11 z2 c20 c21 z3 c30 c31 z4 c40 c41 z5 c50 c51 z6 c60 c61 z7 c70 c71 z8 c80 c81
      obtain ⟨z0, c00, c01, _, _⟩ := id P1
      obtain ⟨z1, c10, c11, _, _⟩ := id P2
      obtain ⟨z2, c20, c21, _, _⟩ := id P3
      obtain ⟨z3, c30, c31, _, _⟩ := id Q1
      obtain ⟨z4, c40, c41, _, _⟩ := id Q2
      obtain ⟨z5, c50, c51, _, _⟩ := id Q3
      obtain ⟨z6, c60, c61, _, _⟩ := id Q4
      obtain ⟨z7, c70, c71, _, _⟩ := id Q5
      obtain ⟨z8, c80, c81, _, _⟩ := id Q6
      obtain ⟨z9, c90, c91, _, _⟩ := id Q7
      go_wp2
      go_ret
      exact ⟨by simp, balloc (B1) _⟩
    · have d1 : (ve == 0) = false := beq_eq_false_iff_ne.2 o1
      clear o1 cm
      go_enter Try.func6, Try.ntmps6
      go_wp2_with fail
      refine (cl _).mono ?_
      rintro e w1 ⟨rfl, hb⟩
      have P1 := ((((Two.new w (.int .i64 a) (.int .i64 b) 23)).alloc (.cells #[.int .i64 c, .int .i64 d] 23)).alloc (.cells #[.int .i64 f, .int .i64 g] 23)).kept hb
      have P2 := (((Two.new (w.alloc (.cells #[.int .i64 a, .int .i64 b] 23)) (.int .i64 c) (.int .i64 d) 23)).alloc (.cells #[.int .i64 f, .int .i64 g] 23)).kept hb
      have P3 := (Two.new ((w.alloc (.cells #[.int .i64 a, .int .i64 b] 23)).alloc (.cells #[.int .i64 c, .int .i64 d] 23)) (.int .i64 f) (.int .i64 g) 23).kept hb
      have B1 := bthen (balloc (balloc (balloc (Below.refl _ w) _) _) _) hb
      try simp only [World.size_alloc] at P1 P2 P3
      clear hb
      obtain ⟨z0, c00, c01, _, _⟩ := id P1
      obtain ⟨z1, c10, c11, _, _⟩ := id P2
      obtain ⟨z2, c20, c21, _, _⟩ := id P3
      go_wp2_with fail
      refine (cs _).mono ?_
      rintro e w2 ⟨rfl, hb⟩
      replace P1 := (P1).kept hb
      replace P2 := (P2).kept hb
      replace P3 := (P3).kept hb
      replace B1 := bthen (B1) hb
      clear hb z0 c00 c01 z1 c10 c11 z2 c20 c21
      obtain ⟨z0, c00, c01, _, _⟩ := id P1
      obtain ⟨z1, c10, c11, _, _⟩ := id P2
      obtain ⟨z2, c20, c21, _, _⟩ := id P3
      go_wp2_with fail
      refine (ct _).mono ?_
      rintro e w3 ⟨rfl, hb⟩
      replace P1 := ((P1).alloc (.cells #[.int .i64 sN, .int .i64 sD] 23)).kept hb
      replace P2 := ((P2).alloc (.cells #[.int .i64 sN, .int .i64 sD] 23)).kept hb
      replace P3 := ((P3).alloc (.cells #[.int .i64 sN, .int .i64 sD] 23)).kept hb
      have Q1 := (Two.new w2 (.int .i64 sN) (.int .i64 sD) 23).kept hb
      replace B1 := bthen (balloc (B1) _) hb
      try simp only [World.size_alloc] at P1 P2 P3 Q1
      clear hb z0 c00 c01 z1 c10 c11 z2 c20 c21
      obtain ⟨z0, c00, c01, _, _⟩ := id P1
      obtain ⟨z1, c10, c11, _, _⟩ := id P2
      obtain ⟨z2, c20, c21, _, _⟩ := id P3
      obtain ⟨z3, c30, c31, _, _⟩ := id Q1
      go_wp2_with fail
      refine (cp _).mono ?_
      rintro e w4 ⟨rfl, hb⟩
      replace P1 := ((P1).alloc (.cells #[.int .i64 sN, .int .i64 sD] 23)).kept hb
      replace P2 := ((P2).alloc (.cells #[.int .i64 sN, .int .i64 sD] 23)).kept hb
      replace P3 := ((P3).alloc (.cells #[.int .i64 sN, .int .i64 sD] 23)).kept hb
      replace Q1 := ((Q1).alloc (.cells #[.int .i64 sN, .int .i64 sD] 23)).kept hb
      have Q2 := (Two.new w3 (.int .i64 sN) (.int .i64 sD) 23).kept hb
      replace B1 := bthen (balloc (B1) _) hb
      try simp only [World.size_alloc] at P1 P2 P3 Q1 Q2
      clear hb z0 c00 c01 z1 c10 c11 z2 c20 c21 z3 c30 c31
      obtain ⟨z0, c00, c01, _, _⟩ := id P1
      obtain ⟨z1, c10, c11, _, _⟩ := id P2
      obtain ⟨z2, c20, c21, _, _⟩ := id P3
      obtain ⟨z3, c30, c31, _, _⟩ := id Q1
      obtain ⟨z4, c40, c41, _, _⟩ := id Q2
      go_wp2_with fail
      refine (cq _).mono ?_
      rintro e w5 ⟨rfl, hb⟩
      replace P1 := ((P1).alloc (.cells #[.int .i64 pN, .int .i64 pD] 23)).kept hb
      replace P2 := ((P2).alloc (.cells #[.int .i64 pN, .int .i64 pD] 23)).kept hb
      replace P3 := ((P3).alloc (.cells #[.int .i64 pN, .int .i64 pD] 23)).kept hb
      replace Q1 := ((Q1).alloc (.cells #[.int .i64 pN, .int .i64 pD] 23)).kept hb
      replace Q2 := ((Q2).alloc (.cells #[.int .i64 pN, .int .i64 pD] 23)).kept hb
      have Q3 := (Two.new w4 (.int .i64 pN) (.int .i64 pD) 23).kept hb
      replace B1 := bthen (balloc (B1) _) hb
      try simp only [World.size_alloc] at P1 P2 P3 Q1 Q2 Q3
      clear hb z0 c00 c01 z1 c10 c11 z2 c20 c21 z3 c30 c31 z4 c40 c41
      obtain ⟨z0, c00, c01, _, _⟩ := id P1
      obtain ⟨z1, c10, c11, _, _⟩ := id P2
      obtain ⟨z2, c20, c21, _, _⟩ := id P3
      obtain ⟨z3, c30, c31, _, _⟩ := id Q1
      obtain ⟨z4, c40, c41, _, _⟩ := id Q2
      obtain ⟨z5, c50, c51, _, _⟩ := id Q3
      go_wp2_with fail
      refine (cu _).mono ?_
      rintro e w6 ⟨rfl, hb⟩
      replace P1 := ((P1).alloc (.cells #[.int .i64 pN, .int .i64 pD] 23)).kept hb
      replace P2 := ((P2).alloc (.cells #[.int .i64 pN, .int .i64 pD] 23)).kept hb
      replace P3 := ((P3).alloc (.cells #[.int .i64 pN, .int .i64 pD] 23)).kept hb
      replace Q1 := ((Q1).alloc (.cells #[.int .i64 pN, .int .i64 pD] 23)).kept hb
      replace Q2 := ((Q2).alloc (.cells #[.int .i64 pN, .int .i64 pD] 23)).kept hb
      replace Q3 := ((Q3).alloc (.cells #[.int .i64 pN, .int .i64 pD] 23)).kept hb
      have Q4 := (Two.new w5 (.int .i64 pN) (.int .i64 pD) 23).kept hb
      replace B1 := bthen (balloc (B1) _) hb
      try simp only [World.size_alloc] at P1 P2 P3 Q1 Q2 Q3 Q4
      clear hb z0 c00 c01 z1 c10 c11 z2 c20 c21 z3 c30 c31 z4 c40 c41 z5 c50 c51
      obtain ⟨z0, c00, c01, _, _⟩ := id P1
      obtain ⟨z1, c10, c11, _, _⟩ := id P2
      obtain ⟨z2, c20, c21, _, _⟩ := id P3
      obtain ⟨z3, c30, c31, _, _⟩ := id Q1
      obtain ⟨z4, c40, c41, _, _⟩ := id Q2
      obtain ⟨z5, c50, c51, _, _⟩ := id Q3
      obtain ⟨z6, c60, c61, _, _⟩ := id Q4
      go_wp2_with fail
      refine (cx _).mono ?_
      rintro e w7 ⟨rfl, hb⟩
      replace P1 := ((P1).alloc (.cells #[.int .i64 uN, .int .i64 uD] 23)).kept hb
      replace P2 := ((P2).alloc (.cells #[.int .i64 uN, .int .i64 uD] 23)).kept hb
      replace P3 := ((P3).alloc (.cells #[.int .i64 uN, .int .i64 uD] 23)).kept hb
      replace Q1 := ((Q1).alloc (.cells #[.int .i64 uN, .int .i64 uD] 23)).kept hb
      replace Q2 := ((Q2).alloc (.cells #[.int .i64 uN, .int .i64 uD] 23)).kept hb
      replace Q3 := ((Q3).alloc (.cells #[.int .i64 uN, .int .i64 uD] 23)).kept hb
      replace Q4 := ((Q4).alloc (.cells #[.int .i64 uN, .int .i64 uD] 23)).kept hb
      have Q5 := (Two.new w6 (.int .i64 uN) (.int .i64 uD) 23).kept hb
      replace B1 := bthen (balloc (B1) _) hb
      try simp only [World.size_alloc] at P1 P2 P3 Q1 Q2 Q3 Q4 Q5
      clear hb z0 c00 c01 z1 c10 c11 z2 c20 c21 z3 c30 c31 z4 c40 c41 z5 c50 c51 z6 c60 c61
      obtain ⟨z0, c00, c01, _, _⟩ := id P1
      obtain ⟨z1, c10, c11, _, _⟩ := id P2
      obtain ⟨z2, c20, c21, _, _⟩ := id P3
      obtain ⟨z3, c30, c31, _, _⟩ := id Q1
      obtain ⟨z4, c40, c41, _, _⟩ := id Q2
      obtain ⟨z5, c50, c51, _, _⟩ := id Q3
      obtain ⟨z6, c60, c61, _, _⟩ := id Q4
      obtain ⟨z7, c70, c71, _, _⟩ := id Q5
      go_wp2_with fail
      refine (cy _).mono ?_
      rintro e w8 ⟨rfl, hb⟩
      replace P1 := ((P1).alloc (.cells #[.int .i64 xN, .int .i64 xD] 23)).kept hb
      replace P2 := ((P2).alloc (.cells #[.int .i64 xN, .int .i64 xD] 23)).kept hb
      replace P3 := ((P3).alloc (.cells #[.int .i64 xN, .int .i64 xD] 23)).kept hb
      replace Q1 := ((Q1).alloc (.cells #[.int .i64 xN, .int .i64 xD] 23)).kept hb
      replace Q2 := ((Q2).alloc (.cells #[.int .i64 xN, .int .i64 xD] 23)).kept hb
      replace Q3 := ((Q3).alloc (.cells #[.int .i64 xN, .int .i64 xD] 23)).kept hb
      replace Q4 := ((Q4).alloc (.cells #[.int .i64 xN, .int .i64 xD] 23)).kept hb
      replace Q5 := ((Q5).alloc (.cells #[.int .i64 xN, .int .i64 xD] 23)).kept hb
      have Q6 := (Two.new w7 (.int .i64 xN) (.int .i64 xD) 23).kept hb
      replace B1 := bthen (balloc (B1) _) hb
      try simp only [World.size_alloc] at P1 P2 P3 Q1 Q2 Q3 Q4 Q5 Q6
      clear hb z0 c00 c01 z1 c10 c11 z2 c20 c21 z3 c30 c31 z4 c40 c41 z5 c50 c51 z6 c60 c61 z7 c70 c71
      obtain ⟨z0, c00, c01, _, _⟩ := id P1
      obtain ⟨z1, c10, c11, _, _⟩ := id P2
      obtain ⟨z2, c20, c21, _, _⟩ := id P3
      obtain ⟨z3, c30, c31, _, _⟩ := id Q1
      obtain ⟨z4, c40, c41, _, _⟩ := id Q2
      obtain ⟨z5, c50, c51, _, _⟩ := id Q3
      obtain ⟨z6, c60, c61, _, _⟩ := id Q4
      obtain ⟨z7, c70, c71, _, _⟩ := id Q5
      obtain ⟨z8, c80, c81, _, _⟩ := id Q6
      go_wp2_with fail
      refine (cvv _).mono ?_
      rintro e w9 ⟨rfl, hb⟩
      replace P1 := ((P1).alloc (.cells #[.int .i64 xN, .int .i64 xD] 23)).kept hb
      replace P2 := ((P2).alloc (.cells #[.int .i64 xN, .int .i64 xD] 23)).kept hb
      replace P3 := ((P3).alloc (.cells #[.int .i64 xN, .int .i64 xD] 23)).kept hb
      replace Q1 := ((Q1).alloc (.cells #[.int .i64 xN, .int .i64 xD] 23)).kept hb
      replace Q2 := ((Q2).alloc (.cells #[.int .i64 xN, .int .i64 xD] 23)).kept hb
      replace Q3 := ((Q3).alloc (.cells #[.int .i64 xN, .int .i64 xD] 23)).kept hb
      replace Q4 := ((Q4).alloc (.cells #[.int .i64 xN, .int .i64 xD] 23)).kept hb
      replace Q5 := ((Q5).alloc (.cells #[.int .i64 xN, .int .i64 xD] 23)).kept hb
      replace Q6 := ((Q6).alloc (.cells #[.int .i64 xN, .int .i64 xD] 23)).kept hb
      have Q7 := (Two.new w8 (.int .i64 xN) (.int .i64 xD) 23).kept hb
      replace B1 := bthen (balloc (B1) _) hb
      try simp only [World.size_alloc] at P1 P2 P3 Q1 Q2 Q3 Q4 Q5 Q6 Q7
      clear hb z0 c00 c01 z1 c10 c11 z2 c20 c21 z3 c30 c31 z4 c40 c41 z5 c50 c51 z6 c60 c61 z7 c70 c71 z8 c80 c81
      obtain ⟨z0, c00, c01, _, _⟩ := id P1
      obtain ⟨z1, c10, c11, _, _⟩ := id P2
      obtain ⟨z2, c20, c21, _, _⟩ := id P3
      obtain ⟨z3, c30, c31, _, _⟩ := id Q1
      obtain ⟨z4, c40, c41, _, _⟩ := id Q2
      obtain ⟨z5, c50, c51, _, _⟩ := id Q3
      obtain ⟨z6, c60, c61, _, _⟩ := id Q4
      obtain ⟨z7, c70, c71, _, _⟩ := id Q5
      obtain ⟨z8, c80, c81, _, _⟩ := id Q6
      obtain ⟨z9, c90, c91, _, _⟩ := id Q7
      go_wp2
      go_ret
      exact ⟨by simp, balloc (B1) _⟩
  · go_enter Try.func6, Try.ntmps6
    go_wp2_with fail
    refine (cl _).mono ?_
    rintro e w1 ⟨rfl, hb⟩
    have P1 := ((((Two.new w (.int .i64 a) (.int .i64 b) 23)).alloc (.cells #[.int .i64 c, .int .i64 d] 23)).alloc (.cells #[.int .i64 f, .int .i64 g] 23)).kept hb
    have P2 := (((Two.new (w.alloc (.cells #[.int .i64 a, .int .i64 b] 23)) (.int .i64 c) (.int .i64 d) 23)).alloc (.cells #[.int .i64 f, .int .i64 g] 23)).kept hb
    have P3 := (Two.new ((w.alloc (.cells #[.int .i64 a, .int .i64 b] 23)).alloc (.cells #[.int .i64 c, .int .i64 d] 23)) (.int .i64 f) (.int .i64 g) 23).kept hb
    have B1 := bthen (balloc (balloc (balloc (Below.refl _ w) _) _) _) hb
    try simp only [World.size_alloc] at P1 P2 P3
    clear hb
    obtain ⟨z0, c00, c01, _, _⟩ := id P1
    obtain ⟨z1, c10, c11, _, _⟩ := id P2
    obtain ⟨z2, c20, c21, _, _⟩ := id P3
    go_wp2_with fail
    refine (cs _).mono ?_
    rintro e w2 ⟨rfl, hb⟩
    replace P1 := (P1).kept hb
    replace P2 := (P2).kept hb
    replace P3 := (P3).kept hb
    replace B1 := bthen (B1) hb
    clear hb z0 c00 c01 z1 c10 c11 z2 c20 c21
    obtain ⟨z0, c00, c01, _, _⟩ := id P1
    obtain ⟨z1, c10, c11, _, _⟩ := id P2
    obtain ⟨z2, c20, c21, _, _⟩ := id P3
    go_wp2_with fail
    refine (ct _).mono ?_
    rintro e w3 ⟨rfl, hb⟩
    replace P1 := ((P1).alloc (.cells #[.int .i64 sN, .int .i64 sD] 23)).kept hb
    replace P2 := ((P2).alloc (.cells #[.int .i64 sN, .int .i64 sD] 23)).kept hb
    replace P3 := ((P3).alloc (.cells #[.int .i64 sN, .int .i64 sD] 23)).kept hb
    have Q1 := (Two.new w2 (.int .i64 sN) (.int .i64 sD) 23).kept hb
    replace B1 := bthen (balloc (B1) _) hb
    try simp only [World.size_alloc] at P1 P2 P3 Q1
    clear hb z0 c00 c01 z1 c10 c11 z2 c20 c21
    obtain ⟨z0, c00, c01, _, _⟩ := id P1
    obtain ⟨z1, c10, c11, _, _⟩ := id P2
    obtain ⟨z2, c20, c21, _, _⟩ := id P3
    obtain ⟨z3, c30, c31, _, _⟩ := id Q1
    go_wp2_with fail
    refine (cp _).mono ?_
    rintro e w4 ⟨rfl, hb⟩
    replace P1 := ((P1).alloc (.cells #[.int .i64 sN, .int .i64 sD] 23)).kept hb
    replace P2 := ((P2).alloc (.cells #[.int .i64 sN, .int .i64 sD] 23)).kept hb
    replace P3 := ((P3).alloc (.cells #[.int .i64 sN, .int .i64 sD] 23)).kept hb
    replace Q1 := ((Q1).alloc (.cells #[.int .i64 sN, .int .i64 sD] 23)).kept hb
    have Q2 := (Two.new w3 (.int .i64 sN) (.int .i64 sD) 23).kept hb
    replace B1 := bthen (balloc (B1) _) hb
    try simp only [World.size_alloc] at P1 P2 P3 Q1 Q2
    clear hb z0 c00 c01 z1 c10 c11 z2 c20 c21 z3 c30 c31
    obtain ⟨z0, c00, c01, _, _⟩ := id P1
    obtain ⟨z1, c10, c11, _, _⟩ := id P2
    obtain ⟨z2, c20, c21, _, _⟩ := id P3
    obtain ⟨z3, c30, c31, _, _⟩ := id Q1
    obtain ⟨z4, c40, c41, _, _⟩ := id Q2
    go_wp2_with fail
    refine (cq _).mono ?_
    rintro e w5 ⟨rfl, hb⟩
    replace P1 := ((P1).alloc (.cells #[.int .i64 pN, .int .i64 pD] 23)).kept hb
    replace P2 := ((P2).alloc (.cells #[.int .i64 pN, .int .i64 pD] 23)).kept hb
    replace P3 := ((P3).alloc (.cells #[.int .i64 pN, .int .i64 pD] 23)).kept hb
    replace Q1 := ((Q1).alloc (.cells #[.int .i64 pN, .int .i64 pD] 23)).kept hb
    replace Q2 := ((Q2).alloc (.cells #[.int .i64 pN, .int .i64 pD] 23)).kept hb
    have Q3 := (Two.new w4 (.int .i64 pN) (.int .i64 pD) 23).kept hb
    replace B1 := bthen (balloc (B1) _) hb
    try simp only [World.size_alloc] at P1 P2 P3 Q1 Q2 Q3
    clear hb z0 c00 c01 z1 c10 c11 z2 c20 c21 z3 c30 c31 z4 c40 c41
    obtain ⟨z0, c00, c01, _, _⟩ := id P1
    obtain ⟨z1, c10, c11, _, _⟩ := id P2
    obtain ⟨z2, c20, c21, _, _⟩ := id P3
    obtain ⟨z3, c30, c31, _, _⟩ := id Q1
    obtain ⟨z4, c40, c41, _, _⟩ := id Q2
    obtain ⟨z5, c50, c51, _, _⟩ := id Q3
    go_wp2_with fail
    refine (cu _).mono ?_
    rintro e w6 ⟨rfl, hb⟩
    replace P1 := ((P1).alloc (.cells #[.int .i64 pN, .int .i64 pD] 23)).kept hb
    replace P2 := ((P2).alloc (.cells #[.int .i64 pN, .int .i64 pD] 23)).kept hb
    replace P3 := ((P3).alloc (.cells #[.int .i64 pN, .int .i64 pD] 23)).kept hb
    replace Q1 := ((Q1).alloc (.cells #[.int .i64 pN, .int .i64 pD] 23)).kept hb
    replace Q2 := ((Q2).alloc (.cells #[.int .i64 pN, .int .i64 pD] 23)).kept hb
    replace Q3 := ((Q3).alloc (.cells #[.int .i64 pN, .int .i64 pD] 23)).kept hb
    have Q4 := (Two.new w5 (.int .i64 pN) (.int .i64 pD) 23).kept hb
    replace B1 := bthen (balloc (B1) _) hb
    try simp only [World.size_alloc] at P1 P2 P3 Q1 Q2 Q3 Q4
    clear hb z0 c00 c01 z1 c10 c11 z2 c20 c21 z3 c30 c31 z4 c40 c41 z5 c50 c51
    obtain ⟨z0, c00, c01, _, _⟩ := id P1
    obtain ⟨z1, c10, c11, _, _⟩ := id P2
    obtain ⟨z2, c20, c21, _, _⟩ := id P3
    obtain ⟨z3, c30, c31, _, _⟩ := id Q1
    obtain ⟨z4, c40, c41, _, _⟩ := id Q2
    obtain ⟨z5, c50, c51, _, _⟩ := id Q3
    obtain ⟨z6, c60, c61, _, _⟩ := id Q4
    go_wp2_with fail
    refine (cx _).mono ?_
    rintro e w7 ⟨rfl, hb⟩
    replace P1 := ((P1).alloc (.cells #[.int .i64 uN, .int .i64 uD] 23)).kept hb
    replace P2 := ((P2).alloc (.cells #[.int .i64 uN, .int .i64 uD] 23)).kept hb
    replace P3 := ((P3).alloc (.cells #[.int .i64 uN, .int .i64 uD] 23)).kept hb
    replace Q1 := ((Q1).alloc (.cells #[.int .i64 uN, .int .i64 uD] 23)).kept hb
    replace Q2 := ((Q2).alloc (.cells #[.int .i64 uN, .int .i64 uD] 23)).kept hb
    replace Q3 := ((Q3).alloc (.cells #[.int .i64 uN, .int .i64 uD] 23)).kept hb
    replace Q4 := ((Q4).alloc (.cells #[.int .i64 uN, .int .i64 uD] 23)).kept hb
    have Q5 := (Two.new w6 (.int .i64 uN) (.int .i64 uD) 23).kept hb
    replace B1 := bthen (balloc (B1) _) hb
    try simp only [World.size_alloc] at P1 P2 P3 Q1 Q2 Q3 Q4 Q5
    clear hb z0 c00 c01 z1 c10 c11 z2 c20 c21 z3 c30 c31 z4 c40 c41 z5 c50 c51 z6 c60 c61
    obtain ⟨z0, c00, c01, _, _⟩ := id P1
    obtain ⟨z1, c10, c11, _, _⟩ := id P2
    obtain ⟨z2, c20, c21, _, _⟩ := id P3
    obtain ⟨z3, c30, c31, _, _⟩ := id Q1
    obtain ⟨z4, c40, c41, _, _⟩ := id Q2
    obtain ⟨z5, c50, c51, _, _⟩ := id Q3
    obtain ⟨z6, c60, c61, _, _⟩ := id Q4
    obtain ⟨z7, c70, c71, _, _⟩ := id Q5
    go_wp2_with fail
    refine (cy _).mono ?_
    rintro e w8 ⟨rfl, hb⟩
    replace P1 := ((P1).alloc (.cells #[.int .i64 xN, .int .i64 xD] 23)).kept hb
    replace P2 := ((P2).alloc (.cells #[.int .i64 xN, .int .i64 xD] 23)).kept hb
    replace P3 := ((P3).alloc (.cells #[.int .i64 xN, .int .i64 xD] 23)).kept hb
    replace Q1 := ((Q1).alloc (.cells #[.int .i64 xN, .int .i64 xD] 23)).kept hb
    replace Q2 := ((Q2).alloc (.cells #[.int .i64 xN, .int .i64 xD] 23)).kept hb
    replace Q3 := ((Q3).alloc (.cells #[.int .i64 xN, .int .i64 xD] 23)).kept hb
    replace Q4 := ((Q4).alloc (.cells #[.int .i64 xN, .int .i64 xD] 23)).kept hb
    replace Q5 := ((Q5).alloc (.cells #[.int .i64 xN, .int .i64 xD] 23)).kept hb
    have Q6 := (Two.new w7 (.int .i64 xN) (.int .i64 xD) 23).kept hb
    replace B1 := bthen (balloc (B1) _) hb
    try simp only [World.size_alloc] at P1 P2 P3 Q1 Q2 Q3 Q4 Q5 Q6
    clear hb z0 c00 c01 z1 c10 c11 z2 c20 c21 z3 c30 c31 z4 c40 c41 z5 c50 c51 z6 c60 c61 z7 c70 c71
    obtain ⟨z0, c00, c01, _, _⟩ := id P1
    obtain ⟨z1, c10, c11, _, _⟩ := id P2
    obtain ⟨z2, c20, c21, _, _⟩ := id P3
    obtain ⟨z3, c30, c31, _, _⟩ := id Q1
    obtain ⟨z4, c40, c41, _, _⟩ := id Q2
    obtain ⟨z5, c50, c51, _, _⟩ := id Q3
    obtain ⟨z6, c60, c61, _, _⟩ := id Q4
    obtain ⟨z7, c70, c71, _, _⟩ := id Q5
    obtain ⟨z8, c80, c81, _, _⟩ := id Q6
    go_wp2_with fail
    refine (cvv _).mono ?_
    rintro e w9 ⟨rfl, hb⟩
    replace P1 := ((P1).alloc (.cells #[.int .i64 xN, .int .i64 xD] 23)).kept hb
    replace P2 := ((P2).alloc (.cells #[.int .i64 xN, .int .i64 xD] 23)).kept hb
    replace P3 := ((P3).alloc (.cells #[.int .i64 xN, .int .i64 xD] 23)).kept hb
    replace Q1 := ((Q1).alloc (.cells #[.int .i64 xN, .int .i64 xD] 23)).kept hb
    replace Q2 := ((Q2).alloc (.cells #[.int .i64 xN, .int .i64 xD] 23)).kept hb
    replace Q3 := ((Q3).alloc (.cells #[.int .i64 xN, .int .i64 xD] 23)).kept hb
    replace Q4 := ((Q4).alloc (.cells #[.int .i64 xN, .int .i64 xD] 23)).kept hb
    replace Q5 := ((Q5).alloc (.cells #[.int .i64 xN, .int .i64 xD] 23)).kept hb
    replace Q6 := ((Q6).alloc (.cells #[.int .i64 xN, .int .i64 xD] 23)).kept hb
    have Q7 := (Two.new w8 (.int .i64 xN) (.int .i64 xD) 23).kept hb
    replace B1 := bthen (balloc (B1) _) hb
    try simp only [World.size_alloc] at P1 P2 P3 Q1 Q2 Q3 Q4 Q5 Q6 Q7
    clear hb z0 c00 c01 z1 c10 c11 z2 c20 c21 z3 c30 c31 z4 c40 c41 z5 c50 c51 z6 c60 c61 z7 c70 c71 z8 c80 c81
    obtain ⟨z0, c00, c01, _, _⟩ := id P1
    obtain ⟨z1, c10, c11, _, _⟩ := id P2
    obtain ⟨z2, c20, c21, _, _⟩ := id P3
    obtain ⟨z3, c30, c31, _, _⟩ := id Q1
    obtain ⟨z4, c40, c41, _, _⟩ := id Q2
    obtain ⟨z5, c50, c51, _, _⟩ := id Q3
    obtain ⟨z6, c60, c61, _, _⟩ := id Q4
    obtain ⟨z7, c70, c71, _, _⟩ := id Q5
    obtain ⟨z8, c80, c81, _, _⟩ := id Q6
    obtain ⟨z9, c90, c91, _, _⟩ := id Q7
    go_wp2_with fail
    refine (cm _).mono ?_
    rintro e w10 ⟨rfl, hb⟩
    replace P1 := ((P1).alloc (.cells #[.int .i64 vN, .int .i64 vD] 23)).kept hb
    replace P2 := ((P2).alloc (.cells #[.int .i64 vN, .int .i64 vD] 23)).kept hb
    replace P3 := ((P3).alloc (.cells #[.int .i64 vN, .int .i64 vD] 23)).kept hb
    replace Q1 := ((Q1).alloc (.cells #[.int .i64 vN, .int .i64 vD] 23)).kept hb
    replace Q2 := ((Q2).alloc (.cells #[.int .i64 vN, .int .i64 vD] 23)).kept hb
    replace Q3 := ((Q3).alloc (.cells #[.int .i64 vN, .int .i64 vD] 23)).kept hb
    replace Q4 := ((Q4).alloc (.cells #[.int .i64 vN, .int .i64 vD] 23)).kept hb
    replace Q5 := ((Q5).alloc (.cells #[.int .i64 vN, .int .i64 vD] 23)).kept hb
    replace Q6 := ((Q6).alloc (.cells #[.int .i64 vN, .int .i64 vD] 23)).kept hb
    replace Q7 := ((Q7).alloc (.cells #[.int .i64 vN, .int .i64 vD] 23)).kept hb
    have Q8 := (Two.new w9 (.int .i64 vN) (.int .i64 vD) 23).kept hb
    replace B1 := bthen (balloc (B1) _) hb
    try simp only [World.size_alloc] at P1 P2 P3 Q1 Q2 Q3 Q4 Q5 Q6 Q7 Q8
    clear hb z0 c00 c01 z1 c10 c11 z2 c20 c21 z3 c30 c31 z4 c40 c41 z5 c50 c51 z6 c60 c61 z7 c70 c71 z8 c80 c81 z9 c90 c91
    obtain ⟨z0, c00, c01, _, _⟩ := id P1
    obtain ⟨z1, c10, c11, _, _⟩ := id P2
    obtain ⟨z2, c20, c21, _, _⟩ := id P3
    obtain ⟨z3, c30, c31, _, _⟩ := id Q1
    obtain ⟨z4, c40, c41, _, _⟩ := id Q2
    obtain ⟨z5, c50, c51, _, _⟩ := id Q3
    obtain ⟨z6, c60, c61, _, _⟩ := id Q4
    obtain ⟨z7, c70, c71, _, _⟩ := id Q5
    obtain ⟨z8, c80, c81, _, _⟩ := id Q6
    obtain ⟨z9, c90, c91, _, _⟩ := id Q7
    obtain ⟨z10, c100, c101, _, _⟩ := id Q8
    go_wp2_with fail
    refine (cn _).mono ?_
    rintro e w11 ⟨rfl, hb⟩
    replace P1 := ((P1).alloc (.cells #[.int .i64 mN, .int .i64 mD] 23)).kept hb
    replace P2 := ((P2).alloc (.cells #[.int .i64 mN, .int .i64 mD] 23)).kept hb
    replace P3 := ((P3).alloc (.cells #[.int .i64 mN, .int .i64 mD] 23)).kept hb
    replace Q1 := ((Q1).alloc (.cells #[.int .i64 mN, .int .i64 mD] 23)).kept hb
    replace Q2 := ((Q2).alloc (.cells #[.int .i64 mN, .int .i64 mD] 23)).kept hb
    replace Q3 := ((Q3).alloc (.cells #[.int .i64 mN, .int .i64 mD] 23)).kept hb
    replace Q4 := ((Q4).alloc (.cells #[.int .i64 mN, .int .i64 mD] 23)).kept hb
    replace Q5 := ((Q5).alloc (.cells #[.int .i64 mN, .int .i64 mD] 23)).kept hb
    replace Q6 := ((Q6).alloc (.cells #[.int .i64 mN, .int .i64 mD] 23)).kept hb
    replace Q7 := ((Q7).alloc (.cells #[.int .i64 mN, .int .i64 mD] 23)).kept hb
    replace Q8 := ((Q8).alloc (.cells #[.int .i64 mN, .int .i64 mD] 23)).kept hb
    have Q9 := (Two.new w10 (.int .i64 mN) (.int .i64 mD) 23).kept hb
    replace B1 := bthen (balloc (B1) _) hb
    try simp only [World.size_alloc] at P1 P2 P3 Q1 Q2 Q3 Q4 Q5 Q6 Q7 Q8 Q9
    clear hb z0 c00 c01 z1 c10 c11 z2 c20 c21 z3 c30 c31 z4 c40 c41 z5 c50 c51 z6 c60 c61 z7 c70 c71 z8 c80 c81 z9 c90 c91 z10 c100 c101
    obtain ⟨z0, c00, c01, _, _⟩ := id P1
    obtain ⟨z1, c10, c11, _, _⟩ := id P2
    obtain ⟨z2, c20, c21, _, _⟩ := id P3
    obtain ⟨z3, c30, c31, _, _⟩ := id Q1
    obtain ⟨z4, c40, c41, _, _⟩ := id Q2
    obtain ⟨z5, c50, c51, _, _⟩ := id Q3
    obtain ⟨z6, c60, c61, _, _⟩ := id Q4
    obtain ⟨z7, c70, c71, _, _⟩ := id Q5
    obtain ⟨z8, c80, c81, _, _⟩ := id Q6
    obtain ⟨z9, c90, c91, _, _⟩ := id Q7
    obtain ⟨z10, c100, c101, _, _⟩ := id Q8
    obtain ⟨z11, c110, c111, _, _⟩ := id Q9
    go_wp2
    go_ret
    exact ⟨by simp, balloc (B1) _⟩

end Go.Proofs.Ytmngbhkokglmjaa.Ql
