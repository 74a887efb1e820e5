/- StampOrder's walk. -/
import Derived.Test.YtodpmdmfdnbehaaDoorTlive
namespace Go.Proofs.YtodpmdmfdnbehaaDoor.Tl
set_option linter.unusedSimpArgs false
set_option linter.unusedVariables false
open Go.RowKit Go.Proofs.YtodpmdmfdnbehaaDoor.Bx Go.Proofs.YtodpmdmfdnbehaaDoor.Cm Go.Proofs.YtodpmdmfdnbehaaDoor.Cp Go.Proofs.YtodpmdmfdnbehaaDoor.Em Go.Proofs.YtodpmdmfdnbehaaDoor.Ep Go.Proofs.YtodpmdmfdnbehaaDoor.Tm Go.Proofs.YtodpmdmfdnbehaaDoor.Tp

set_option maxHeartbeats 1000000

/-- what Print tells where it tells no day -/
theorem pr_no {n : Int} (h : ¬ (0 ≤ n ∧ n ≤ 3068036)) : PrRes n ⟨#[]⟩ 4 := .inr ⟨h, rfl, rfl⟩

set_option maxRecDepth 100000 in
theorem order_walk (a b : Int) (w : World) (wa : (Lit.int .i64 a).wf = true) (wb : (Lit.int .i64 b).wf = true) (tb : Tabs w) :
    Calls Tryd.prog 12 #[.int .i64 a, .int .i64 b] w fun e w' => e = .returned (.bool true) ∧ Below w.heap.size w w' := by
  have cl := tlive_ok
  clear wa wb
  by_cases ha : 0 ≤ a ∧ a ≤ 3068036
  · obtain ⟨a0, a1⟩ := ha
    obtain ⟨y, m, d, i, j, k, o1, e1, o2, e2⟩ := both_ex a0 a1
    have c1 := fun w => Print_any a _ 0 w (.inl ⟨a0, a1, y, m, d, o1, e1, rfl, rfl⟩)
    have c3 := fun w => PrintIso_any a _ 0 w (.inl ⟨a0, a1, i, j, k, o2, e2, rfl, rfl⟩)
    by_cases hb : 0 ≤ b ∧ b ≤ 3068036
    · obtain ⟨b0, b1⟩ := hb
      obtain ⟨y', m', d', i', j', k', o1', e1', o2', e2'⟩ := both_ex b0 b1
      have c2 := fun w => Print_any b _ 0 w (.inl ⟨b0, b1, y', m', d', o1', e1', rfl, rfl⟩)
      have c4 := fun w => PrintIso_any b _ 0 w (.inl ⟨b0, b1, i', j', k', o2', e2', rfl, rfl⟩)
      have L1 := dates_less o1 o1'
      have L2 := isos_less o2 o2'
      rw [e1, e1'] at L1
      rw [e2, e2'] at L2
      generalize dstr y m d = s at *
      generalize dstr y' m' d' = t at *
      generalize istr i j k = u at *
      generalize istr i' j' k' = v at *
      clear o1 o1' o2 o2' e1 e1' e2 e2' a0 a1 b0 b1
      by_cases lt : a < b
      · have L1' : Op.bytesLess s.toList t.toList = true := by rw [L1]; simp [lt]
        have L2' : Op.bytesLess u.toList v.toList = true := by rw [L2]; simp [lt]
        have L0 : decide (a < b) = true := by simp [lt]
        clear L1 L2 lt
        go_enter Tryd.func12, Tryd.ntmps12
        go_wp2_with fail
        refine (cl _ (by with_reducible first | exact tb.kept B1 | exact tb)).mono ?_
        rintro e w1 ⟨rfl, hb⟩
        have B1 := bthen (Below.refl _ w) hb
        clear hb
        go_wp2_with fail
        refine (c1 _ (by with_reducible first | exact tb.kept B1 | exact tb)).mono ?_
        rintro e w2 ⟨rfl, hb⟩
        replace B1 := bthen (B1) hb
        clear hb
        go_wp2_with fail
        refine (c2 _ (by with_reducible first | exact tb.kept B1 | exact tb)).mono ?_
        rintro e w3 ⟨rfl, hb⟩
        replace B1 := bthen (B1) hb
        clear hb
        go_wp2_with fail
        refine (c3 _ (by with_reducible first | exact tb.kept B1 | exact tb)).mono ?_
        rintro e w4 ⟨rfl, hb⟩
        replace B1 := bthen (B1) hb
        clear hb
        go_wp2_with fail
        refine (c4 _ (by with_reducible first | exact tb.kept B1 | exact tb)).mono ?_
        rintro e w5 ⟨rfl, hb⟩
        replace B1 := bthen (B1) hb
        clear hb
        go_wp2
        go_ret
        exact ⟨by simp <;> omega, B1⟩
      · have L1' : Op.bytesLess s.toList t.toList = false := by rw [L1]; simp [lt]
        have L2' : Op.bytesLess u.toList v.toList = false := by rw [L2]; simp [lt]
        have L0 : decide (a < b) = false := by simp [lt]
        clear L1 L2 lt
        go_enter Tryd.func12, Tryd.ntmps12
        go_wp2_with fail
        refine (cl _ (by with_reducible first | exact tb.kept B1 | exact tb)).mono ?_
        rintro e w1 ⟨rfl, hb⟩
        have B1 := bthen (Below.refl _ w) hb
        clear hb
        go_wp2_with fail
        refine (c1 _ (by with_reducible first | exact tb.kept B1 | exact tb)).mono ?_
        rintro e w2 ⟨rfl, hb⟩
        replace B1 := bthen (B1) hb
        clear hb
        go_wp2_with fail
        refine (c2 _ (by with_reducible first | exact tb.kept B1 | exact tb)).mono ?_
        rintro e w3 ⟨rfl, hb⟩
        replace B1 := bthen (B1) hb
        clear hb
        go_wp2_with fail
        refine (c3 _ (by with_reducible first | exact tb.kept B1 | exact tb)).mono ?_
        rintro e w4 ⟨rfl, hb⟩
        replace B1 := bthen (B1) hb
        clear hb
        go_wp2_with fail
        refine (c4 _ (by with_reducible first | exact tb.kept B1 | exact tb)).mono ?_
        rintro e w5 ⟨rfl, hb⟩
        replace B1 := bthen (B1) hb
        clear hb
        go_wp2
        go_ret
        exact ⟨by simp <;> omega, B1⟩
    · have c2 := fun w => Print_any b _ 4 w (pr_no hb)
      clear hb o1 o2 e1 e2 a0 a1
      go_enter Tryd.func12, Tryd.ntmps12
      go_wp2_with fail
      refine (cl _ (by with_reducible first | exact tb.kept B1 | exact tb)).mono ?_
      rintro e w1 ⟨rfl, hb⟩
      have B1 := bthen (Below.refl _ w) hb
      clear hb
      go_wp2_with fail
      refine (c1 _ (by with_reducible first | exact tb.kept B1 | exact tb)).mono ?_
      rintro e w2 ⟨rfl, hb⟩
      replace B1 := bthen (B1) hb
      clear hb
      go_wp2_with fail
      refine (c2 _ (by with_reducible first | exact tb.kept B1 | exact tb)).mono ?_
      rintro e w3 ⟨rfl, hb⟩
      replace B1 := bthen (B1) hb
      clear hb
      go_wp2
      go_ret
      exact ⟨by simp <;> omega, B1⟩
  · have c1 := fun w => Print_any a _ 4 w (pr_no ha)
    clear ha
    obtain ⟨t, g, R⟩ := prres_ex b
    have c2 := fun w => Print_any b t g w R
    clear R
    go_enter Tryd.func12, Tryd.ntmps12
    go_wp2_with fail
    refine (cl _ (by with_reducible first | exact tb.kept B1 | exact tb)).mono ?_
    rintro e w1 ⟨rfl, hb⟩
    have B1 := bthen (Below.refl _ w) hb
    clear hb
    go_wp2_with fail
    refine (c1 _ (by with_reducible first | exact tb.kept B1 | exact tb)).mono ?_
    rintro e w2 ⟨rfl, hb⟩
    replace B1 := bthen (B1) hb
    clear hb
    go_wp2_with fail
    refine (c2 _ (by with_reducible first | exact tb.kept B1 | exact tb)).mono ?_
    rintro e w3 ⟨rfl, hb⟩
    replace B1 := bthen (B1) hb
    clear hb
    go_wp2
    go_ret
    exact ⟨by simp <;> omega, B1⟩

end Go.Proofs.YtodpmdmfdnbehaaDoor.Tl
