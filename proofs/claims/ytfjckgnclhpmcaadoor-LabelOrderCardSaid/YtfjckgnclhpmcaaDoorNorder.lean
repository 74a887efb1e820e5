/- LabelOrder's walk. -/
import Derived.Test.YtfjckgnclhpmcaaDoorNlive
namespace Go.Proofs.YtfjckgnclhpmcaaDoor.Nl
set_option linter.unusedSimpArgs false
set_option linter.unusedVariables false
open Go.RowKit Go.Proofs.YtfjckgnclhpmcaaDoor.Pr Go.Proofs.YtfjckgnclhpmcaaDoor.Nm Go.Proofs.YtfjckgnclhpmcaaDoor.Wm Go.Proofs.YtfjckgnclhpmcaaDoor.Wc Go.Proofs.YtfjckgnclhpmcaaDoor.Bx Go.Proofs.YtfjckgnclhpmcaaDoor.Fs Go.Proofs.YtfjckgnclhpmcaaDoor.Bn Go.Proofs.YtfjckgnclhpmcaaDoor.Np
open Go.Op (bytesLess)

set_option maxHeartbeats 1000000

set_option maxRecDepth 100000 in
theorem order_walk (L y i M z j : Int) (w : World) (wL : (Lit.int .i64 L).wf = true) (wy : (Lit.int .i64 y).wf = true) (wi : (Lit.int .i64 i).wf = true) (wM : (Lit.int .i64 M).wf = true) (wz : (Lit.int .i64 z).wf = true) (wj : (Lit.int .i64 j).wf = true) (tb : Lev w) :
    Calls Tryd.prog 6 #[.agg #[.int .i64 L, .int .i64 y, .int .i64 i], .agg #[.int .i64 M, .int .i64 z, .int .i64 j]] w fun e w' => e = .returned (.bool true) ∧ Below w.heap.size w w' := by
  have T := tb
  have U := Tri.new w (.int .i64 L) (.int .i64 y) (.int .i64 i) 23
  replace U := U.alloc (.cells #[.int .i64 M, .int .i64 z, .int .i64 j] 23)
  have V := Tri.new (w.alloc (.cells #[.int .i64 L, .int .i64 y, .int .i64 i] 23)) (.int .i64 M) (.int .i64 z) (.int .i64 j) 23
  rw [World.size_alloc] at V
  replace T := (T.alloc (.cells #[.int .i64 L, .int .i64 y, .int .i64 i] 23)).alloc (.cells #[.int .i64 M, .int .i64 z, .int .i64 j] 23)
  have B := balloc (balloc (Below.refl _ w) (.cells #[.int .i64 L, .int .i64 y, .int .i64 i] 23)) (.cells #[.int .i64 M, .int .i64 z, .int .i64 j] 23)
  obtain ⟨s, e1, P1⟩ := printa_ex L y i
  obtain ⟨t, e2, P2⟩ := printa_ex M z j
  have c1 := fun w T => LPrint_any L y i s e1 w P1 T
  have c2 := fun w T => LPrint_any M z j t e2 w P2 T
  have X : (e1 = 1) ∨ (e1 = 0 ∧ e2 = 1) ∨ (e1 = 0 ∧ e2 = 0 ∧ (L != M) = true) ∨ (e1 = 0 ∧ e2 = 0 ∧ (L != M) = false ∧ M = L ∧ bytesLess s.toList t.toList = (decide (y < z) || (decide (y = z) && decide (i < j))) ∧ (s.toList == t.toList) = decide (y = z ∧ i = j)) := by
    rcases P1 with ⟨o1, rfl, rfl⟩ | ⟨_, _, rfl⟩
    · rcases P2 with ⟨o2, rfl, rfl⟩ | ⟨_, _, rfl⟩
      · by_cases h : L = M
        · subst h
          refine .inr (.inr (.inr ⟨rfl, rfl, by simp, rfl, ustr_less o1 o2, ?_⟩))
          rw [same_list]
          exact decide_eq_decide.2 (ustr_same o1 o2)
        · exact .inr (.inr (.inl ⟨rfl, rfl, bne_iff_ne.2 h⟩))
      · exact .inr (.inl ⟨rfl, rfl⟩)
    · exact .inl rfl
  clear P1 P2
  have E2 : e2 = 0 ∨ e2 = 1 ∨ (e2 ≠ 0 ∧ e2 ≠ 1) := by omega
  have X2 : (e1 = 1) ∨ (e1 = 0 ∧ e2 = 1) ∨ (e1 = 0 ∧ e2 = 0 ∧ (L != M) = true) ∨ (e1 = 0 ∧ e2 = 0 ∧ (L != M) = false ∧ M = L ∧ ((y < z ∧ bytesLess s.toList t.toList = true ∧ (s.toList == t.toList) = false) ∨ (y = z ∧ i < j ∧ bytesLess s.toList t.toList = true ∧ (s.toList == t.toList) = false) ∨ (y = z ∧ i = j ∧ bytesLess s.toList t.toList = false ∧ (s.toList == t.toList) = true) ∨
      (y = z ∧ j < i ∧ bytesLess s.toList t.toList = false ∧ (s.toList == t.toList) = false) ∨ (z < y ∧ bytesLess s.toList t.toList = false ∧ (s.toList == t.toList) = false))) := by
    rcases X with h | h | h | ⟨a, b, d, f, g, h⟩
    · exact .inl h
    · exact .inr (.inl h)
    · exact .inr (.inr (.inl h))
    · refine .inr (.inr (.inr ⟨a, b, d, f, ?_⟩))
      rw [g, h]
      rcases Int.lt_trichotomy y z with q | q | q
      · exact .inl ⟨q, by simp [q], decide_eq_false (by omega)⟩
      · rcases Int.lt_trichotomy i j with r | r | r
        · exact .inr (.inl ⟨q, r, by simp [q, r], decide_eq_false (by omega)⟩)
        · exact .inr (.inr (.inl ⟨q, r, by simp [q, r], decide_eq_true ⟨q, r⟩⟩))
        · exact .inr (.inr (.inr (.inl ⟨q, r, by simp [q]; omega, decide_eq_false (by omega)⟩)))
      · exact .inr (.inr (.inr (.inr ⟨q, by simp; omega, decide_eq_false (by omega)⟩)))
  clear X E2
  have XH := Lib.hid X2
  clear X2
  go_enter Tryd.func6, Tryd.ntmps6
  go_upto_region 1 with fail
  generalize (w.alloc (.cells #[.int .i64 L, .int .i64 y, .int .i64 i] 23)).alloc (.cells #[.int .i64 M, .int .i64 z, .int .i64 j] 23) = W0 at *
  go_wp2_with fail
  refine (nlive_ok _ T).mono ?_
  rintro e w1 ⟨rfl, hb⟩
  replace U := U.kept hb
  replace V := V.kept hb
  replace B := bthen B hb
  replace T := T.kept hb
  clear hb
  obtain ⟨_, u0, u1, u2, _, _, _⟩ := id U
  go_wp2_with fail
  refine (c1 _ T).mono ?_
  rintro e w2 ⟨rfl, hb⟩
  replace U := U.kept hb
  replace V := V.kept hb
  replace B := bthen B hb
  replace T := T.kept hb
  clear hb u0 u1 u2
  obtain ⟨_, v0, v1, v2, _, _, _⟩ := id V
  go_wp2_with fail
  refine (c2 _ T).mono ?_
  rintro e w3 ⟨rfl, hb⟩
  replace U := U.kept hb
  replace V := V.kept hb
  replace B := bthen B hb
  clear hb v0 v1 v2 c1 c2 T
  obtain ⟨_, u0, u1, u2, _, _, _⟩ := id U
  obtain ⟨_, v0, v1, v2, _, _, _⟩ := id V
  rcases XH.out with rfl | ⟨rfl, rfl⟩ | ⟨rfl, rfl, h⟩ | ⟨rfl, rfl, h, rfl, X⟩
  · go_wp2
    go_ret
    exact ⟨by simp, B⟩
  · go_wp2
    go_ret
    exact ⟨by simp, B⟩
  · go_wp2
    go_ret
    exact ⟨by simp, B⟩
  · rcases X with ⟨q, x1, x2⟩ | ⟨rfl, q, x1, x2⟩ | ⟨rfl, rfl, x1, x2⟩ | ⟨rfl, q, x1, x2⟩ | ⟨q, x1, x2⟩
    all_goals
      go_wp2
      go_ret
      exact ⟨by simp [*] <;> omega, B⟩

end Go.Proofs.YtfjckgnclhpmcaaDoor.Nl
