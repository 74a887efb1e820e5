/- live of layer 18, and LabelBack's and LabelOrder's walks. -/
import Derived.Test.YtfjckgnclhpmcaaDoorNunit2
namespace Go.Proofs.YtfjckgnclhpmcaaDoor.Nl
set_option linter.unusedSimpArgs false
set_option linter.unusedVariables false
open Go.RowKit Go.Proofs.YtfjckgnclhpmcaaDoor.Pr Go.Proofs.YtfjckgnclhpmcaaDoor.Nm Go.Proofs.YtfjckgnclhpmcaaDoor.Wm Go.Proofs.YtfjckgnclhpmcaaDoor.Wc Go.Proofs.YtfjckgnclhpmcaaDoor.Bx Go.Proofs.YtfjckgnclhpmcaaDoor.Fs Go.Proofs.YtfjckgnclhpmcaaDoor.Bn Go.Proofs.YtfjckgnclhpmcaaDoor.Np
open Go.Op (bytesLess)

set_option maxHeartbeats 1000000

def w53 : ByteArray := ⟨#[50, 48, 50, 51, 45, 87, 53, 51]⟩
theorem w53_is : w53 = ustr 5 2023 53 := by rw [ustr5]; rfl
theorem w53_ok : WrOk 5 2023 53 := by unfold WrOk; exact ⟨by decide, by decide, by decide, by decide, by decide, by decide⟩

theorem nlive_ok (w : World) (T : Lev w) : Calls Tryd.prog 9 #[] w fun e w' => e = .returned (.bool true) ∧ Below w.heap.size w w' := by
  have c1 : ∀ w, Lev w → Calls Tryd.prog 10 #[.agg #[.int .i64 5, .int .i64 2023, .int .i64 53]] w fun e w' => e = .returned (.tuple #[.string ⟨#[50, 48, 50, 51, 45, 87, 53, 51]⟩, .int .i64 0]) ∧ Below w.heap.size w w' :=
    fun w T => LPrint_any 5 2023 53 w53 0 w (.inl ⟨w53_ok, w53_is, rfl⟩) T
  have c2 : ∀ w, Lev w → Calls Tryd.prog 12 #[.string ⟨#[50, 48, 50, 51, 45, 87, 53, 51]⟩] w fun e w' => e = .returned (.tuple #[.agg #[.int .i64 5, .int .i64 2023, .int .i64 53], .int .i64 0]) ∧ Below w.heap.size w w' :=
    fun w T => LParse_any w53 5 2023 53 0 w (by unfold maxLen; decide) (.inl ⟨by rw [w53_is]; exact form_of w53_ok, w53_ok, rfl⟩) T
  go_enter Tryd.func9, Tryd.ntmps9
  go_wp2_with fail
  refine (c1 _ T).mono ?_
  rintro e w1 ⟨rfl, hb⟩
  replace T := T.kept hb
  go_wp2_with fail
  refine (c2 _ T).mono ?_
  rintro e w2 ⟨rfl, hb2⟩
  go_wp2
  go_ret
  exact ⟨by simp, balloc (bthen hb hb2) _⟩

set_option maxRecDepth 100000 in
theorem back_walk (L y i : Int) (s : ByteArray) (w : World) (wL : (Lit.int .i64 L).wf = true) (wy : (Lit.int .i64 y).wf = true) (wi : (Lit.int .i64 i).wf = true) (ws : s.size ≤ maxLen) (tb : Lev w) :
    Calls Tryd.prog 5 #[.agg #[.int .i64 L, .int .i64 y, .int .i64 i], .string s] w fun e w' => e = .returned (.bool true) ∧ Below w.heap.size w w' := by
  have T := tb
  have U := Tri.new w (.int .i64 L) (.int .i64 y) (.int .i64 i) 23
  replace T := T.alloc (.cells #[.int .i64 L, .int .i64 y, .int .i64 i] 23)
  have B := balloc (Below.refl _ w) (.cells #[.int .i64 L, .int .i64 y, .int .i64 i] 23)
  obtain ⟨t, e1, P1⟩ := printa_ex L y i
  obtain ⟨M, z, j, e2, P2⟩ := parsea_ex s
  have c1 := fun w T => LPrint_any L y i t e1 w P1 T
  have c3 := fun w T => LParse_any s M z j e2 w ws P2 T
  have tz : t.size ≤ maxLen := by
    rcases P1 with ⟨wo, rfl, _⟩ | ⟨_, rfl, _⟩
    · unfold ustr
      rw [ByteArray.size_append, ByteArray.size_append, sd_size, sgn_size ⟨wo.2.2.1, wo.2.2.2.1⟩]
      have := dgc_bd L
      have h4 : (Go.Proofs.YtfjckgnclhpmcaaDoor.Tm.s4 y).size = 4 := rfl
      rw [h4]; unfold maxLen; split <;> omega
    · unfold maxLen; decide
  have X : (e1 = 0 ∧ ∀ w, Lev w → Calls Tryd.prog 12 #[.string t] w fun e w' => e = .returned (.tuple #[.agg #[.int .i64 L, .int .i64 y, .int .i64 i], .int .i64 0]) ∧ Below w.heap.size w w') ∨ (e1 = 1 ∧ t = ⟨#[]⟩) := by
    rcases P1 with ⟨wo, rfl, rfl⟩ | ⟨_, rfl, rfl⟩
    · exact .inl ⟨rfl, fun w T => LParse_any _ L y i 0 w tz (.inl ⟨form_of wo, wo, rfl⟩) T⟩
    · exact .inr ⟨rfl, rfl⟩
  have Y : (e2 = 0 ∧ ∀ w, Lev w → Calls Tryd.prog 10 #[.agg #[.int .i64 M, .int .i64 z, .int .i64 j]] w fun e w' => e = .returned (.tuple #[.string s, .int .i64 0]) ∧ Below w.heap.size w w') ∨ ((e2 = 5 ∨ e2 = 13) ∧ M = 0 ∧ z = 0 ∧ j = 0) := by
    rcases P2 with ⟨f, wo, rfl⟩ | ⟨_, _, _, _, _, rfl, rfl, rfl, rfl⟩ | ⟨_, rfl, rfl, rfl, rfl⟩
    · exact .inl ⟨rfl, fun w T => LPrint_any M z j s 0 w (.inl ⟨wo, f.2.2.2, rfl⟩) T⟩
    · exact .inr ⟨.inr rfl, rfl, rfl, rfl⟩
    · exact .inr ⟨.inl rfl, rfl, rfl, rfl⟩
  clear P1 P2 tz ws
  rcases X with ⟨rfl, c2⟩ | ⟨rfl, rfl⟩
  · rcases Y with ⟨rfl, c4⟩ | ⟨rfl | rfl, rfl, rfl, rfl⟩
    all_goals
      go_enter Tryd.func5, Tryd.ntmps5
      go_upto_region 1 with fail
      generalize w.alloc (.cells #[.int .i64 L, .int .i64 y, .int .i64 i] 23) = W0 at *
      go_wp2_with fail
      refine (nlive_ok _ T).mono ?_
      rintro e w1 ⟨rfl, hb⟩
      replace U := U.kept hb
      replace B := bthen B hb
      replace T := T.kept hb
      clear hb
      obtain ⟨_, u0, u1, u2, _, _, _⟩ := id U
      go_wp2_with fail
      refine (c1 _ T).mono ?_
      rintro e w2 ⟨rfl, hb⟩
      replace U := U.kept hb
      replace B := bthen B hb
      replace T := T.kept hb
      clear hb u0 u1 u2
      go_wp2_with fail
      refine (c2 _ T).mono ?_
      rintro e w3 ⟨rfl, hb⟩
      replace U := (U.kept hb).alloc (.cells #[.int .i64 L, .int .i64 y, .int .i64 i] 23)
      replace B := balloc (bthen B hb) (.cells #[.int .i64 L, .int .i64 y, .int .i64 i] 23)
      replace T := (T.kept hb).alloc (.cells #[.int .i64 L, .int .i64 y, .int .i64 i] 23)
      clear hb
      obtain ⟨_, u0, u1, u2, _, _, _⟩ := id U
      go_wp2_with fail
      refine (c3 _ T).mono ?_
      rintro e w4 ⟨rfl, hb⟩
      clear u0 u1 u2
      replace B := bthen B hb
      replace T := T.kept hb
      clear hb
      first
        | (go_wp2_with fail
           refine (c4 _ (T.alloc _)).mono ?_
           rintro e w5 ⟨rfl, hb⟩
           replace B := bthen (balloc B _) hb
           go_wp2
           go_ret
           exact ⟨by simp, B⟩)
        | (go_wp2
           go_ret
           exact ⟨by simp, balloc B _⟩)
  · rcases Y with ⟨rfl, c4⟩ | ⟨rfl | rfl, rfl, rfl, rfl⟩
    all_goals
      go_enter Tryd.func5, Tryd.ntmps5
      go_upto_region 1 with fail
      generalize w.alloc (.cells #[.int .i64 L, .int .i64 y, .int .i64 i] 23) = W0 at *
      go_wp2_with fail
      refine (nlive_ok _ T).mono ?_
      rintro e w1 ⟨rfl, hb⟩
      replace U := U.kept hb
      replace B := bthen B hb
      replace T := T.kept hb
      clear hb
      obtain ⟨_, u0, u1, u2, _, _, _⟩ := id U
      go_wp2_with fail
      refine (c1 _ T).mono ?_
      rintro e w2 ⟨rfl, hb⟩
      replace B := bthen B hb
      replace T := T.kept hb
      clear hb u0 u1 u2
      go_wp2_with fail
      refine (c3 _ T).mono ?_
      rintro e w4 ⟨rfl, hb⟩
      replace B := bthen B hb
      replace T := T.kept hb
      clear hb
      first
        | (go_wp2_with fail
           refine (c4 _ (T.alloc _)).mono ?_
           rintro e w5 ⟨rfl, hb⟩
           replace B := bthen (balloc B _) hb
           go_wp2
           go_ret
           exact ⟨by simp, B⟩)
        | (go_wp2
           go_ret
           exact ⟨by simp, balloc B _⟩)

end Go.Proofs.YtfjckgnclhpmcaaDoor.Nl
