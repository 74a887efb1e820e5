/- What Add, Neg and Fit of package wide come to. -/
import Derived.Test.YtapddciodoobfaaVcode
import Derived.Deep.RegionHeld3
import Derived.Deep.DeepCutAuto
import Derived.Deep.DrawnRows
namespace Go.Proofs.Ytapddciodoobfaa.Vc
set_option linter.unusedSimpArgs false
set_option linter.unusedVariables false
open Go.RowKit Go.Proofs.Ytapddciodoobfaa.Vm
attribute [local go_sem ↓] Go.wp_at_zero Go.wp_at_succ

set_option maxHeartbeats 400000

/-- 'wordsOf', with the world written out -/
theorem wordsOf_at (h l : Int) (w : World) :
    Calls Try.prog 34 #[.agg #[.int .i64 h, .int .u64 l]] w fun e w' => e = .returned (.agg #[.int .u64 l, .int .u64 (h % 18446744073709551616)]) ∧
      w' = (w.alloc (.cells #[.int .i64 h, .int .u64 l] 51)).alloc (.cells #[.int .u64 l, .int .u64 (h % 18446744073709551616)] 58) := by
  have e1 := IntKind.wrap_u64 h
  go_enter Try.func34, Try.ntmps34
  go_wp2
  refine bodyPost_ret (v := .agg #[.int .u64 l, .int .u64 (h % 18446744073709551616)]) (by simp [results, Try.results34, go_sem]) rfl ⟨rfl, rfl⟩

theorem plus_at (a0 a1 b0 b1 : Int) (w : World) (h1 : 0 ≤ a0) (h2 : a0 ≤ 18446744073709551615) (h3 : 0 ≤ b0) (h4 : b0 ≤ 18446744073709551615) :
    Calls Try.prog 33 #[.agg #[.int .u64 a0, .int .u64 a1], .agg #[.int .u64 b0, .int .u64 b1]] w fun e w' =>
      e = .returned (.agg #[.int .u64 ((a0 + b0) % 18446744073709551616), .int .u64 ((a1 + b1 + (a0 + b0) / 18446744073709551616) % 18446744073709551616)]) ∧
      w' = (((w.alloc (.cells #[.int .u64 a0, .int .u64 a1] 58)).alloc (.cells #[.int .u64 b0, .int .u64 b1] 58)).alloc
        (.cells #[.int .u64 ((a0 + b0) % 18446744073709551616), .int .u64 ((a1 + b1 + (a0 + b0) / 18446744073709551616) % 18446744073709551616)] 58)).alloc
        (.cells #[.int .u64 ((a0 + b0) % 18446744073709551616), .int .u64 ((a1 + b1 + (a0 + b0) / 18446744073709551616) % 18446744073709551616)] 58) := by
  by_cases c : a0 + b0 ≤ 18446744073709551615
  · have d : decide (a0 + b0 < a0) = false := decide_eq_false (by omega)
    have e0 : (a0 + b0) % 18446744073709551616 = a0 + b0 := by omega
    have e1 : (a1 + b1 + (a0 + b0) / 18446744073709551616) % 18446744073709551616 = IntKind.u64.wrap (a1 + b1) := by rw [IntKind.wrap_u64]; omega
    rw [e0, e1]
    clear e0 e1
    go_enter Try.func33, Try.ntmps33
    go_wp2
    refine bodyPost_ret (v := .agg #[.int .u64 (a0 + b0), .int .u64 (IntKind.u64.wrap (a1 + b1))]) (by simp [results, Try.results33, go_sem]) rfl ⟨rfl, rfl⟩
  · have d : decide (IntKind.u64.wrap (a0 + b0) < a0) = true := decide_eq_true (by rw [IntKind.wrap_u64]; omega)
    have e0 : (a0 + b0) % 18446744073709551616 = IntKind.u64.wrap (a0 + b0) := (IntKind.wrap_u64 _).symm
    have e1 : (a1 + b1 + (a0 + b0) / 18446744073709551616) % 18446744073709551616 = IntKind.u64.wrap (IntKind.u64.wrap (a1 + b1) + 1) := by rw [IntKind.wrap_u64, IntKind.wrap_u64]; omega
    rw [e0, e1]
    clear e0 e1
    go_enter Try.func33, Try.ntmps33
    go_wp2
    refine bodyPost_ret (v := .agg #[.int .u64 (IntKind.u64.wrap (a0 + b0)), .int .u64 (IntKind.u64.wrap (IntKind.u64.wrap (a1 + b1) + 1))]) (by simp [results, Try.results33, go_sem]) rfl ⟨rfl, rfl⟩

theorem wide_at (a0 a1 : Int) (w : World) :
    Calls Try.prog 37 #[.agg #[.int .u64 a0, .int .u64 a1]] w fun e w' =>
      e = .returned (.agg #[.int .i64 (wrap64 a1), .int .u64 a0]) ∧
      w' = (w.alloc (.cells #[.int .u64 a0, .int .u64 a1] 58)).alloc (.cells #[.int .i64 (wrap64 a1), .int .u64 a0] 51) := by
  go_enter Try.func37, Try.ntmps37
  go_wp2
  refine bodyPost_ret (v := .agg #[.int .i64 (wrap64 a1), .int .u64 a0]) (by simp [results, Try.results37, go_sem]) rfl ⟨rfl, rfl⟩

/-- a call that tells a Wide, or that there is none -/
def Tells (x : Int) (w : World) (e : Ending) (w' : World) : Prop := ∃ h l er : Int, e = .returned (.tuple #[.agg #[.int .i64 h, .int .u64 l], .int .i64 er]) ∧ Res x h l er ∧ Below w.heap.size w w'

set_option maxHeartbeats 4000000 in
theorem Add_tells (h1 l1 h2 l2 : Int) (w : World) (b1 : Bd h1 l1) (b2 : Bd h2 l2) :
    Calls Try.prog 69 #[.agg #[.int .i64 h1, .int .u64 l1], .agg #[.int .i64 h2, .int .u64 l2]] w (Tells (num h1 l1 + num h2 l2) w) := by
  have B1 := b1
  have B2 := b2
  unfold Bd at b1 b2
  obtain ⟨_, _, b1, b3⟩ := b1
  obtain ⟨_, _, b2, b4⟩ := b2
  go_enter Try.func69, Try.ntmps69
  go_upto_region 1 with fail
  go_cut [6] (fun s6 wx => ∃ g : Nat, s6 = .pointer (some ⟨g, 0, none⟩) ∧ wx.cell? ⟨g, 0, none⟩ = some (.int .i64 (wrap64 ((h1 % 18446744073709551616 + h2 % 18446744073709551616 + (l1 + l2) / 18446744073709551616) % 18446744073709551616))) ∧
    wx.cell? ⟨g, 1, none⟩ = some (.int .u64 ((l1 + l2) % 18446744073709551616)) ∧ wx.cell? ⟨w.heap.size, 0, none⟩ = some (.int .i64 h1) ∧ wx.cell? ⟨w.heap.size + 1, 0, none⟩ = some (.int .i64 h2) ∧
    wx.cell? ⟨w.heap.size + 1 + 1, 0, none⟩ = some (.int .i64 0) ∧ wx.cell? ⟨w.heap.size + 1 + 1, 1, none⟩ = some (.int .u64 0) ∧
    wx.frozen? ⟨w.heap.size + 1 + 1, 0, none⟩ = false ∧ wx.frozen? ⟨w.heap.size + 1 + 1, 1, none⟩ = false ∧ Below w.heap.size w wx)
  case first =>
    go_region_held3 (fun w' => w'.cell? ⟨w.heap.size, 0, none⟩ = some (.int .i64 h1) ∧ w'.cell? ⟨w.heap.size, 1, none⟩ = some (.int .u64 l1) ∧ w'.cell? ⟨w.heap.size + 1, 0, none⟩ = some (.int .i64 h2) ∧ w'.cell? ⟨w.heap.size + 1, 1, none⟩ = some (.int .u64 l2))
      (simp [go_sem])
      (first | (go_at_call 34; refine (wordsOf_at _ _ _).mono ?_; rintro e w1 ⟨rfl, rfl⟩) | (go_at_call 33; refine (plus_at _ _ _ _ _ ?_ ?_ ?_ ?_).mono ?_; omega; omega; omega; omega; rintro e w1 ⟨rfl, rfl⟩) | (go_at_call 37; refine (wide_at _ _ _).mono ?_; rintro e w1 ⟨rfl, rfl⟩))
    all_goals go_wp2_with fail
    all_goals go_meet
    all_goals
      refine ⟨_, rfl, by simp [go_sem], by simp [go_sem], by simp [go_sem], by simp [go_sem], by simp [go_sem], by simp [go_sem], by simp [go_sem], by simp [go_sem], ?_⟩
      repeat (first | exact Below.refl _ _ | refine Below.drew ?_ | refine Below.alloc ?_ (by simp <;> omega) _ | refine Below.setCell ?_ (by simp <;> omega) _)
  case rest =>
    obtain ⟨g, rfl, q0, q1, q2, q3, q4, q5, q6, q7, hb⟩ := hcut
    generalize hs1 : wrap64 ((h1 % 18446744073709551616 + h2 % 18446744073709551616 + (l1 + l2) / 18446744073709551616) % 18446744073709551616) = s1 at *
    generalize hs0 : (l1 + l2) % 18446744073709551616 = s0 at *
    have AW := Lib.hid (add_words B1 B2 hs1 hs0)
    clear hs1 hs0 b1 b2 b3 b4
    by_cases c1 : h1 < 0 <;> by_cases c2 : h2 < 0 <;> by_cases c3 : s1 < 0
    all_goals go_wp2
    all_goals first
      | refine bodyPost_ret (v := .tuple #[.agg #[.int .i64 s1, .int .u64 s0], .int .i64 0]) (by simp [results, Try.results69, go_sem, q4, q5]) rfl ⟨s1, s0, 0, rfl, add_fits B1 B2 AW.out (by omega), (hb.setCell (by simp <;> omega) _).setCell (by simp <;> omega) _⟩
      | refine bodyPost_ret (v := .tuple #[.agg #[.int .i64 0, .int .u64 0], .int .i64 2]) (by simp [results, Try.results69, go_sem, q4, q5]) rfl ⟨0, 0, 2, rfl, add_over B1 B2 AW.out (by omega), (hb.setCell (by simp <;> omega) _).setCell (by simp <;> omega) _⟩

theorem Add_any (h1 l1 h2 l2 h l er : Int) (w : World) (b1 : Bd h1 l1) (b2 : Bd h2 l2) (r : Res (num h1 l1 + num h2 l2) h l er) :
    Calls Try.prog 69 #[.agg #[.int .i64 h1, .int .u64 l1], .agg #[.int .i64 h2, .int .u64 l2]] w fun e w' =>
      e = .returned (.tuple #[.agg #[.int .i64 h, .int .u64 l], .int .i64 er]) ∧ Below w.heap.size w w' :=
  (Add_tells h1 l1 h2 l2 w b1 b2).mono fun e w' ⟨h', l', er', he, r', hb⟩ => by
    obtain ⟨rfl, rfl, rfl⟩ := res_unique r r'
    exact ⟨he, hb⟩

end Go.Proofs.Ytapddciodoobfaa.Vc
