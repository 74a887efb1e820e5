/- What the rules of package anchor come to, and where a year ends. -/
import Derived.Test.YtjiifmdjhdhabaaGreatDoorJF
import Derived.Test.YtjiifmdjhdhabaaGreatDoorEcode2
import Derived.Deep.RegionHeld3
namespace Go.Proofs.YtjiifmdjhdhabaaGreatDoor.Ap
set_option linter.unusedSimpArgs false
set_option linter.unusedVariables false
open Go.RowKit Go.Proofs.YtjiifmdjhdhabaaGreatDoor.Bn Go.Proofs.YtjiifmdjhdhabaaGreatDoor.Cp Go.Proofs.YtjiifmdjhdhabaaGreatDoor.Am Go.Proofs.YtjiifmdjhdhabaaGreatDoor.Fp Go.Proofs.YtjiifmdjhdhabaaGreatDoor.Cm Go.Proofs.YtjiifmdjhdhabaaGreatDoor.Em Go.Proofs.YtjiifmdjhdhabaaGreatDoor.Ep

set_option maxHeartbeats 1000000

theorem last_any (d y m v : Int) (w : World) (ok : MonthOk y m) (d0 : 1 ≤ d) (d1 : d ≤ 7) (hv : v = mend y m - mback y m d) (T : Tab w) :
    Calls Tryz.prog 152 #[.agg #[.int .i64 d], .int .i64 y, .int .i64 m] w fun e w' => e = .returned (.int .i64 v) ∧ Below w.heap.size w w' := by
  have cl := fun w T => Last_any y m d v 0 w (.inl ⟨ok, d0, d1, hv, rfl⟩) T
  clear ok hv
  go_enter Tryz.func152, Tryz.ntmps152
  go_wp2_with fail
  refine (cl _ (T.alloc _)).mono ?_
  rintro e w1 ⟨rfl, hb⟩
  have B := bthen (balloc (Below.refl _ w) _) hb
  go_wp2
  go_ret
  exact ⟨rfl, B⟩

theorem near_any (d y m v : Int) (w : World) (ok : MonthOk y m) (d0 : 1 ≤ d) (d1 : d ≤ 7) (h9 : nearv y m d ≤ 3068036) (hv : v = nearv y m d) (T : Tab w) :
    Calls Tryz.prog 154 #[.agg #[.int .i64 d], .int .i64 y, .int .i64 m] w fun e w' => e = .returned (.int .i64 v) ∧ Below w.heap.size w w' := by
  have cl := fun w T => Near_any y m d v 0 w (.inl ⟨ok, d0, d1, h9, hv, rfl⟩) T
  clear ok hv h9
  go_enter Tryz.func154, Tryz.ntmps154
  go_wp2_with fail
  refine (cl _ (T.alloc _)).mono ?_
  rintro e w1 ⟨rfl, hb⟩
  have B := bthen (balloc (Below.refl _ w) _) hb
  go_wp2
  go_ret
  exact ⟨rfl, B⟩

theorem month_any (y m v : Int) (w : World) (ok : MonthOk y m) (hv : v = mend y m) (T : Tab w) :
    Calls Tryz.prog 153 #[.agg #[], .int .i64 y, .int .i64 m] w fun e w' => e = .returned (.int .i64 v) ∧ Below w.heap.size w w' := by
  have cl := fun w T => Length_any y m (mlen y m) 0 w (.inl ⟨ok, rfl, rfl⟩) T
  have cd := fun w T => Day_any y m (mlen y m) v 0 w (.inl ⟨end_ok ok, by rw [hv]; rfl, rfl⟩) T
  generalize mlen y m = l at cl cd
  clear ok hv
  go_enter Tryz.func153, Tryz.ntmps153
  go_wp2_with fail
  refine (cl _ (T.alloc _)).mono ?_
  rintro e w' ⟨rfl, rfl⟩
  go_wp2_with fail
  refine (cd _ (T.alloc _)).mono ?_
  rintro e w1 ⟨rfl, hb⟩
  have B := bthen (balloc (Below.refl _ w) _) hb
  go_wp2
  go_ret
  exact ⟨rfl, B⟩

/-- the rule of a calendar, as a value -/
def ruleV (c : CalZ) : Value := if c.k = 1 ∨ c.k = 4 then .iface 107 (.agg #[.int .i64 c.d]) else if c.k = 6 then .iface 109 (.agg #[]) else .iface 110 (.agg #[.int .i64 c.d])
theorem rule_any (c : CalZ) (v : Value) (w : World) (hv : v = ruleV c) :
    Calls Tryz.prog 89 #[.agg #[.string c.nm, .int .i64 c.k, .int .i64 c.d, .int .i64 c.m, .int .i64 c.s, .int .i64 c.sh, .int .i64 c.p0, .int .i64 c.p1, .int .i64 c.p2, .int .i64 c.cy, .int .i64 c.ex, .int .i64 c.fi, .int .i64 c.la, .int .i64 c.po]] w fun e w' => e = .returned v ∧ Below w.heap.size w w' := by
  have P := CalIn.new w c 24
  have O : (c.k = 1 ∧ v = .iface 107 (.agg #[.int .i64 c.d])) ∨ (c.k = 4 ∧ v = .iface 107 (.agg #[.int .i64 c.d])) ∨ (c.k = 6 ∧ v = .iface 109 (.agg #[])) ∨ (c.k ≠ 1 ∧ c.k ≠ 4 ∧ c.k ≠ 6 ∧ v = .iface 110 (.agg #[.int .i64 c.d])) := by
    subst hv
    unfold ruleV
    by_cases h1 : c.k = 1
    · exact .inl ⟨h1, by simp [h1]⟩
    · by_cases h4 : c.k = 4
      · exact .inr (.inl ⟨h4, by simp [h4]⟩)
      · by_cases h6 : c.k = 6
        · exact .inr (.inr (.inl ⟨h6, by simp [h6]⟩))
        · exact .inr (.inr (.inr ⟨h1, h4, h6, by simp [h1, h4, h6]⟩))
  clear hv
  obtain ⟨nm, k, d, m, s, sh, p0, p1, p2, cy, ex, fi, la, po⟩ := c
  obtain ⟨_, c0, c1, c2, c3, c4, c5, c6, c7, c8, c9, c10, c11, c12, c13⟩ := P
  dsimp only at *
  rcases O with ⟨rfl, rfl⟩ | ⟨rfl, rfl⟩ | ⟨rfl, rfl⟩ | ⟨h1, h4, h6, rfl⟩
  all_goals
    go_enter Tryz.func89, Tryz.ntmps89
    go_wp2
    go_ret
    exact ⟨rfl, balloc (Below.refl _ w) _⟩

end Go.Proofs.YtjiifmdjhdhabaaGreatDoor.Ap
