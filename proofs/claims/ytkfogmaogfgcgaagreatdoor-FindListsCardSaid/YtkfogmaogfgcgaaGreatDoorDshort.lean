/- The bounds of layer 17's statements. -/
import Derived.Test.YtkfogmaogfgcgaaGreatDoorJC
import Derived.Test.YtkfogmaogfgcgaaGreatDoorFtab
namespace Go.Proofs.YtkfogmaogfgcgaaGreatDoor.Dl
set_option linter.unusedSimpArgs false
set_option linter.unusedVariables false
open Go.RowKit Go.Proofs.YtkfogmaogfgcgaaGreatDoor.Bn Go.Proofs.YtkfogmaogfgcgaaGreatDoor.Bx Go.Proofs.YtkfogmaogfgcgaaGreatDoor.Cp Go.Proofs.YtkfogmaogfgcgaaGreatDoor.Am Go.Proofs.YtkfogmaogfgcgaaGreatDoor.Fp Go.Proofs.YtkfogmaogfgcgaaGreatDoor.Cm Go.Proofs.YtkfogmaogfgcgaaGreatDoor.Em Go.Proofs.YtkfogmaogfgcgaaGreatDoor.Rk

set_option maxHeartbeats 4000000

def Short (c : CalZ) (f t : Int) (w : World) (e : Ending) (w' : World) : Prop :=
  ∃ r, e = .returned (.bool r) ∧ Below w.heap.size w w' ∧ (r = true → c.nm.size ≤ 100 ∧ (f ≤ t → c.fi ≤ f → t ≤ c.la → IntKind.i64.wrap (t - f) ≤ 6))

set_option maxRecDepth 100000 in
theorem short_any (c : CalZ) (f t : Int) (w : World) : Calls Tryz.prog 15 #[.agg #[.string c.nm, .int .i64 c.k, .int .i64 c.d, .int .i64 c.m, .int .i64 c.s, .int .i64 c.sh, .int .i64 c.p0, .int .i64 c.p1, .int .i64 c.p2, .int .i64 c.cy, .int .i64 c.ex, .int .i64 c.fi, .int .i64 c.la, .int .i64 c.po], .int .i64 f, .int .i64 t] w (Short c f t w) := by
  have C := CalIn.new w c 24
  have B := balloc (Below.refl _ w) (.cells #[.string c.nm, .int .i64 c.k, .int .i64 c.d, .int .i64 c.m, .int .i64 c.s, .int .i64 c.sh, .int .i64 c.p0, .int .i64 c.p1, .int .i64 c.p2, .int .i64 c.cy, .int .i64 c.ex, .int .i64 c.fi, .int .i64 c.la, .int .i64 c.po] 24)
  obtain ⟨_, c0, c1, c2, c3, c4, c5, c6, c7, c8, c9, c10, c11, c12, c13⟩ := id C
  by_cases hl : 100 < c.nm.size
  · have d1 : decide ((c.nm.size : Int) ≤ 100) = false := decide_eq_false (by omega)
    clear hl
    go_enter Tryz.func15, Tryz.ntmps15
    go_wp2
    go_ret
    exact ⟨false, by simp, B, fun h => by cases h⟩
  have d1 : decide ((c.nm.size : Int) ≤ 100) = true := decide_eq_true (by omega)
  have O : decide (t < f) = true ∨ (decide (t < f) = false ∧ decide (f < c.fi) = true) ∨ (decide (t < f) = false ∧ decide (f < c.fi) = false ∧ decide (c.la < t) = true) ∨ (decide (t < f) = false ∧ decide (f < c.fi) = false ∧ decide (c.la < t) = false) := by
    by_cases h1 : t < f
    · exact .inl (decide_eq_true h1)
    · by_cases h2 : f < c.fi
      · exact .inr (.inl ⟨decide_eq_false h1, decide_eq_true h2⟩)
      · by_cases h3 : c.la < t
        · exact .inr (.inr (.inl ⟨decide_eq_false h1, decide_eq_false h2, decide_eq_true h3⟩))
        · exact .inr (.inr (.inr ⟨decide_eq_false h1, decide_eq_false h2, decide_eq_false h3⟩))
  have hl' := Lib.hid hl
  clear hl
  rcases O with h1 | ⟨h1, h2⟩ | ⟨h1, h2, h3⟩ | ⟨h1, h2, h3⟩
  · go_enter Tryz.func15, Tryz.ntmps15
    go_wp2
    go_ret
    exact ⟨true, by simp, B, fun _ => ⟨by have := hl'.out; omega, fun q1 _ _ => by have := of_decide_eq_true h1; omega⟩⟩
  · go_enter Tryz.func15, Tryz.ntmps15
    go_wp2
    go_ret
    exact ⟨true, by simp, B, fun _ => ⟨by have := hl'.out; omega, fun _ q1 _ => by have := of_decide_eq_true h2; omega⟩⟩
  · go_enter Tryz.func15, Tryz.ntmps15
    go_wp2
    go_ret
    exact ⟨true, by simp, B, fun _ => ⟨by have := hl'.out; omega, fun _ _ q1 => by have := of_decide_eq_true h3; omega⟩⟩
  · obtain ⟨z, hz⟩ : ∃ z, IntKind.i64.wrap (t - f) = z := ⟨_, rfl⟩
    obtain ⟨b, hb⟩ : ∃ b, decide (z ≤ 6) = b := ⟨_, rfl⟩
    go_enter Tryz.func15, Tryz.ntmps15
    go_wp2
    go_ret
    exact ⟨b, by simp, B, fun h => ⟨by have := hl'.out; omega, fun _ _ _ => by rw [hz]; rw [h] at hb; exact of_decide_eq_true hb⟩⟩

def Brief (c : CalZ) (a b : Int) (w : World) (e : Ending) (w' : World) : Prop :=
  ∃ r, e = .returned (.bool r) ∧ Below w.heap.size w w' ∧ (r = true → c.nm.size ≤ 100 ∧ (a ≤ b → 0 ≤ a → b ≤ 3068036 → b - a ≤ 2000))

set_option maxRecDepth 100000 in
theorem brief_any (c : CalZ) (a b : Int) (w : World) : Calls Tryz.prog 16 #[.agg #[.string c.nm, .int .i64 c.k, .int .i64 c.d, .int .i64 c.m, .int .i64 c.s, .int .i64 c.sh, .int .i64 c.p0, .int .i64 c.p1, .int .i64 c.p2, .int .i64 c.cy, .int .i64 c.ex, .int .i64 c.fi, .int .i64 c.la, .int .i64 c.po], .agg #[.int .i64 a, .int .i64 b]] w (Brief c a b w) := by
  have C := CalIn.new w c 24
  have K := Go.Proofs.YtkfogmaogfgcgaaGreatDoor.Pr.Two.new (w.alloc (.cells #[.string c.nm, .int .i64 c.k, .int .i64 c.d, .int .i64 c.m, .int .i64 c.s, .int .i64 c.sh, .int .i64 c.p0, .int .i64 c.p1, .int .i64 c.p2, .int .i64 c.cy, .int .i64 c.ex, .int .i64 c.fi, .int .i64 c.la, .int .i64 c.po] 24)) (.int .i64 a) (.int .i64 b) 34
  rw [World.size_alloc] at K
  replace C := C.alloc (.cells #[.int .i64 a, .int .i64 b] 34)
  have B := balloc (balloc (Below.refl _ w) (.cells #[.string c.nm, .int .i64 c.k, .int .i64 c.d, .int .i64 c.m, .int .i64 c.s, .int .i64 c.sh, .int .i64 c.p0, .int .i64 c.p1, .int .i64 c.p2, .int .i64 c.cy, .int .i64 c.ex, .int .i64 c.fi, .int .i64 c.la, .int .i64 c.po] 24)) (.cells #[.int .i64 a, .int .i64 b] 34)
  obtain ⟨_, c0, c1, c2, c3, c4, c5, c6, c7, c8, c9, c10, c11, c12, c13⟩ := id C
  obtain ⟨_, r0, r1, g0, g1⟩ := id K
  by_cases hl : 100 < c.nm.size
  · have d1 : decide ((c.nm.size : Int) ≤ 100) = false := decide_eq_false (by omega)
    clear hl
    go_enter Tryz.func16, Tryz.ntmps16
    go_wp2
    go_ret
    exact ⟨false, by simp, B, fun h => by cases h⟩
  have d1 : decide ((c.nm.size : Int) ≤ 100) = true := decide_eq_true (by omega)
  have O : decide (b < a) = true ∨ (decide (b < a) = false ∧ decide (a < 0) = true) ∨ (decide (b < a) = false ∧ decide (a < 0) = false ∧ decide ((3068037 : Int) ≤ b) = true) ∨ (decide (b < a) = false ∧ decide (a < 0) = false ∧ decide ((3068037 : Int) ≤ b) = false) := by
    by_cases h1 : b < a
    · exact .inl (decide_eq_true h1)
    · by_cases h2 : a < 0
      · exact .inr (.inl ⟨decide_eq_false h1, decide_eq_true h2⟩)
      · by_cases h3 : (3068037 : Int) ≤ b
        · exact .inr (.inr (.inl ⟨decide_eq_false h1, decide_eq_false h2, decide_eq_true h3⟩))
        · exact .inr (.inr (.inr ⟨decide_eq_false h1, decide_eq_false h2, decide_eq_false h3⟩))
  have hl' := Lib.hid hl
  clear hl
  rcases O with h1 | ⟨h1, h2⟩ | ⟨h1, h2, h3⟩ | ⟨h1, h2, h3⟩
  · go_enter Tryz.func16, Tryz.ntmps16
    go_wp2
    go_ret
    exact ⟨true, by simp, B, fun _ => ⟨by have := hl'.out; omega, fun q1 _ _ => by have := of_decide_eq_true h1; omega⟩⟩
  · go_enter Tryz.func16, Tryz.ntmps16
    go_wp2
    go_ret
    exact ⟨true, by simp, B, fun _ => ⟨by have := hl'.out; omega, fun _ q1 _ => by have := of_decide_eq_true h2; omega⟩⟩
  · go_enter Tryz.func16, Tryz.ntmps16
    go_wp2
    go_ret
    exact ⟨true, by simp, B, fun _ => ⟨by have := hl'.out; omega, fun _ _ q1 => by have := of_decide_eq_true h3; omega⟩⟩
  · have q1 := of_decide_eq_false h1
    have q2 := of_decide_eq_false h2
    have q3 := of_decide_eq_false h3
    have hz : IntKind.i64.wrap (b - a) = b - a := IntWalk.i64_in _ (by omega)
    obtain ⟨v, hv⟩ : ∃ v, decide (b - a ≤ 2000) = v := ⟨_, rfl⟩
    clear q1 q2 q3
    go_enter Tryz.func16, Tryz.ntmps16
    go_wp2
    go_ret
    exact ⟨v, by simp, B, fun h => ⟨by have := hl'.out; omega, fun _ _ _ => by rw [h] at hv; exact of_decide_eq_true hv⟩⟩

end Go.Proofs.YtkfogmaogfgcgaaGreatDoor.Dl
