/- Calendars in memory, and what periods, rightYears and rightPolicy of package field come to. -/
import Derived.Test.YtjiifmdjhdhabaaGreatDoorFcode
import Derived.Deep.RegionHeld3
import Derived.Deep.DeepCutAuto
namespace Go.Proofs.YtjiifmdjhdhabaaGreatDoor.Fp
set_option linter.unusedSimpArgs false
set_option linter.unusedVariables false
open Go.RowKit Go.Proofs.YtjiifmdjhdhabaaGreatDoor.Bn Go.Proofs.YtjiifmdjhdhabaaGreatDoor.Cp Go.Proofs.YtjiifmdjhdhabaaGreatDoor.Am

set_option maxHeartbeats 1000000

instance (c : CalZ) : Decidable (YearsOk c) := by unfold YearsOk; exact inferInstance
instance (c : CalZ) : Decidable (PolOk c) := by unfold PolOk; exact inferInstance
instance (c : CalZ) : Decidable (CutOk c) := by unfold CutOk; exact inferInstance

/-- block b holds the calendar c -/
structure CalIn (W : World) (b : Nat) (c : CalZ) : Prop where
  lt : b < W.heap.size
  c0 : W.cell? ⟨b, 0, none⟩ = some (.string c.nm)
  c1 : W.cell? ⟨b, 1, none⟩ = some (.int .i64 c.k)
  c2 : W.cell? ⟨b, 2, none⟩ = some (.int .i64 c.d)
  c3 : W.cell? ⟨b, 3, none⟩ = some (.int .i64 c.m)
  c4 : W.cell? ⟨b, 4, none⟩ = some (.int .i64 c.s)
  c5 : W.cell? ⟨b, 5, none⟩ = some (.int .i64 c.sh)
  c6 : W.cell? ⟨b, 6, none⟩ = some (.int .i64 c.p0)
  c7 : W.cell? ⟨b, 7, none⟩ = some (.int .i64 c.p1)
  c8 : W.cell? ⟨b, 8, none⟩ = some (.int .i64 c.p2)
  c9 : W.cell? ⟨b, 9, none⟩ = some (.int .i64 c.cy)
  c10 : W.cell? ⟨b, 10, none⟩ = some (.int .i64 c.ex)
  c11 : W.cell? ⟨b, 11, none⟩ = some (.int .i64 c.fi)
  c12 : W.cell? ⟨b, 12, none⟩ = some (.int .i64 c.la)
  c13 : W.cell? ⟨b, 13, none⟩ = some (.int .i64 c.po)
theorem CalIn.kept {W w1 : World} {b : Nat} {c : CalZ} (p : CalIn W b c) (hb : Below W.heap.size W w1) : CalIn w1 b c :=
  have k : ∀ n, w1.cell? ⟨b, n, none⟩ = W.cell? ⟨b, n, none⟩ := fun n => hb.cell (p := ⟨b, n, none⟩) p.lt
  ⟨Nat.lt_of_lt_of_le p.lt hb.size, (k 0).trans p.c0, (k 1).trans p.c1, (k 2).trans p.c2, (k 3).trans p.c3, (k 4).trans p.c4, (k 5).trans p.c5, (k 6).trans p.c6, (k 7).trans p.c7, (k 8).trans p.c8, (k 9).trans p.c9, (k 10).trans p.c10, (k 11).trans p.c11, (k 12).trans p.c12, (k 13).trans p.c13⟩
theorem CalIn.upto {W w1 : World} {b n : Nat} {c : CalZ} (p : CalIn W b c) (h : b < n) (hb : Below n W w1) (hs : n ≤ W.heap.size) : CalIn w1 b c :=
  have k : ∀ n, w1.cell? ⟨b, n, none⟩ = W.cell? ⟨b, n, none⟩ := fun n => hb.cell (p := ⟨b, n, none⟩) h
  ⟨Nat.lt_of_lt_of_le p.lt hb.size, (k 0).trans p.c0, (k 1).trans p.c1, (k 2).trans p.c2, (k 3).trans p.c3, (k 4).trans p.c4, (k 5).trans p.c5, (k 6).trans p.c6, (k 7).trans p.c7, (k 8).trans p.c8, (k 9).trans p.c9, (k 10).trans p.c10, (k 11).trans p.c11, (k 12).trans p.c12, (k 13).trans p.c13⟩
theorem CalIn.alloc {W : World} {b : Nat} {c : CalZ} (p : CalIn W b c) (o : Obj) : CalIn (W.alloc o) b c := p.kept ((Below.refl _ _).alloc (Nat.le_refl _) o)
theorem CalIn.drewN {W : World} {b : Nat} {c : CalZ} (p : CalIn W b c) (n : Nat) : CalIn (W.drewN n) b c := ⟨p.lt, p.c0, p.c1, p.c2, p.c3, p.c4, p.c5, p.c6, p.c7, p.c8, p.c9, p.c10, p.c11, p.c12, p.c13⟩
theorem CalIn.new (W : World) (c : CalZ) (t : TypeId) : CalIn (W.alloc (.cells #[.string c.nm, .int .i64 c.k, .int .i64 c.d, .int .i64 c.m, .int .i64 c.s, .int .i64 c.sh, .int .i64 c.p0, .int .i64 c.p1, .int .i64 c.p2, .int .i64 c.cy, .int .i64 c.ex, .int .i64 c.fi, .int .i64 c.la, .int .i64 c.po] t)) W.heap.size c :=
  ⟨by simp, by simp [go_sem], by simp [go_sem], by simp [go_sem], by simp [go_sem], by simp [go_sem], by simp [go_sem], by simp [go_sem], by simp [go_sem], by simp [go_sem], by simp [go_sem], by simp [go_sem], by simp [go_sem], by simp [go_sem], by simp [go_sem]⟩

theorem Years_any (c : CalZ) (r : Bool) (w : World) (h : r = decide (YearsOk c)) :
    Calls Tryz.prog 39 #[.agg #[.string c.nm, .int .i64 c.k, .int .i64 c.d, .int .i64 c.m, .int .i64 c.s, .int .i64 c.sh, .int .i64 c.p0, .int .i64 c.p1, .int .i64 c.p2, .int .i64 c.cy, .int .i64 c.ex, .int .i64 c.fi, .int .i64 c.la, .int .i64 c.po]] w fun e w' => e = .returned (.bool r) ∧ Below w.heap.size w w' := by
  have P := CalIn.new w c 24
  have O : (1602 ≤ c.fi ∧ c.la ≤ 9996 ∧ c.fi ≤ c.la ∧ decide (c.la - c.fi < 400) = true ∧ r = true) ∨ (1602 ≤ c.fi ∧ c.la ≤ 9996 ∧ c.fi ≤ c.la ∧ decide (c.la - c.fi < 400) = false ∧ r = false) ∨ (1602 ≤ c.fi ∧ c.la ≤ 9996 ∧ c.la < c.fi ∧ r = false) ∨
      (1602 ≤ c.fi ∧ 9996 < c.la ∧ r = false) ∨ (c.fi < 1602 ∧ r = false) := by
    subst h
    unfold YearsOk
    by_cases h1 : 1602 ≤ c.fi
    · by_cases h2 : c.la ≤ 9996
      · by_cases h3 : c.fi ≤ c.la
        · by_cases h4 : c.la - c.fi < 400
          · exact .inl ⟨h1, h2, h3, decide_eq_true h4, decide_eq_true ⟨h1, h2, h3, h4⟩⟩
          · exact .inr (.inl ⟨h1, h2, h3, decide_eq_false h4, decide_eq_false (fun k => h4 k.2.2.2)⟩)
        · exact .inr (.inr (.inl ⟨h1, h2, by omega, decide_eq_false (fun k => h3 k.2.2.1)⟩))
      · exact .inr (.inr (.inr (.inl ⟨h1, by omega, decide_eq_false (fun k => h2 k.2.1)⟩)))
    · exact .inr (.inr (.inr (.inr ⟨by omega, decide_eq_false (fun k => h1 k.1)⟩)))
  clear h
  obtain ⟨nm, k, d, m, s, sh, p0, p1, p2, cy, ex, fi, la, po⟩ := c
  obtain ⟨_, c0, c1, c2, c3, c4, c5, c6, c7, c8, c9, c10, c11, c12, c13⟩ := P
  dsimp only at *
  rcases O with ⟨h1, h2, h3, h4, rfl⟩ | ⟨h1, h2, h3, h4, rfl⟩ | ⟨h1, h2, h3, rfl⟩ | ⟨h1, h2, rfl⟩ | ⟨h1, rfl⟩
  all_goals
    go_enter Tryz.func39, Tryz.ntmps39
    go_wp2
    go_ret
    exact ⟨rfl, balloc (Below.refl _ w) _⟩

theorem Policy_any (c : CalZ) (r : Bool) (w : World) (h : r = decide (PolOk c)) (T : FTab w) :
    Calls Tryz.prog 40 #[.agg #[.string c.nm, .int .i64 c.k, .int .i64 c.d, .int .i64 c.m, .int .i64 c.s, .int .i64 c.sh, .int .i64 c.p0, .int .i64 c.p1, .int .i64 c.p2, .int .i64 c.cy, .int .i64 c.ex, .int .i64 c.fi, .int .i64 c.la, .int .i64 c.po]] w fun e w' => e = .returned (.bool r) ∧ Below w.heap.size w w' := by
  have P := CalIn.new w c 24
  obtain ⟨a, cap, hlt, hg⟩ := T.pol
  replace hg : (w.alloc (.cells #[.string c.nm, .int .i64 c.k, .int .i64 c.d, .int .i64 c.m, .int .i64 c.s, .int .i64 c.sh, .int .i64 c.p0, .int .i64 c.p1, .int .i64 c.p2, .int .i64 c.cy, .int .i64 c.ex, .int .i64 c.fi, .int .i64 c.la, .int .i64 c.po] 24)).cell? ⟨2, 0, none⟩ = some (.slice (some a) 4 cap) := ((Below.refl _ w).alloc (Nat.le_refl _) (.cells #[.string c.nm, .int .i64 c.k, .int .i64 c.d, .int .i64 c.m, .int .i64 c.s, .int .i64 c.sh, .int .i64 c.p0, .int .i64 c.p1, .int .i64 c.p2, .int .i64 c.cy, .int .i64 c.ex, .int .i64 c.fi, .int .i64 c.la, .int .i64 c.po] 24)).cell (p := ⟨2, 0, none⟩) hlt |>.trans hg
  obtain ⟨v, hv⟩ : ∃ v, v = (decide (1 ≤ c.po) && decide (c.po ≤ 4)) := ⟨_, rfl⟩
  have cw := fun w => within_any c.po 1 4 v w hv
  have O : (v = false ∧ r = false) ∨ (v = true ∧ r = (decide (c.po = 4) == decide (c.k = 6))) := by
    subst h hv
    unfold PolOk
    by_cases h1 : 1 ≤ c.po
    · by_cases h2 : c.po ≤ 4
      · refine .inr ⟨by simp [h1, h2], ?_⟩
        by_cases h3 : c.po = 4 <;> by_cases h4 : c.k = 6 <;> simp [h1, h2, h3, h4] <;> omega
      · exact .inl ⟨by simp [h2], decide_eq_false (fun k => h2 k.2.1)⟩
    · exact .inl ⟨by simp [h1], decide_eq_false (fun k => h1 k.1)⟩
  clear h hv
  obtain ⟨nm, k, d, m, s, sh, p0, p1, p2, cy, ex, fi, la, po⟩ := c
  obtain ⟨_, c0, c1, c2, c3, c4, c5, c6, c7, c8, c9, c10, c11, c12, c13⟩ := P
  dsimp only at *
  rcases O with ⟨rfl, rfl⟩ | ⟨rfl, rfl⟩
  · go_enter Tryz.func40, Tryz.ntmps40
    go_wp2_with fail
    refine (cw _).mono ?_
    rintro e w' ⟨rfl, rfl⟩
    go_wp2
    go_ret
    exact ⟨rfl, balloc (Below.refl _ w) _⟩
  · go_enter Tryz.func40, Tryz.ntmps40
    go_wp2_with fail
    refine (cw _).mono ?_
    rintro e w' ⟨rfl, rfl⟩
    go_wp2
    go_ret
    exact ⟨by first | rfl | (congr 2; by_cases h3 : po = 4 <;> by_cases h4 : k = 6 <;> simp [h3, h4]), balloc (Below.refl _ w) _⟩

theorem periods_any (c : CalZ) (v : Int) (w : World) (hv : v = per c) (hc : c.sh = 3 → c.cy = 1 ∨ c.cy = 2 ∨ c.cy = 4) :
    Calls Tryz.prog 75 #[.agg #[.string c.nm, .int .i64 c.k, .int .i64 c.d, .int .i64 c.m, .int .i64 c.s, .int .i64 c.sh, .int .i64 c.p0, .int .i64 c.p1, .int .i64 c.p2, .int .i64 c.cy, .int .i64 c.ex, .int .i64 c.fi, .int .i64 c.la, .int .i64 c.po]] w fun e w' => e = .returned (.int .i64 v) ∧ Below w.heap.size w w' := by
  have P := CalIn.new w c 24
  have O : (c.sh = 2 ∧ v = 13) ∨ (c.sh = 3 ∧ c.cy = 1 ∧ v = 52) ∨ (c.sh = 3 ∧ c.cy = 2 ∧ v = 26) ∨ (c.sh = 3 ∧ c.cy = 4 ∧ v = 13) ∨ (c.sh ≠ 2 ∧ c.sh ≠ 3 ∧ v = 12) := by
    subst hv
    unfold per
    by_cases h2 : c.sh = 2
    · exact .inl ⟨h2, by simp [h2]⟩
    · by_cases h3 : c.sh = 3
      · rcases hc h3 with h | h | h
        · exact .inr (.inl ⟨h3, h, by simp [h3, h]⟩)
        · exact .inr (.inr (.inl ⟨h3, h, by simp [h3, h]⟩))
        · exact .inr (.inr (.inr (.inl ⟨h3, h, by simp [h3, h]⟩)))
      · exact .inr (.inr (.inr (.inr ⟨h2, h3, by simp [h2, h3]⟩)))
  clear hv hc
  obtain ⟨nm, k, d, m, s, sh, p0, p1, p2, cy, ex, fi, la, po⟩ := c
  obtain ⟨_, c0, c1, c2, c3, c4, c5, c6, c7, c8, c9, c10, c11, c12, c13⟩ := P
  dsimp only at *
  rcases O with ⟨rfl, rfl⟩ | ⟨rfl, rfl, rfl⟩ | ⟨rfl, rfl, rfl⟩ | ⟨rfl, rfl, rfl⟩ | ⟨h2, h3, rfl⟩
  all_goals
    go_enter Tryz.func75, Tryz.ntmps75
    go_wp2
    go_ret
    exact ⟨rfl, balloc (Below.refl _ w) _⟩

end Go.Proofs.YtjiifmdjhdhabaaGreatDoor.Fp
