/- The table of levels of package label, and what canBeWritten, Level, Amount and Small come to. -/
import Derived.Test.YtfjckgnclhpmcaaDoorNopp
import Derived.Test.YtfjckgnclhpmcaaDoorBoxes
import Derived.Deep.RegionHeld3
import Derived.Deep.DeepCutAuto
namespace Go.Proofs.YtfjckgnclhpmcaaDoor.Np
set_option linter.unusedSimpArgs false
set_option linter.unusedVariables false
open Go.RowKit Go.Proofs.YtfjckgnclhpmcaaDoor.Pr Go.Proofs.YtfjckgnclhpmcaaDoor.Nm Go.Proofs.YtfjckgnclhpmcaaDoor.Wm Go.Proofs.YtfjckgnclhpmcaaDoor.Wc Go.Proofs.YtfjckgnclhpmcaaDoor.Bx

set_option maxHeartbeats 2000000

/-- the table of levels lies where it was laid -/
structure Lev (W : World) : Prop where
  lt : 0 < W.heap.size
  c0 : W.cell? ⟨0, 0, none⟩ = some (.string ⟨#[121, 101, 97, 114]⟩)
  c1 : W.cell? ⟨0, 1, none⟩ = some (.string ⟨#[]⟩)
  c2 : W.cell? ⟨0, 2, none⟩ = some (.int .i64 0)
  c3 : W.cell? ⟨0, 3, none⟩ = some (.int .i64 1)
  c4 : W.cell? ⟨0, 4, none⟩ = some (.string ⟨#[104, 97, 108, 102]⟩)
  c5 : W.cell? ⟨0, 5, none⟩ = some (.string ⟨#[45, 72]⟩)
  c6 : W.cell? ⟨0, 6, none⟩ = some (.int .i64 1)
  c7 : W.cell? ⟨0, 7, none⟩ = some (.int .i64 2)
  c8 : W.cell? ⟨0, 8, none⟩ = some (.string ⟨#[113, 117, 97, 114, 116, 101, 114]⟩)
  c9 : W.cell? ⟨0, 9, none⟩ = some (.string ⟨#[45, 81]⟩)
  c10 : W.cell? ⟨0, 10, none⟩ = some (.int .i64 1)
  c11 : W.cell? ⟨0, 11, none⟩ = some (.int .i64 4)
  c12 : W.cell? ⟨0, 12, none⟩ = some (.string ⟨#[112, 101, 114, 105, 111, 100]⟩)
  c13 : W.cell? ⟨0, 13, none⟩ = some (.string ⟨#[45, 80]⟩)
  c14 : W.cell? ⟨0, 14, none⟩ = some (.int .i64 2)
  c15 : W.cell? ⟨0, 15, none⟩ = some (.int .i64 52)
  c16 : W.cell? ⟨0, 16, none⟩ = some (.string ⟨#[119, 101, 101, 107]⟩)
  c17 : W.cell? ⟨0, 17, none⟩ = some (.string ⟨#[45, 87]⟩)
  c18 : W.cell? ⟨0, 18, none⟩ = some (.int .i64 2)
  c19 : W.cell? ⟨0, 19, none⟩ = some (.int .i64 60)
theorem Lev.kept {W w1 : World} (p : Lev W) (hb : Below W.heap.size W w1) : Lev w1 :=
  have k : ∀ n, w1.cell? ⟨0, n, none⟩ = W.cell? ⟨0, n, none⟩ := fun n => hb.cell (p := ⟨0, n, none⟩) p.lt
  ⟨Nat.lt_of_lt_of_le p.lt hb.size, (k 0).trans p.c0, (k 1).trans p.c1, (k 2).trans p.c2, (k 3).trans p.c3, (k 4).trans p.c4, (k 5).trans p.c5, (k 6).trans p.c6, (k 7).trans p.c7, (k 8).trans p.c8, (k 9).trans p.c9, (k 10).trans p.c10, (k 11).trans p.c11, (k 12).trans p.c12, (k 13).trans p.c13,
   (k 14).trans p.c14, (k 15).trans p.c15, (k 16).trans p.c16, (k 17).trans p.c17, (k 18).trans p.c18, (k 19).trans p.c19⟩
theorem Lev.alloc {W : World} (p : Lev W) (o : Obj) : Lev (W.alloc o) := p.kept ((Below.refl _ _).alloc (Nat.le_refl _) o)
/-- a level's four cells, by its number -/
theorem Lev.row {W : World} (p : Lev W) (k : Nat) (h : k < 5) : W.cell? ⟨0, k * 4, none⟩ = some (.string (lname ((k : Int) + 1))) ∧ W.cell? ⟨0, k * 4 + 1, none⟩ = some (.string (sgn ((k : Int) + 1))) ∧
    W.cell? ⟨0, k * 4 + 2, none⟩ = some (.int .i64 (dgc ((k : Int) + 1) : Nat)) ∧ W.cell? ⟨0, k * 4 + 3, none⟩ = some (.int .i64 (most ((k : Int) + 1))) := by
  have : k = 0 ∨ k = 1 ∨ k = 2 ∨ k = 3 ∨ k = 4 := by omega
  rcases this with rfl | rfl | rfl | rfl | rfl
  · exact ⟨p.c0, p.c1, p.c2, p.c3⟩
  · exact ⟨p.c4, p.c5, p.c6, p.c7⟩
  · exact ⟨p.c8, p.c9, p.c10, p.c11⟩
  · exact ⟨p.c12, p.c13, p.c14, p.c15⟩
  · exact ⟨p.c16, p.c17, p.c18, p.c19⟩
/-- an element of the table as a whole -/
theorem lev_index (k : Nat) (h : k < 5) (w : World) : (Instr.index 42 (.agg #[.string ⟨#[121, 101, 97, 114]⟩, .string ⟨#[]⟩, .int .i64 0, .int .i64 1, .string ⟨#[104, 97, 108, 102]⟩, .string ⟨#[45, 72]⟩, .int .i64 1, .int .i64 2, .string ⟨#[113, 117, 97, 114, 116, 101, 114]⟩, .string ⟨#[45, 81]⟩, .int .i64 1, .int .i64 4, .string ⟨#[112, 101, 114, 105, 111, 100]⟩, .string ⟨#[45, 80]⟩, .int .i64 2, .int .i64 52, .string ⟨#[119, 101, 101, 107]⟩, .string ⟨#[45, 87]⟩, .int .i64 2, .int .i64 60]) (.int .i64 (k : Int))).run Tryd.prog w =
    .ok (.agg #[.string (lname ((k : Int) + 1)), .string (sgn ((k : Int) + 1)), .int .i64 (dgc ((k : Int) + 1) : Nat), .int .i64 (most ((k : Int) + 1))]) w := by
  have : k = 0 ∨ k = 1 ∨ k = 2 ∨ k = 3 ∨ k = 4 := by omega
  rcases this with rfl | rfl | rfl | rfl | rfl
  all_goals first | rfl | kernel_rfl

theorem most_bd (L : Int) : 1 ≤ most L ∧ most L ≤ 60 := by
  unfold most; repeat' split
  all_goals omega

set_option maxRecDepth 100000 in
theorem can_any (L y i : Int) (b : Bool) (w : World) (hb : b = decide (WrOk L y i)) (T : Lev w) :
    Calls Tryd.prog 20 #[.agg #[.int .i64 L, .int .i64 y, .int .i64 i]] w fun e w' => e = .returned (.bool b) ∧ Below w.heap.size w w' := by
  have U := Tri.new w (.int .i64 L) (.int .i64 y) (.int .i64 i) 23
  replace T := T.alloc (.cells #[.int .i64 L, .int .i64 y, .int .i64 i] 23)
  have B := balloc (Below.refl _ w) (.cells #[.int .i64 L, .int .i64 y, .int .i64 i] 23)
  have O : ((decide (1601 ≤ y) = false ∧ b = false) ∨ (decide (1601 ≤ y) = true ∧ decide (y ≤ 9997) = false ∧ b = false) ∨ (decide (1601 ≤ y) = true ∧ decide (y ≤ 9997) = true ∧ decide (1 ≤ L) = false ∧ b = false) ∨ (decide (1601 ≤ y) = true ∧ decide (y ≤ 9997) = true ∧ decide (1 ≤ L) = true ∧ decide (L ≤ 5) = false ∧ b = false) ∨
      (decide (1601 ≤ y) = true ∧ decide (y ≤ 9997) = true ∧ decide (1 ≤ L) = true ∧ decide (L ≤ 5) = true ∧ decide (1 ≤ i) = false ∧ b = false)) ∨
      (decide (1601 ≤ y) = true ∧ decide (y ≤ 9997) = true ∧ 1 ≤ L ∧ L ≤ 5 ∧ decide (1 ≤ i) = true ∧ decide (i ≤ most L) = b) := by
    subst hb
    unfold WrOk
    by_cases h1 : 1601 ≤ y
    · by_cases h2 : y ≤ 9997
      · by_cases h3 : 1 ≤ L
        · by_cases h4 : L ≤ 5
          · by_cases h5 : 1 ≤ i
            · exact .inr ⟨by simp [h1], by simp [h2], h3, h4, by simp [h5], by simp [h1, h2, h3, h4, h5]⟩
            · exact .inl (.inr (.inr (.inr (.inr ⟨by simp [h1], by simp [h2], by simp [h3], by simp [h4], by simp [h5], by simp [h5]⟩))))
          · exact .inl (.inr (.inr (.inr (.inl ⟨by simp [h1], by simp [h2], by simp [h3], by simp [h4], by simp [h4]⟩))))
        · exact .inl (.inr (.inr (.inl ⟨by simp [h1], by simp [h2], by simp [h3], by simp [h3]⟩)))
      · exact .inl (.inr (.inl ⟨by simp [h1], by simp [h2], by simp [h2]⟩))
    · exact .inl (.inl ⟨by simp [h1], by simp [h1]⟩)
  clear hb
  rcases O with O | ⟨h1, h2, h3, h4, h5, e⟩
  · rcases O with ⟨h1, rfl⟩ | ⟨h1, h2, rfl⟩ | ⟨h1, h2, h3, rfl⟩ | ⟨h1, h2, h3, h4, rfl⟩ | ⟨h1, h2, h3, h4, h5, rfl⟩
    all_goals
      go_enter Tryd.func20, Tryd.ntmps20
      go_upto_region 1 with fail
      generalize w.alloc (.cells #[.int .i64 L, .int .i64 y, .int .i64 i] 23) = W0 at *
      obtain ⟨_, u0, u1, u2, _, _, _⟩ := id U
      go_wp2
      go_quiet (fail)
      go_wp2
      go_ret
      exact ⟨rfl, bdrewN B _⟩
  · obtain ⟨k, rfl⟩ : ∃ k : Nat, L = (k : Int) + 1 := ⟨(L - 1).toNat, by omega⟩
    have k5 : k < 5 := by omega
    have m0 := most_bd ((k : Int) + 1)
    obtain ⟨_, _, _, cm⟩ := T.row k k5
    generalize most ((k : Int) + 1) = M at *
    obtain ⟨m0, m1⟩ := m0
    have p0 : (0 : Int) ≤ (k : Int) := by omega
    have p1 : (k : Int) < 5 := by omega
    have d3 : decide (1 ≤ (k : Int) + 1) = true := decide_eq_true (by omega)
    have d4 : decide ((k : Int) + 1 ≤ 5) = true := decide_eq_true (by omega)
    have kk : (k : Int) + 1 - 1 = (k : Int) := by omega
    go_enter Tryd.func20, Tryd.ntmps20
    go_upto_region 1 with fail
    generalize w.alloc (.cells #[.int .i64 ((k : Int) + 1), .int .i64 y, .int .i64 i] 23) = W0 at *
    obtain ⟨_, u0, u1, u2, _, _, _⟩ := id U
    go_wp2
    go_quiet (fail)
    go_wp2
    go_ret
    exact ⟨by simp [e], bdrewN B _⟩

end Go.Proofs.YtfjckgnclhpmcaaDoor.Np
