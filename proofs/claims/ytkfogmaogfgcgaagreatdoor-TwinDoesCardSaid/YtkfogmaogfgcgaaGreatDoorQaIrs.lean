/- Lists of units that a function answers with, empty ones too; that the document's own Same is true of two that hold the same units. -/
import Derived.Test.YtkfogmaogfgcgaaGreatDoorQaJC
import Derived.Test.YtkfogmaogfgcgaaGreatDoorQaFtab
import Derived.Test.YtkfogmaogfgcgaaGreatDoorQaJD
namespace Go.Proofs.YtkfogmaogfgcgaaGreatDoor.Rf
set_option linter.unusedSimpArgs false
set_option linter.unusedVariables false
open Go.RowKit Go.Maps Bn Bx Cp Am Fp Rk

set_option maxHeartbeats 8000000

structure Uat (W : World) (g off : Nat) (l : List U3) : Prop where
  lt : g < W.heap.size
  c : ∀ i u, l[i]? = some u → W.cell? ⟨g, off + i * 3, none⟩ = some (.int .i64 u.1) ∧ W.cell? ⟨g, off + i * 3 + 1, none⟩ = some (.int .i64 u.2.1) ∧ W.cell? ⟨g, off + i * 3 + 2, none⟩ = some (.int .i64 u.2.2)
theorem Uat.kept {W w1 : World} {g off : Nat} {l : List U3} (p : Uat W g off l) (hb : Below W.heap.size W w1) : Uat w1 g off l :=
  ⟨Nat.lt_of_lt_of_le p.lt hb.size, fun i u h => ⟨(hb.cell (p := ⟨g, off + i * 3, none⟩) p.lt).trans (p.c i u h).1, (hb.cell (p := ⟨g, off + i * 3 + 1, none⟩) p.lt).trans (p.c i u h).2.1, (hb.cell (p := ⟨g, off + i * 3 + 2, none⟩) p.lt).trans (p.c i u h).2.2⟩⟩
theorem Uat.alloc {W : World} {g off : Nat} {l : List U3} (p : Uat W g off l) (o : Obj) : Uat (W.alloc o) g off l := p.kept ((Below.refl _ _).alloc (Nat.le_refl _) o)
theorem uat_row {W : World} {g : Nat} {l : List U3} (p : Urow W g l) : Uat W g 0 l := ⟨p.lt, fun i u h => by rw [Nat.zero_add]; exact p.c i u h⟩
structure ULst (W : World) (v : Value) (l : List U3) : Prop where
  o : (l = [] ∧ v = .slice none 0 0) ∨ ∃ g off cap : Nat, v = .slice (some ⟨g, off, none⟩) l.length cap ∧ Uat W g off l
theorem ULst.kept {W w1 : World} {v : Value} {l : List U3} (p : ULst W v l) (hb : Below W.heap.size W w1) : ULst w1 v l :=
  ⟨p.o.elim .inl (fun ⟨g, off, cap, e, R⟩ => .inr ⟨g, off, cap, e, R.kept hb⟩)⟩
theorem ULst.alloc {W : World} {v : Value} {l : List U3} (p : ULst W v l) (o : Obj) : ULst (W.alloc o) v l := p.kept ((Below.refl _ _).alloc (Nat.le_refl _) o)
theorem lst_one {EL : TypeId} {w W : World} {v : Value} {l : List U3} (X : One3 EL w W v l) : ULst W v l := by
  cases l with
  | nil =>
    rcases X.a.2 with ⟨h, _⟩ | ⟨g, cap, cur, hv, hb, hg, _⟩
    · exact ⟨.inl ⟨rfl, h⟩⟩
    · exact ⟨.inr ⟨g, 0, cap, hv, ⟨(Array.getElem?_eq_some_iff.1 hg).1, fun i u h => by simp at h⟩⟩⟩
  | cons u l =>
    obtain ⟨g, cap, rfl, _, _⟩ := X.a.form (by simp)
    exact ⟨.inr ⟨g, 0, cap, rfl, uat_row (Urow.of_owns X.a (by simp))⟩⟩
def LstTo (w : World) (l : List U3) (er : Int) (e : Ending) (w' : World) : Prop :=
  ∃ v, e = .returned (.tuple #[v, .int .i64 er]) ∧ ULst w' v l ∧ Below w.heap.size w w'
theorem lst_units {w w' : World} {l : List U3} {e : Ending} (h : UnitsTo w l e w') : LstTo w l 0 e w' := by
  obtain ⟨g, cap, he, R, _, hb, _⟩ := h
  exact ⟨_, he, ⟨.inr ⟨g, 0, cap, rfl, uat_row R⟩⟩, hb⟩
theorem lst_none {w w' : World} {er : Int} {e : Ending} (h : e = .returned (.tuple #[.slice none 0 0, .int .i64 er]) ∧ Below w.heap.size w w') : LstTo w [] er e w' :=
  ⟨_, h.1, ⟨.inl ⟨rfl, rfl⟩⟩, h.2⟩

theorem runit_neq (a b c a' b' c' : Int) (w : World) :
    (binOp .neq 26 (.agg #[.int .i64 a, .int .i64 b, .int .i64 c]) (.agg #[.int .i64 a', .int .i64 b', .int .i64 c'])).run Tryz.prog w = .ok (.bool (!decide (a = a' ∧ b = b' ∧ c = c'))) w := by
  by_cases h1 : a = a'
  · by_cases h2 : b = b'
    · by_cases h3 : c = c'
      · subst h1 h2 h3; simp [go_sem]
      · simp [go_sem, h1, h2, h3]
    · simp [go_sem, h1, h2]
  · simp [go_sem, h1]

set_option maxRecDepth 100000 in
theorem rsame_u (g1 g2 o1 o2 N c1 c2 : Nat) (l : List U3) (w : World) (hN : l.length = N) (N1 : N ≤ 1000000) (R1 : Uat w g1 o1 l) (R2 : Uat w g2 o2 l) :
    Calls Tryz.prog 21 #[.slice (some ⟨g1, o1, none⟩) N c1, .slice (some ⟨g2, o2, none⟩) N c2] w fun e w' => e = .returned (.bool true) ∧ Below w.heap.size w w' := by
  have e0 : ((N : Int) != (N : Int)) = false := by simp
  have HN := Lib.hid hN
  clear hN
  go_enter Tryz.func21, Tryz.ntmps21
  go_wp2
  go_loopw [13] (fun Y wr => ∃ k : Nat, k ≤ N ∧ Y = .int .i64 (k : Int) ∧ Below w.heap.size w wr) (fun Y _ => N - (intOf Y).toNat)
  case atStart => exact ⟨0, by omega, rfl, Below.refl _ _⟩
  case round =>
    obtain ⟨k, kN, rfl, B2⟩ := hrel
    by_cases hlt : k < N
    · obtain ⟨⟨x, y, z⟩, hu⟩ : ∃ u, l[k]? = some u := ⟨_, List.getElem?_eq_getElem (by rw [HN.out]; exact hlt)⟩
      obtain ⟨r0, r1, r2⟩ := (R1.kept B2).c k _ hu
      obtain ⟨s0, s1, s2⟩ := (R2.kept B2).c k _ hu
      simp only at r0 r1 r2 s0 s1 s2
      have hq := fun w => runit_neq x y z x y z w
      rw [show (!decide (x = x ∧ y = y ∧ z = z)) = false by simp] at hq
      have kk : (k : Int) < (N : Int) := by omega
      go_upto_region 6 with fail
      go_quiet (fail)
      go_wp2
      go_roundw
      case rel => exact ⟨k + 1, by omega, by go_num, bdrewN B2 _⟩
      case measure => simp [intOf]; omega
    · obtain rfl : k = N := by omega
      have kk : decide ((k : Int) < (k : Int)) = false := decide_eq_false (by omega)
      go_wp2
      go_ret
      exact ⟨rfl, B2⟩

set_option maxRecDepth 100000 in
theorem rsame_nil (p1 p2 : Option Addr) (c1 c2 : Nat) (w : World) : Calls Tryz.prog 21 #[.slice p1 0 c1, .slice p2 0 c2] w fun e w' => e = .returned (.bool true) ∧ Below w.heap.size w w' := by
  go_enter Tryz.func21, Tryz.ntmps21
  go_wp2
  refine wp_loop_rounds 1 ?_
  rw [rounds_succ]
  go_wp2
  go_ret
  exact ⟨rfl, Below.refl _ _⟩

theorem rsame_any (l : List U3) (a b : Value) (w : World) (N1 : l.length ≤ 1000000) (R1 : ULst w a l) (R2 : ULst w b l) :
    Calls Tryz.prog 21 #[a, b] w fun e w' => e = .returned (.bool true) ∧ Below w.heap.size w w' := by
  rcases R1.o with ⟨h1, rfl⟩ | ⟨g1, o1, c1, rfl, q1⟩
  · rcases R2.o with ⟨_, rfl⟩ | ⟨g2, o2, c2, rfl, q2⟩
    · exact rsame_nil _ _ _ _ _
    · subst h1; exact rsame_nil _ _ _ _ _
  · rcases R2.o with ⟨h2, rfl⟩ | ⟨g2, o2, c2, rfl, q2⟩
    · subst h2; exact rsame_nil _ _ _ _ _
    · exact rsame_u g1 g2 o1 o2 l.length c1 c2 l w rfl N1 q1 q2

end Go.Proofs.YtkfogmaogfgcgaaGreatDoor.Rf

