/- Texts that are joined: Cref, Ccode, Ccode2, Ftab, Fnt. -/
import Derived.Test.YtnjmokmlnpehdaaGreatDoorChecked
import Derived.Test.YtnjmokmlnpehdaaGreatDoorJK
import Derived.Test.YtnjmokmlnpehdaaGreatDoorJP
import Derived.Test.YtnjmokmlnpehdaaGreatDoorJFa
namespace Go.Proofs.YtnjmokmlnpehdaaGreatDoor.Cr
set_option linter.unusedSimpArgs false
set_option linter.unusedVariables false
open Go.RowKit Go.Proofs.YtnjmokmlnpehdaaGreatDoor.Bx Go.Proofs.YtnjmokmlnpehdaaGreatDoor.Cm

set_option maxHeartbeats 400000

/-- is it a leap year that the calendar has? -/
def leapB (y : Int) : Bool := decide (1600 ≤ y) && decide (y ≤ 9999) && lpB y

theorem leap_in {y : Int} (h0 : 1600 ≤ y) (h1 : y ≤ 9999) : lp y = if leapB y = true then 1 else 0 := by
  rw [lp_of]; unfold leapB; simp [h0, h1]

end Go.Proofs.YtnjmokmlnpehdaaGreatDoor.Cr

namespace Go.Proofs.YtnjmokmlnpehdaaGreatDoor.Cp
set_option linter.unusedSimpArgs false
set_option linter.unusedVariables false
open Go.RowKit Go.Proofs.YtnjmokmlnpehdaaGreatDoor.Bx Go.Proofs.YtnjmokmlnpehdaaGreatDoor.Cm
open Go.Proofs.YtnjmokmlnpehdaaGreatDoor.Cr (leapB leap_in)

set_option maxHeartbeats 1000000

theorem quiet_same {P : Program} {f : FuncId} {args : Array Value} {w : World} {n : Nat} {v : Value}
    (h : Calls P f args (w.drewN n) fun e w' => e = .returned v ∧ w.drewN n = w') :
    Calls P f args (w.drewN n) fun e w' => e = .returned v ∧ ∃ m, w' = w.drewN m :=
  h.mono fun _ _ ⟨h1, h2⟩ => ⟨h1, n, h2.symm⟩

end Go.Proofs.YtnjmokmlnpehdaaGreatDoor.Cp

namespace Go.Proofs.YtnjmokmlnpehdaaGreatDoor.Cp
set_option linter.unusedSimpArgs false
set_option linter.unusedVariables false
open Go.RowKit Go.Proofs.YtnjmokmlnpehdaaGreatDoor.Bx Go.Proofs.YtnjmokmlnpehdaaGreatDoor.Cm
open Go.Proofs.YtnjmokmlnpehdaaGreatDoor.Cr (leapB leap_in)

set_option maxHeartbeats 1000000

theorem firstOf_eq {y : Int} : 365 * (y - 1600) + (y - 1600 + 3) / 4 - (y - 1600 + 99) / 100 + (y - 1600 + 399) / 400 = dby y := by unfold dby; omega

/-- the year by the middling length, or the one behind it -/
theorem yearOf_eq {n y q : Int} (n0 : 0 ≤ n) (hq : (n + 1) * 400 / 146097 = q) (ya : dby y ≤ n) (yb : n < dby (y + 1)) :
    (1600 + q = y ∧ dby (1600 + q) ≤ n) ∨ (1600 + q - 1 = y ∧ n < dby (1600 + q)) := by
  have a1 : n < dby (1600 + q + 1) := by unfold dby; omega
  have a2 : dby (1600 + q - 1) ≤ n := by unfold dby; omega
  have b1 : 1600 + q - 1 ≤ y := dby_lt (n := n) a2 yb
  have b2 : y ≤ 1600 + q := dby_lt (n := n) ya a1
  by_cases c : dby (1600 + q) ≤ n
  · have := dby_lt (n := n) (a := 1600 + q) c yb
    exact .inl ⟨by omega, c⟩
  · by_cases e : y = 1600 + q
    · subst e; exact absurd ya c
    · exact .inr ⟨by omega, by omega⟩

theorem ret_two {k1 k2 : IntKind} {a b c d : Int} (h1 : a = c) (h2 : b = d) : Ending.returned (.tuple #[.int k1 a, .int k2 b]) = Ending.returned (.tuple #[.int k1 c, .int k2 d]) := by rw [h1, h2]

/-! the same, each with what became of the world; each asks for the table, so that all are used alike -/
end Go.Proofs.YtnjmokmlnpehdaaGreatDoor.Cp

namespace Go.Proofs.YtnjmokmlnpehdaaGreatDoor.Fp
set_option linter.unusedSimpArgs false
set_option linter.unusedVariables false
open Go.RowKit Go.Proofs.YtnjmokmlnpehdaaGreatDoor.Cp

/-- a variable's cell holds a slice of n elements -/
def Held (g n : Nat) (W : World) : Prop := ∃ a cap, g < W.heap.size ∧ W.cell? ⟨g, 0, none⟩ = some (.slice (some a) n cap)
/-- .. whose cells are these numbers -/
def HeldInts (g n : Nat) (l : List Int) (W : World) : Prop :=
  ∃ b o cap, g < W.heap.size ∧ b < W.heap.size ∧ W.cell? ⟨g, 0, none⟩ = some (.slice (some ⟨b, o, none⟩) n cap) ∧ ∀ i v, l[i]? = some v → W.cell? ⟨b, o + i, none⟩ = some (.int .i64 v)
theorem Held.kept {g n : Nat} {W w1 : World} (p : Held g n W) (hb : Below W.heap.size W w1) : Held g n w1 := by
  obtain ⟨a, cap, h, c⟩ := p
  exact ⟨a, cap, Nat.lt_of_lt_of_le h hb.size, (hb.cell (p := ⟨g, 0, none⟩) h).trans c⟩
theorem HeldInts.kept {g n : Nat} {l : List Int} {W w1 : World} (p : HeldInts g n l W) (hb : Below W.heap.size W w1) : HeldInts g n l w1 := by
  obtain ⟨b, o, cap, h, h2, c, q⟩ := p
  exact ⟨b, o, cap, Nat.lt_of_lt_of_le h hb.size, Nat.lt_of_lt_of_le h2 hb.size, (hb.cell (p := ⟨g, 0, none⟩) h).trans c, fun i v e => (hb.cell (p := ⟨b, o + i, none⟩) h2).trans (q i v e)⟩

/-- all of them -/
structure FTab (W : World) : Prop where
  day : Held 2 7 W
  mon : Held 3 12 W
  pol : Held 1 4 W
  pat : HeldInts 6 3 [5, 4, 4, 4, 5, 4, 4, 4, 5] W
  cyc : HeldInts 7 3 [1, 2, 4] W
theorem FTab.kept {W w1 : World} (p : FTab W) (hb : Below W.heap.size W w1) : FTab w1 :=
  ⟨p.day.kept hb, p.mon.kept hb, p.pol.kept hb, p.pat.kept hb, p.cyc.kept hb⟩
theorem FTab.alloc {W : World} (p : FTab W) (o : Obj) : FTab (W.alloc o) := p.kept ((Below.refl _ _).alloc (Nat.le_refl _) o)

end Go.Proofs.YtnjmokmlnpehdaaGreatDoor.Fp

namespace Go.Proofs.YtnjmokmlnpehdaaGreatDoor.Fp
set_option linter.unusedSimpArgs false
set_option linter.unusedVariables false
open Go Go.RowKit Go.Proofs.YtnjmokmlnpehdaaGreatDoor.Cp Go.Proofs.YtnjmokmlnpehdaaGreatDoor.Fm

/-- a slice of texts that lie in the world -/
def StrsAt (W : World) (b o : Nat) (l : List ByteArray) : Prop := b < W.heap.size ∧ ∀ i v, l[i]? = some v → W.cell? ⟨b, o + i, none⟩ = some (.string v)
theorem StrsAt.kept {W w1 : World} {b o : Nat} {l : List ByteArray} (p : StrsAt W b o l) (hb : Below W.heap.size W w1) : StrsAt w1 b o l :=
  ⟨Nat.lt_of_lt_of_le p.1 hb.size, fun i v e => (hb.cell (p := ⟨b, o + i, none⟩) p.1).trans (p.2 i v e)⟩
/-- a variable's cell holds a slice of these texts -/
def HeldStrs (g : Nat) (l : List ByteArray) (W : World) : Prop :=
  ∃ b o cap, g < W.heap.size ∧ W.cell? ⟨g, 0, none⟩ = some (.slice (some ⟨b, o, none⟩) l.length cap) ∧ StrsAt W b o l
theorem HeldStrs.kept {g : Nat} {l : List ByteArray} {W w1 : World} (p : HeldStrs g l W) (hb : Below W.heap.size W w1) : HeldStrs g l w1 := by
  obtain ⟨b, o, cap, h, c, q⟩ := p
  exact ⟨b, o, cap, Nat.lt_of_lt_of_le h hb.size, (hb.cell (p := ⟨g, 0, none⟩) h).trans c, q.kept hb⟩
/-- all of them -/
structure NTab (W : World) : Prop where
  f : FTab W
  key : HeldStrs 4 keyN W
  ends : HeldStrs 5 endN W
  day : HeldStrs 2 dayN W
  mon : HeldStrs 3 monN W
  shi : HeldStrs 0 shiN W
  pol : HeldStrs 1 polN W
theorem NTab.kept {W w1 : World} (p : NTab W) (hb : Below W.heap.size W w1) : NTab w1 :=
  ⟨p.f.kept hb, p.key.kept hb, p.ends.kept hb, p.day.kept hb, p.mon.kept hb, p.shi.kept hb, p.pol.kept hb⟩
theorem NTab.alloc {W : World} (p : NTab W) (o : Obj) : NTab (W.alloc o) := p.kept ((Below.refl _ _).alloc (Nat.le_refl _) o)

end Go.Proofs.YtnjmokmlnpehdaaGreatDoor.Fp
