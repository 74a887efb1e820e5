/- Rows of places that a stable sort turns; the exchange of two stretches, and rotation. -/
import Derived.Test.YtodpmdmfdnbehabChecked
import Derived.Test.YtodpmdmfdnbehabOmath
import Derived.Test.YtodpmdmfdnbehabRowk
import Derived.BigRegion
import Derived.IntWalk
namespace Go.Proofs.Ytodpmdmfdnbehab.Os
set_option linter.unusedSimpArgs false
set_option linter.unusedVariables false
open Go.RowKit Go.Proofs.Ytodpmdmfdnbehab.Pr Go.Proofs.Ytodpmdmfdnbehab.Rk Go.Proofs.Ytodpmdmfdnbehab.Sm Go.Proofs.Ytodpmdmfdnbehab.Om

set_option maxHeartbeats 1000000

theorem row_congr {W : World} {g n : Nat} {f f' : Nat → Int} (p : Row W g n f) (h : ∀ i, i < n → f i = f' i) : Row W g n f' :=
  ⟨p.lt, fun i hi => by rw [← h i hi]; exact p.c i hi, p.fz⟩

/-- the places f lie in block g; below block B all is as in Wb -/
structure St (B : Nat) (Wb W : World) (g n : Nat) (f : Nat → Nat) : Prop where
  row : Row W g n (fun i => (f i : Int))
  below : Below B Wb W
  bg : B ≤ g
  bd : ∀ i, i < n → f i < n
section
variable {B : Nat} {Wb W : World} {g n : Nat} {f : Nat → Nat}
theorem St.drewN (x : St B Wb W g n f) (k : Nat) : St B Wb (W.drewN k) g n f :=
  ⟨⟨x.row.lt, x.row.c, x.row.fz⟩, ⟨x.below.os, x.below.tape, x.below.output, x.below.size, x.below.block⟩, x.bg, x.bd⟩
theorem St.drew (x : St B Wb W g n f) : St B Wb W.drew g n f :=
  ⟨⟨x.row.lt, x.row.c, x.row.fz⟩, ⟨x.below.os, x.below.tape, x.below.output, x.below.size, x.below.block⟩, x.bg, x.bd⟩
theorem St.swap (x : St B Wb W g n f) {i j : Nat} (hi : i < n) (hj : j < n) (ne : i ≠ j) {u v : Int} (hu : u = (f j : Int)) (hv : v = (f i : Int)) :
    St B Wb ((W.setCell ⟨g, i, none⟩ (.int .i64 u)).setCell ⟨g, j, none⟩ (.int .i64 v)) g n (sw f i j) := by
  subst hu hv
  refine ⟨row_congr ((x.row.set _ hi).set _ hj) (fun k hk => ?_), (x.below.setCell (by simpa using x.bg) _).setCell (by simpa using x.bg) _, x.bg, fun k hk => ?_⟩
  · unfold sw
    by_cases c1 : k = i
    · subst c1; simp [ne]
    · by_cases c2 : k = j
      · subst c2; rw [if_pos rfl, if_neg c1, if_pos rfl]
      · rw [if_neg c2, if_neg c1, if_neg c1, if_neg c2]
  · unfold sw
    split
    · exact x.bd j hj
    · split
      · exact x.bd i hi
      · exact x.bd k hk
theorem St.c1 (x : St B Wb W g n f) {i : Nat} (hi : i < n) : W.cell? ⟨g, i, none⟩ = some (.int .i64 (f i)) := x.row.c i hi
theorem St.f1 (x : St B Wb W g n f) {i : Nat} (hi : i < n) : W.frozen? ⟨g, i, none⟩ = false := x.row.fz i hi
theorem St.c2 (x : St B Wb W g n f) {i j : Nat} (hj : j < n) (ne : i ≠ j) (v : Value) : (W.setCell ⟨g, i, none⟩ v).cell? ⟨g, j, none⟩ = some (.int .i64 (f j)) := by
  rw [World.cell?_setCell_other _ _ _ _ (by intro e; simp only [Addr.mk.injEq] at e; omega)]; exact x.c1 hj
end

theorem swapRange_go (B g n cap a b m : Nat) (f : Nat → Nat) (Wb w : World) (K : Value) (S : St B Wb w g n f) (h1 : a + m ≤ b) (h2 : b + m ≤ n) (hn : n ≤ 1000000) :
    Calls Try.prog 72 #[.slice (some ⟨g, 0, none⟩) n cap, .int .i64 a, .int .i64 b, .int .i64 m, K] w fun e w' => e = .returned (.tuple #[]) ∧ St B Wb w' g n (sr f a b m) := by
  go_enter Try.func72, Try.ntmps72
  go_wp2
  go_loopw [10] (fun x wr => ∃ k : Nat, k ≤ m ∧ x = .int .i64 k ∧ St B Wb wr g n (sr f a b k)) (fun x _ => m - (intOf x).toNat)
  case atStart => exact ⟨0, by omega, rfl, by rw [sr_zero]; exact S⟩
  case round =>
    clear S
    obtain ⟨k, hk, rfl, X⟩ := hrel
    by_cases hlt : k < m
    · obtain ⟨p, hp⟩ : ∃ p, p = a + k := ⟨_, rfl⟩
      obtain ⟨q, hq⟩ : ∃ q, q = b + k := ⟨_, rfl⟩
      obtain ⟨u, hu⟩ : ∃ u : Int, u = (sr f a b k q : Int) := ⟨_, rfl⟩
      obtain ⟨v, hv⟩ : ∃ v : Int, v = (sr f a b k p : Int) := ⟨_, rfl⟩
      have X2 := X.swap (i := p) (j := q) (by omega) (by omega) (by omega) hu hv
      rw [hp, hq, sr_succ f (by omega), ← hp, ← hq] at X2
      have c1 := X.c1 (i := p) (by omega)
      have c2 := X.c1 (i := q) (by omega)
      have c3 := X.c2 (i := p) (j := q) (by omega) (by omega) (.int .i64 u)
      have f1 := X.f1 (i := p) (by omega)
      have f2 := X.f1 (i := q) (by omega)
      rw [← hv] at c1
      rw [← hu] at c2 c3
      have ep : ((a : Int) + (k : Int)).toNat = p := by omega
      have pp : (0 : Int) ≤ (a : Int) + (k : Int) := by omega
      have bp : (a : Int) + (k : Int) < (n : Int) := by omega
      have rp : IntKind.i64.wrap ((a : Int) + (k : Int)) = (a : Int) + (k : Int) := IntWalk.i64_in _ (by omega)
      have eq : ((b : Int) + (k : Int)).toNat = q := by omega
      have pq : (0 : Int) ≤ (b : Int) + (k : Int) := by omega
      have bq : (b : Int) + (k : Int) < (n : Int) := by omega
      have rq : IntKind.i64.wrap ((b : Int) + (k : Int)) = (b : Int) + (k : Int) := IntWalk.i64_in _ (by omega)
      clear hu hv hp hq X
      go_wp2_with fail
      go_region
      go_wp2
      go_roundw
      case rel => exact ⟨k + 1, by omega, by go_num, X2.drew⟩
      case measure => simp [intOf]; omega
    · obtain rfl : k = m := by omega
      go_wp2
      exact bodyPost_end (v := .tuple #[]) (by simp [results, Try.results72, go_sem]) rfl ⟨rfl, X⟩

end Go.Proofs.Ytodpmdmfdnbehab.Os
