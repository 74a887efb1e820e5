/- What digitsOf of package label comes to. -/
import Derived.Test.YtfjckgnclhpmcaaDoorNlaw2
import Derived.Test.YtfjckgnclhpmcaaDoorChecked
import Derived.Test.YtfjckgnclhpmcaaDoorPairs
import Derived.Laws.IdiomStrings
import Derived.Lib.Hide
import Derived.Deep.AppendLies
import Derived.OwnWalk
import Derived.OneCell
namespace Go.Proofs.YtfjckgnclhpmcaaDoor.Np
set_option linter.unusedSimpArgs false
set_option linter.unusedVariables false
open Go.RowKit Go.Proofs.YtfjckgnclhpmcaaDoor.Pr Go.Proofs.YtfjckgnclhpmcaaDoor.Tm

set_option maxHeartbeats 1000000

def rdig (n : Int) : Nat → List UInt8
  | 0 => []
  | j + 1 => dg (n / 10 ^ j % 10) :: rdig n j
theorem rdig_len (n : Int) (j : Nat) : (rdig n j).length = j := by
  induction j with
  | zero => rfl
  | succ j ih => simp [rdig, ih]
theorem rdig_next {n q : Int} {j : Nat} (h : q = n / 10 ^ j) : q / 10 = n / 10 ^ (j + 1) := by
  rw [h, Int.pow_succ]
  exact Int.ediv_ediv_of_nonneg (Int.le_of_lt (Int.pow_pos (by omega)))
theorem rdig_4 {n : Int} (h0 : 0 ≤ n) (h1 : n ≤ 9999) : (⟨(rdig n 4).toArray⟩ : ByteArray) = s4 n := by
  have e : rdig n 4 = [dg (n / 1000), dg (n / 100 % 10), dg (n / 10 % 10), dg (n % 10)] := by
    show [dg (n / 10 ^ 3 % 10), dg (n / 10 ^ 2 % 10), dg (n / 10 ^ 1 % 10), dg (n / 10 ^ 0 % 10)] = _
    rw [show n / 10 ^ 3 % 10 = n / 1000 by omega, show n / 10 ^ 2 % 10 = n / 100 % 10 by omega, show n / 10 ^ 1 % 10 = n / 10 % 10 by omega, show n / 10 ^ 0 % 10 = n % 10 by omega]
  rw [e]; rfl
theorem rdig_2 {n : Int} (h0 : 0 ≤ n) (h1 : n ≤ 99) : (⟨(rdig n 2).toArray⟩ : ByteArray) = s2 n := by
  have e : rdig n 2 = [dg (n / 10), dg (n % 10)] := by
    show [dg (n / 10 ^ 1 % 10), dg (n / 10 ^ 0 % 10)] = _
    rw [show n / 10 ^ 1 % 10 = n / 10 by omega, show n / 10 ^ 0 % 10 = n % 10 by omega]
  rw [e]; rfl
theorem rdig_1 {n : Int} (h0 : 0 ≤ n) (h1 : n ≤ 9) : (⟨(rdig n 1).toArray⟩ : ByteArray) = s1 n := by
  have e : rdig n 1 = [dg n] := by
    show [dg (n / 10 ^ 0 % 10)] = _
    rw [show n / 10 ^ 0 % 10 = n by omega]
  rw [e]; rfl


/-- a row of bytes that lies in block g, of n places -/
structure BRow (W : World) (g n : Nat) (f : Nat → Int) : Prop where
  lt : g < W.heap.size
  c : ∀ i, i < n → W.cell? ⟨g, i, none⟩ = some (.int .u8 (f i))
  fz : ∀ i, i < n → W.frozen? ⟨g, i, none⟩ = false
theorem BRow.set {W : World} {g n : Nat} {f f' : Nat → Int} (p : BRow W g n f) {k : Nat} (v : Int) (hk : k < n) (h : ∀ i, i < n → f' i = if i = k then v else f i) : BRow (W.setCell ⟨g, k, none⟩ (.int .u8 v)) g n f' := by
  refine ⟨by simp; exact p.lt, fun i hi => ?_, fun i hi => by simp [go_sem, p.fz i hi]⟩
  rw [h i hi]
  by_cases e : i = k
  · subst e; simp [go_sem, p.c i hi]
  · rw [World.cell?_setCell_other] <;> simp [p.c i hi, e, go_sem]
theorem binfo : (Tryd.prog.info? 5).map (fun i => (i.zero, i.size, i.bytes)) = some (some (.int .u8 0), 1, 1) := by kernel_rfl
theorem make_bytes (n : Nat) (hn : n ≤ 255) :
    ∃ cs : Array Value, (∀ w, (Instr.makeSlice 37 (.int .i64 (n : Int)) (.int .i64 (n : Int))).run Tryd.prog w = .ok (.slice (some ⟨w.heap.size, 0, none⟩) n n) (w.alloc (.cells cs 5))) ∧ ∀ w : World, BRow (w.alloc (.cells cs 5)) w.heap.size n (fun _ => 0) := by
  obtain ⟨i, hi, hz0, hz1, hz2⟩ := info_parts binfo
  have e1 : (n : Int).toNat = n := by omega
  refine ⟨madeCells #[.int .u8 0] n, fun w => ?_, fun w => ⟨by simp, fun i hi => ?_, fun i hi => by simp [go_sem]⟩⟩
  · have h := run_make (P := Tryd.prog) (w := w) 37 5 i (.int .u8 0) Tryd.underlying37 hi hz0 .i64 .i64 n n (by omega) (by omega) (by rw [hz2]; omega) (by omega)
    rw [e1, hz1, Nat.mul_one] at h
    exact h
  · have : (madeCells #[Value.int .u8 0] n)[i]? = some (.int .u8 0) := by
      rw [← Array.getElem?_toList, toList_madeCells_one]
      simp [hi]
    simp [go_sem, this]

theorem rdig_at (n : Int) (m j : Nat) (h : j < (rdig n m).length) : (rdig n m)[j] = dg (n / 10 ^ (m - 1 - j) % 10) := by
  induction m generalizing j with
  | zero => simp [rdig] at h
  | succ m ih =>
    match j, h with
    | 0, _ => simp [rdig]
    | j + 1, h =>
      have h' : j < (rdig n m).length := by simpa [rdig] using h
      have := ih j h'
      simp only [rdig, List.getElem_cons_succ]
      rw [this]
      rw [show m + 1 - 1 - (j + 1) = m - 1 - j by omega]

/-- what stands at the places behind which j digits have been laid -/
def laid (n : Int) (m j k : Nat) : Int := if m ≤ k + j then 48 + n / 10 ^ (m - 1 - k) % 10 else 0

set_option maxRecDepth 100000 in
theorem ldig_any (n : Int) (m : Nat) (w : World) (n0 : 0 ≤ n) (n1 : n ≤ 9999) (hm : m ≤ 4) :
    Calls Tryd.prog 21 #[.int .i64 n, .int .i64 m] w fun e w' => e = .returned (.string ⟨(rdig n m).toArray⟩) ∧ Below w.heap.size w w' := by
  obtain ⟨cs, hmk, hrow⟩ := make_bytes m (by omega)
  have R0 := hrow w
  have mk := hmk w
  clear hmk hrow
  have RR : BRow (w.alloc (.cells cs 5)) w.heap.size m (laid n m 0) := ⟨R0.lt, fun i hi => by rw [R0.c i hi]; unfold laid; rw [if_neg (by omega)], R0.fz⟩
  clear R0
  go_enter Tryd.func21, Tryd.ntmps21
  go_wp2
  go_loopw [0, 6] (fun N I wr => ∃ (j : Nat) (q x : Int), j ≤ m ∧ I = .int .i64 x ∧ Hid (x = (m : Int) - 1 - j) ∧ N = .int .i64 q ∧ 0 ≤ q ∧ q ≤ 9999 ∧ Hid (q = n / 10 ^ j) ∧ BRow wr w.heap.size m (laid n m j) ∧ Below w.heap.size w wr) (fun _ I _ => (intOf I + 1).toNat)
  case atStart => exact ⟨0, n, _, by omega, rfl, Lib.hid (by omega), rfl, n0, n1, Lib.hid (by simp), RR, balloc (Below.refl _ _) _⟩
  case round =>
    clear RR mk
    obtain ⟨j, q, x, j0, rfl, hx, rfl, q0, q1, hq, RR, hb⟩ := hrel
    by_cases hlt : j < m
    · obtain ⟨k, hk, hkm⟩ : ∃ k : Nat, (k : Int) = x ∧ k + j + 1 = m := ⟨x.toNat, by have := hx.out; omega, by have := hx.out; omega⟩
      subst hk
      obtain ⟨r, hr⟩ : ∃ r, q % 10 = r := ⟨_, rfl⟩
      have r0 : 0 ≤ r := by omega
      have r1 : r ≤ 9 := by omega
      have km : k < m := by omega
      have bp : (k : Int) < (m : Int) := by omega
      have pp : (0 : Int) ≤ (k : Int) := by omega
      have kc := RR.c k km
      have kf := RR.fz k km
      have N2 : Hid (BRow (wr.setCell ⟨w.heap.size, k, none⟩ (.int .u8 (48 + r))) w.heap.size m (laid n m (j + 1))) := Lib.hid (RR.set _ km (fun i hi => by
        unfold laid
        by_cases e : i = k
        · subst e
          rw [if_pos (by omega), if_pos rfl, ← hr, hq.out, show m - 1 - i = j by omega]
        · rw [if_neg e]
          by_cases c : m ≤ i + j
          · rw [if_pos c, if_pos (by omega)]
          · rw [if_neg c, if_neg (by omega)]))
      generalize laid n m j k = old at kc
      clear RR hkm j0
      go_wp2
      go_roundw
      case rel => exact ⟨j + 1, q / 10, _, by omega, rfl, Lib.hid (by have := hx.out; omega), rfl, by omega, by omega, Lib.hid (rdig_next hq.out), N2.out, bset hb (Nat.le_refl _) _ _⟩
      case measure => simp [intOf] <;> omega
    · obtain rfl : j = m := by omega
      obtain rfl : x = -1 := by have := hx.out; omega
      have hconv : (convert 37 9 (.slice (some ⟨w.heap.size, 0, none⟩) j j)).run Tryd.prog wr = .ok (.string ⟨(rdig n j).toArray⟩) wr := by
        have h := run_convert_bytes_back (P := Tryd.prog) wr 37 9 5 ⟨w.heap.size, 0, none⟩ j (rdig n j) Tryd.underlying37 Tryd.underlying5 Tryd.underlying9 (fun i hi => by
          have hi' : i < j := by rwa [rdig_len] at hi
          have e := RR.c i hi'
          rw [rdig_at, dg_val (by omega) (by omega)]
          unfold laid at e
          rw [if_pos (by omega)] at e
          simpa [go_sem] using e)
        rw [rdig_len] at h
        exact h
      clear RR
      go_wp2
      go_ret
      exact ⟨rfl, hb⟩

theorem ldig4 (n : Int) (w : World) (h0 : 0 ≤ n) (h1 : n ≤ 9999) : Calls Tryd.prog 21 #[.int .i64 n, .int .i64 4] w fun e w' => e = .returned (.string (s4 n)) ∧ Below w.heap.size w w' := by
  rw [← rdig_4 h0 h1]; exact ldig_any n 4 w h0 h1 (by omega)
theorem ldig2 (n : Int) (w : World) (h0 : 0 ≤ n) (h1 : n ≤ 99) : Calls Tryd.prog 21 #[.int .i64 n, .int .i64 2] w fun e w' => e = .returned (.string (s2 n)) ∧ Below w.heap.size w w' := by
  rw [← rdig_2 h0 h1]; exact ldig_any n 2 w h0 (by omega) (by omega)
theorem ldig1 (n : Int) (w : World) (h0 : 0 ≤ n) (h1 : n ≤ 9) : Calls Tryd.prog 21 #[.int .i64 n, .int .i64 1] w fun e w' => e = .returned (.string (s1 n)) ∧ Below w.heap.size w w' := by
  rw [← rdig_1 h0 h1]; exact ldig_any n 1 w h0 (by omega) (by omega)
theorem ldig0 (n : Int) (w : World) (h0 : 0 ≤ n) (h1 : n ≤ 9999) : Calls Tryd.prog 21 #[.int .i64 n, .int .i64 0] w fun e w' => e = .returned (.string ⟨#[]⟩) ∧ Below w.heap.size w w' := ldig_any n 0 w h0 h1 (by omega)

end Go.Proofs.YtfjckgnclhpmcaaDoor.Np
