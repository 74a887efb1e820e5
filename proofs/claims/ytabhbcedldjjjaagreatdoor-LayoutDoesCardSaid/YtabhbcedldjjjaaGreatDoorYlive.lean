/- live of layer 9; what the laws ask of texts. -/
import Derived.Test.YtabhbcedldjjjaaGreatDoorYparse
import Derived.Test.YtabhbcedldjjjaaGreatDoorJYa
import Derived.OpenShut
namespace Go.Proofs.YtabhbcedldjjjaaGreatDoor.Yl
set_option linter.unusedSimpArgs false
set_option linter.unusedVariables false
open Go.RowKit Go.Proofs.YtabhbcedldjjjaaGreatDoor.Bn Go.Proofs.YtabhbcedldjjjaaGreatDoor.Zm Go.Proofs.YtabhbcedldjjjaaGreatDoor.Zr Go.Proofs.YtabhbcedldjjjaaGreatDoor.Zp Go.Proofs.YtabhbcedldjjjaaGreatDoor.Zk Go.Proofs.YtabhbcedldjjjaaGreatDoor.Ym Go.Proofs.YtabhbcedldjjjaaGreatDoor.Yp

set_option maxHeartbeats 2000000

theorem by_append (a b : ByteArray) : by_ (a ++ b) = by_ a ++ by_ b := by
  show (a ++ b).data.toList = _
  rw [ByteArray.data_append]; simp [by_]
/-- two texts together -/
theorem sum_two (a b : ByteArray) (ha : a.size ≤ 1000000) (hb : b.size ≤ 1000000) : ∃ u : ByteArray, by_ u = by_ a ++ by_ b ∧ u.size = a.size + b.size ∧ ∀ w, (Op.stringOp .add a b).run Tryz.prog w = .ok (.string u) w :=
  ⟨a ++ b, by_append a b, ByteArray.size_append, fun w => run_string_add_sum w _ _ (by omega)⟩
theorem slice_to (s : ByteArray) (b : Nat) (hb : b ≤ s.size) : ∃ t : ByteArray, by_ t = (by_ s).take b ∧ t.size = b ∧
    ∀ w, (Instr.slice 9 (.string s) none (some (.int .i64 (b : Int))) none).run Tryz.prog w = .ok (.string t) w := by
  refine ⟨s.extract 0 b, ?_, ?_, fun w => ?_⟩
  · rw [by_extract s 0 b (by omega) hb, List.drop_zero]
  · rw [ByteArray.size_extract]; omega
  · rw [run_slice_string_to_if _ _ _ _ _ Tryz.underlying9, if_pos ⟨by omega, by omega⟩]; simp

theorem parseR_small {s : ByteArray} (h : s.size ≤ 65536) : parseR s = parse (by_ s) := by rw [parseR, if_neg (by omega)]
theorem run_er {l : List Tk} {r : Rd} {er q : Nat} (h : run l r = .error (er, q)) : er = 5 ∨ er = 6 ∨ er = 7 := by
  induction l generalizing r with
  | nil => cases h
  | cons t l ih =>
    simp only [run] at h
    cases e : take r t with
    | error c => rw [e] at h; injection h with h; injection h with h1 h2; subst h1; exact take_err e
    | ok r' => rw [e] at h; exact ih h
theorem parseR_er {s : ByteArray} {er q : Nat} (h : parseR s = .error (er, q)) : er = 5 ∨ er = 6 ∨ er = 7 := by
  cases hc : cutR s with
  | error x =>
    rw [parseR_cut hc] at h
    injection h with h
    subst h
    rcases cut_er hc with h | h <;> omega
  | ok a =>
    rw [parseR_run hc] at h
    cases hr : run a Ym.start with
    | error x => rw [hr] at h; injection h with h; subst h; exact run_er hr
    | ok r =>
      rw [hr] at h
      simp only at h
      split at h
      · cases h
      · injection h with h; injection h with h1 h2; omega
theorem parseR_cut_ok {s : ByteArray} {l : List Nd} (h : parseR s = .ok l) : ∃ a, cutR s = .ok a := by
  cases hc : cutR s with
  | error x => rw [parseR_cut hc] at h; cases h
  | ok a => exact ⟨a, rfl⟩

/-- an item's cells -/
theorem nd_un {S : Nat → Prop} {W : World} {g o : Nat} {nm : List UInt8} {a : Nat} {ws : List Wd} {b : Bool} {ks : List Nd} (h : NdAt S W g o (.mk nm a ws b ks)) :
    S g ∧ W.cell? ⟨g, o, none⟩ = some (.string ⟨nm.toArray⟩) ∧ W.cell? ⟨g, o + 1, none⟩ = some (.int .i64 a) ∧ (∃ v, W.cell? ⟨g, o + 2, none⟩ = some v ∧ WdsV S W v ws) ∧ W.cell? ⟨g, o + 3, none⟩ = some (.bool b) ∧
    ∃ v, W.cell? ⟨g, o + 4, none⟩ = some v ∧ NdsV S W v ks := by
  simp only [NdAt] at h
  obtain ⟨h0, h1, h2, h3, h4, p, c, h5, h6⟩ := h
  exact ⟨h0, h1, h2, h3, h4, _, h5, p, c, rfl, h6⟩

end Go.Proofs.YtabhbcedldjjjaaGreatDoor.Yl
