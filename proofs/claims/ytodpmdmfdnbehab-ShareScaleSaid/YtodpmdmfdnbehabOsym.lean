/- Merging of a stable sort, where one side has one place alone. -/
import Derived.Test.YtodpmdmfdnbehabOrot
namespace Go.Proofs.Ytodpmdmfdnbehab.Os
set_option linter.unusedSimpArgs false
set_option linter.unusedVariables false
open Go.RowKit Go.Proofs.Ytodpmdmfdnbehab.Pr Go.Proofs.Ytodpmdmfdnbehab.Rk Go.Proofs.Ytodpmdmfdnbehab.Sm Go.Proofs.Ytodpmdmfdnbehab.Om

set_option maxHeartbeats 1000000

/-- what a merge leaves -/
def Merged (B : Nat) (Wb : World) (g n : Nat) (r : Nat → Int) (f : Nat → Nat) (a b : Nat) (e : Ending) (w' : World) : Prop :=
  e = .returned (.tuple #[]) ∧ ∃ f', St B Wb w' g n f' ∧ Srt r f' a b ∧ Pm f f' a b

set_option maxRecDepth 100000 in
theorem sym_left (B g n cap a m b K : Nat) (c : Value) (r : Nat → Int) (f : Nat → Nat) (Wb w : World) (HC : CmpOk B n r Wb K #[c]) (S : St B Wb w g n f) (sr : Srt r f m b) (lo : Lo f a m b) (h1 : m = a + 1) (h2 : m < b) (h3 : b ≤ n) (hn : n ≤ 1000000) :
    Calls Try.prog 67 #[.slice (some ⟨g, 0, none⟩) n cap, .int .i64 a, .int .i64 m, .int .i64 b, .func (.func K) #[] #[c]] w (Merged B Wb g n r f a b) := by
  have hE := HC.1
  have HK := Lib.hid HC.2
  have HL := Lib.hid lo
  have HS := Lib.hid sr
  have t1 : ((m : Int) - (a : Int) == 1) = true := beq_iff_eq.2 (by omega)
  have HM := Lib.hid h1
  have m0 : a + 1 ≤ m := by omega
  have m1 : m ≤ a + 1 := by omega
  clear HC lo sr h1
  go_enter Try.func67, Try.ntmps67
  go_wp2
  go_loopw [10, 11] (fun x y wr => ∃ (i j : Nat), m ≤ i ∧ i ≤ j ∧ j ≤ b ∧ x = .int .i64 i ∧ y = .int .i64 j ∧ St B Wb wr g n f ∧ Hid ((m < i → Ahead r (f (i - 1)) (f a)) ∧ (j < b → Ahead r (f a) (f j)))) (fun x y _ => (intOf y).toNat - (intOf x).toNat)
  case atStart => exact ⟨m, b, by omega, by omega, by omega, rfl, rfl, S, Lib.hid ⟨fun h => by omega, fun h => by omega⟩⟩
  case round =>
    clear S t1
    obtain ⟨i, j, mi, ij, jb, rfl, rfl, X, H⟩ := hrel
    by_cases c1 : i < j
    · obtain ⟨h, hh⟩ : ∃ h : Nat, ((i : Int) + (j : Int)) / 2 = (h : Int) := ⟨(i + j) / 2, by omega⟩
      have h0 : i ≤ h := by omega
      have h1 : h < j := by omega
      obtain ⟨u, hu⟩ : ∃ u : Int, u = (f h : Int) := ⟨_, rfl⟩
      obtain ⟨v, hv⟩ : ∃ v : Int, v = (f a : Int) := ⟨_, rfl⟩
      obtain ⟨s, hs⟩ : ∃ s : Int, s = sg (r (f a)) (r (f h)) := ⟨_, rfl⟩
      have hc := fun q => HK.out wr X.below (f h) (f a) (X.bd h (by omega)) (X.bd a (by omega)) q
      rw [← hu, ← hv, ← hs] at hc
      simp only [List.append_toArray, List.cons_append, List.nil_append] at hc
      have k1 := X.c1 (i := h) (by omega)
      have k2 := X.c1 (i := a) (by omega)
      rw [← hu] at k1
      rw [← hv] at k2
      have pp : (0 : Int) ≤ (h : Int) := by omega
      have bp : (h : Int) < (n : Int) := by omega
      have pq : (0 : Int) ≤ (a : Int) := by omega
      have bq : (a : Int) < (n : Int) := by omega
      have fl := HL.out a h (Nat.le_refl _) (by omega) (by omega) (by omega)
      by_cases lt : r (f a) < r (f h)
      · have d1 : decide (s < 0) = true := decide_eq_true (by rw [hs]; exact sg_neg.2 lt)
        have HX := Lib.hid X
        have HI : Hid ((m < h + 1 → Ahead r (f (h + 1 - 1)) (f a)) ∧ (j < b → Ahead r (f a) (f j))) := Lib.hid ⟨fun _ => (ahead_lt fl).2 lt, H.out.2⟩
        have HH := Lib.hid hh
        clear X H hu hv hs lt fl
        go_wp2_with fail
        go_quiet ((exact hc _))
        have X2 := HX.out.drewN nq
        clear k1 k2 hc HX hh
        generalize wr.drewN nq = W2 at X2 ⊢
        go_wp2
        go_roundw
        case rel => exact ⟨h + 1, j, by omega, by omega, by omega, by go_num, rfl, X2, HI⟩
        case measure => simp [intOf] <;> omega
      · have d1 : decide (s < 0) = false := decide_eq_false (by rw [hs]; exact fun e => lt (sg_neg.1 e))
        have HX := Lib.hid X
        have HI : Hid ((m < i → Ahead r (f (i - 1)) (f a)) ∧ (h < b → Ahead r (f a) (f h))) := Lib.hid ⟨H.out.1, fun _ => ahead_ge fl lt⟩
        clear X H hu hv hs lt fl
        go_wp2_with fail
        go_quiet ((exact hc _))
        have X2 := HX.out.drewN nq
        clear k1 k2 hc HX hh
        generalize wr.drewN nq = W2 at X2 ⊢
        go_wp2
        go_roundw
        case rel => exact ⟨i, h, by omega, by omega, by omega, rfl, rfl, X2, HI⟩
        case measure => simp [intOf] <;> omega
    · obtain rfl : i = j := by omega
      have ol := one_left (r := r) (f := f) (a := a) (i := i) (b := b) (by rw [← HM.out]; exact HS.out) (by omega) jb (by rw [← HM.out]; exact H.out.1) H.out.2
      have HO := Lib.hid ol
      have q1 : IntKind.i64.wrap ((i : Int) - 1) = (i : Int) - 1 := IntWalk.i64_in _ (by omega)
      clear ol H
      go_wp2
      go_loopw [13] (fun x wr => ∃ (k : Nat) (fk : Nat → Nat), a ≤ k ∧ k + 1 ≤ i ∧ x = .int .i64 k ∧ St B Wb wr g n fk ∧ Hid (fk = rot f a (a + 1) (k + 1))) (fun x _ => i - (intOf x).toNat)
      case atStart => exact ⟨a, f, by omega, by omega, rfl, X, Lib.hid (rot_none_r f (by omega)).symm⟩
      case round =>
        clear X
        obtain ⟨k, fk, ak, ki, rfl, X, H⟩ := hrel
        by_cases c2 : k + 1 < i
        · obtain ⟨p, hp⟩ : ∃ p, p = k + 1 := ⟨_, rfl⟩
          obtain ⟨u, hu⟩ : ∃ u : Int, u = (fk p : Int) := ⟨_, rfl⟩
          obtain ⟨v, hv⟩ : ∃ v : Int, v = (fk k : Int) := ⟨_, rfl⟩
          have k1 := X.c1 (i := k) (by omega)
          have k2 := X.c1 (i := p) (by omega)
          have k3 := X.c2 (i := k) (j := p) (by omega) (by omega) (.int .i64 u)
          have f1 := X.f1 (i := k) (by omega)
          have f2 := X.f1 (i := p) (by omega)
          have X3 := X.swap (i := k) (j := p) (by omega) (by omega) (by omega) hu hv
          rw [← hv] at k1
          rw [← hu] at k2 k3
          have ep : ((k : Int) + 1).toNat = p := by omega
          have pp : (0 : Int) ≤ (k : Int) + 1 := by omega
          have bp : (k : Int) + 1 < (n : Int) := by omega
          have rp : IntKind.i64.wrap ((k : Int) + 1) = (k : Int) + 1 := IntWalk.i64_in _ (by omega)
          have pq : (0 : Int) ≤ (k : Int) := by omega
          have bq : (k : Int) < (n : Int) := by omega
          have HI : Hid (sw fk k p = rot f a (a + 1) (k + 1 + 1)) := Lib.hid (by rw [hp, H.out]; exact rot_one_l f ak)
          have d1 : decide ((k : Int) < (i : Int) - 1) = true := decide_eq_true (by omega)
          clear X hu hv hp H
          go_wp2_with fail
          go_region
          go_wp2
          go_roundw
          case rel => exact ⟨k + 1, _, by omega, by omega, by go_num, X3.drew, HI⟩
          case measure => simp [intOf] <;> omega
        · obtain rfl : i = k + 1 := by omega
          have d1 : decide ((k : Int) < (k : Int) + 1 - 1) = false := decide_eq_false (by omega)
          have e2 := H.out
          have Y : ∃ f', St B Wb wr g n f' ∧ Srt r f' a b ∧ Pm f f' a b := ⟨fk, X, by rw [e2]; exact HO.out.1, by rw [e2]; exact HO.out.2⟩
          have HY := Lib.hid Y
          clear X H e2 HO Y
          go_wp2
          exact bodyPost_ret (v := .tuple #[]) (by simp [results, Try.results67, go_sem]) rfl ⟨rfl, HY.out⟩

end Go.Proofs.Ytodpmdmfdnbehab.Os
