/- Merging of a stable sort, where the right side has one place alone. -/
import Derived.Test.YtodpmdmfdnbehabOsym
namespace Go.Proofs.Ytodpmdmfdnbehab.Os
set_option linter.unusedSimpArgs false
set_option linter.unusedVariables false
open Go.RowKit Go.Proofs.Ytodpmdmfdnbehab.Pr Go.Proofs.Ytodpmdmfdnbehab.Rk Go.Proofs.Ytodpmdmfdnbehab.Sm Go.Proofs.Ytodpmdmfdnbehab.Om

set_option maxHeartbeats 1000000

set_option maxRecDepth 100000 in
theorem sym_right (B g n cap a m b K : Nat) (c : Value) (r : Nat → Int) (f : Nat → Nat) (Wb w : World) (HC : CmpOk B n r Wb K #[c]) (S : St B Wb w g n f) (sl : Srt r f a m) (lo : Lo f a m b) (h1 : a + 1 < m) (h2 : b = m + 1) (h3 : b ≤ n) (hn : n ≤ 1000000) :
    Calls Try.prog 67 #[.slice (some ⟨g, 0, none⟩) n cap, .int .i64 a, .int .i64 m, .int .i64 b, .func (.func K) #[] #[c]] w (Merged B Wb g n r f a b) := by
  have hE := HC.1
  have HK := Lib.hid HC.2
  have HL := Lib.hid lo
  have HS := Lib.hid sl
  have t1 : ((m : Int) - (a : Int) == 1) = false := beq_eq_false_iff_ne.2 (by omega)
  have t2 : ((b : Int) - (m : Int) == 1) = true := beq_iff_eq.2 (by omega)
  have HM := Lib.hid h2
  have m0 : m + 1 ≤ b := by omega
  have m1 : b ≤ m + 1 := by omega
  clear HC lo sl h2
  go_enter Try.func67, Try.ntmps67
  go_wp2
  go_loopw [14, 15] (fun x y wr => ∃ (i j : Nat), a ≤ i ∧ i ≤ j ∧ j ≤ m ∧ x = .int .i64 i ∧ y = .int .i64 j ∧ St B Wb wr g n f ∧ Hid ((a < i → Ahead r (f (i - 1)) (f m)) ∧ (j < m → Ahead r (f m) (f j)))) (fun x y _ => (intOf y).toNat - (intOf x).toNat)
  case atStart => exact ⟨a, m, by omega, by omega, by omega, rfl, rfl, S, Lib.hid ⟨fun h => by omega, fun h => by omega⟩⟩
  case round =>
    clear S t1 t2
    obtain ⟨i, j, mi, ij, jb, rfl, rfl, X, H⟩ := hrel
    by_cases c1 : i < j
    · obtain ⟨h, hh⟩ : ∃ h : Nat, ((i : Int) + (j : Int)) / 2 = (h : Int) := ⟨(i + j) / 2, by omega⟩
      have h0 : i ≤ h := by omega
      have h1 : h < j := by omega
      obtain ⟨u, hu⟩ : ∃ u : Int, u = (f m : Int) := ⟨_, rfl⟩
      obtain ⟨v, hv⟩ : ∃ v : Int, v = (f h : Int) := ⟨_, rfl⟩
      obtain ⟨s, hs⟩ : ∃ s : Int, s = sg (r (f h)) (r (f m)) := ⟨_, rfl⟩
      have hc := fun q => HK.out wr X.below (f m) (f h) (X.bd m (by omega)) (X.bd h (by omega)) q
      rw [← hu, ← hv, ← hs] at hc
      simp only [List.append_toArray, List.cons_append, List.nil_append] at hc
      have k1 := X.c1 (i := m) (by omega)
      have k2 := X.c1 (i := h) (by omega)
      rw [← hu] at k1
      rw [← hv] at k2
      have pp : (0 : Int) ≤ (m : Int) := by omega
      have bp : (m : Int) < (n : Int) := by omega
      have pq : (0 : Int) ≤ (h : Int) := by omega
      have bq : (h : Int) < (n : Int) := by omega
      have fl := HL.out h m (by omega) (by omega) (by omega) (by omega)
      by_cases lt : r (f h) < r (f m)
      · have d1 : decide (s < 0) = true := decide_eq_true (by rw [hs]; exact sg_neg.2 lt)
        have HX := Lib.hid X
        have HI : Hid ((a < i → Ahead r (f (i - 1)) (f m)) ∧ (h < m → Ahead r (f m) (f h))) := Lib.hid ⟨H.out.1, fun _ => (ahead_lt fl).2 lt⟩
        clear X H hu hv hs lt fl
        go_wp2_with fail
        go_quiet ((exact hc _))
        have X2 := HX.out.drewN nq
        clear k1 k2 hc HX hh
        generalize wr.drewN nq = W2 at X2 ⊢
        go_wp2
        go_roundw
        case rel => exact ⟨i, h, by omega, by omega, by omega, rfl, rfl, X2, HI⟩
        case measure => simp [intOf] <;> omega
      · have d1 : decide (s < 0) = false := decide_eq_false (by rw [hs]; exact fun e => lt (sg_neg.1 e))
        have HX := Lib.hid X
        have HI : Hid ((a < h + 1 → Ahead r (f (h + 1 - 1)) (f m)) ∧ (j < m → Ahead r (f m) (f j))) := Lib.hid ⟨fun _ => ahead_ge fl lt, H.out.2⟩
        clear X H hu hv hs lt fl
        go_wp2_with fail
        go_quiet ((exact hc _))
        have X2 := HX.out.drewN nq
        clear k1 k2 hc HX hh
        generalize wr.drewN nq = W2 at X2 ⊢
        go_wp2
        go_roundw
        case rel => exact ⟨h + 1, j, by omega, by omega, by omega, by go_num, rfl, X2, HI⟩
        case measure => simp [intOf] <;> omega
    · obtain rfl : i = j := by omega
      have ol := one_right (r := r) (f := f) (a := a) (i := i) (m := m) HS.out mi jb H.out.1 H.out.2
      have HO := Lib.hid ol
      clear ol H
      go_wp2
      go_loopw [17] (fun x wr => ∃ (k : Nat) (fk : Nat → Nat), i ≤ k ∧ k ≤ m ∧ x = .int .i64 k ∧ St B Wb wr g n fk ∧ Hid (fk = rot f k m (m + 1))) (fun x _ => (intOf x).toNat)
      case atStart => exact ⟨m, f, by omega, by omega, rfl, X, Lib.hid (rot_none_l f (by omega)).symm⟩
      case round =>
        clear X
        obtain ⟨k0, fk, ak, ki, rfl, X, H⟩ := hrel
        by_cases c2 : i < k0
        · obtain ⟨k, rfl⟩ : ∃ k, k0 = k + 1 := ⟨k0 - 1, by omega⟩
          obtain ⟨p, hp⟩ : ∃ p, p = k + 1 := ⟨_, rfl⟩
          obtain ⟨u, hu⟩ : ∃ u : Int, u = (fk k : Int) := ⟨_, rfl⟩
          obtain ⟨v, hv⟩ : ∃ v : Int, v = (fk p : Int) := ⟨_, rfl⟩
          have k1 := X.c1 (i := p) (by omega)
          have k2 := X.c1 (i := k) (by omega)
          have k3 := X.c2 (i := p) (j := k) (by omega) (by omega) (.int .i64 u)
          have f1 := X.f1 (i := p) (by omega)
          have f2 := X.f1 (i := k) (by omega)
          have X3 := X.swap (i := p) (j := k) (by omega) (by omega) (by omega) hu hv
          rw [← hv] at k1
          rw [← hu] at k2 k3
          have ep : ((k : Int) + 1).toNat = p := by omega
          have pp : (0 : Int) ≤ (k : Int) + 1 := by omega
          have bp : (k : Int) + 1 < (n : Int) := by omega
          have rp : IntKind.i64.wrap ((k : Int) + 1) = (k : Int) + 1 := IntWalk.i64_in _ (by omega)
          have pq : (0 : Int) ≤ (k : Int) := by omega
          have bq : (k : Int) < (n : Int) := by omega
          have rq : IntKind.i64.wrap (k : Int) = (k : Int) := IntWalk.i64_in _ (by omega)
          have w0 : IntKind.i64.wrap ((k : Int) + 1 - 1) = (k : Int) := by rw [show (k : Int) + 1 - 1 = k by omega]; exact rq
          have HI : Hid (sw fk p k = rot f k m (m + 1)) := Lib.hid (by rw [hp, H.out]; exact rot_one_r f ki)
          have d1 : decide ((i : Int) < (k : Int) + 1) = true := decide_eq_true (by omega)
          clear X hu hv hp H
          go_wp2_with fail
          go_region
          go_wp2
          go_roundw
          case rel => exact ⟨k, _, by omega, by omega, by go_num, X3.drew, HI⟩
          case measure => simp [intOf] <;> omega
        · obtain rfl : k0 = i := by omega
          have d1 : decide ((k0 : Int) < (k0 : Int)) = false := decide_eq_false (by omega)
          have e2 := H.out
          have Y : ∃ f', St B Wb wr g n f' ∧ Srt r f' a b ∧ Pm f f' a b := ⟨fk, X, by rw [e2, HM.out]; exact HO.out.1, by rw [e2, HM.out]; exact HO.out.2⟩
          have HY := Lib.hid Y
          clear X H e2 HO Y
          go_wp2
          exact bodyPost_ret (v := .tuple #[]) (by simp [results, Try.results67, go_sem]) rfl ⟨rfl, HY.out⟩

end Go.Proofs.Ytodpmdmfdnbehab.Os
