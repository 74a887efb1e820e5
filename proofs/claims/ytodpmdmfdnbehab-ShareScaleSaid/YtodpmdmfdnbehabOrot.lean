/- Rotation, and insertion, of a stable sort. -/
import Derived.Test.YtodpmdmfdnbehabOst
namespace Go.Proofs.Ytodpmdmfdnbehab.Os
set_option linter.unusedSimpArgs false
set_option linter.unusedVariables false
open Go.RowKit Go.Proofs.Ytodpmdmfdnbehab.Pr Go.Proofs.Ytodpmdmfdnbehab.Rk Go.Proofs.Ytodpmdmfdnbehab.Sm Go.Proofs.Ytodpmdmfdnbehab.Om

set_option maxHeartbeats 1000000

theorem swapRange_to (B g n cap a b m : Nat) (f f' : Nat → Nat) (x y z : Int) (Wb w : World) (K : Value) (S : St B Wb w g n f) (h1 : a + m ≤ b) (h2 : b + m ≤ n) (hn : n ≤ 1000000) (hx : x = (a : Int)) (hy : y = (b : Int)) (hz : z = (m : Int)) (hf : f' = sr f a b m) :
    Calls Try.prog 72 #[.slice (some ⟨g, 0, none⟩) n cap, .int .i64 x, .int .i64 y, .int .i64 z, K] w fun e w' => e = .returned (.tuple #[]) ∧ St B Wb w' g n f' := by
  subst hx hy hz hf
  exact swapRange_go B g n cap a b m f Wb w K S h1 h2 hn

theorem rotate_go (B g n cap a m b : Nat) (f : Nat → Nat) (Wb w : World) (K : Value) (S : St B Wb w g n f) (h1 : a < m) (h2 : m < b) (h3 : b ≤ n) (hn : n ≤ 1000000) :
    Calls Try.prog 70 #[.slice (some ⟨g, 0, none⟩) n cap, .int .i64 a, .int .i64 m, .int .i64 b, K] w fun e w' => e = .returned (.tuple #[]) ∧ St B Wb w' g n (rot f a m b) := by
  have k1 : IntKind.i64.wrap ((m : Int) - (a : Int)) = (m : Int) - (a : Int) := IntWalk.i64_in _ (by omega)
  have k2 : IntKind.i64.wrap ((b : Int) - (m : Int)) = (b : Int) - (m : Int) := IntWalk.i64_in _ (by omega)
  go_enter Try.func70, Try.ntmps70
  go_wp2
  go_loopw [10, 11] (fun x y wr => ∃ (i j : Nat) (fc : Nat → Nat), 0 < i ∧ 0 < j ∧ i ≤ m ∧ m + j ≤ n ∧ x = .int .i64 i ∧ y = .int .i64 j ∧ St B Wb wr g n fc ∧ Hid (rot fc (m - i) m (m + j) = rot f a m b)) (fun x y _ => (intOf x).toNat + (intOf y).toNat)
  case atStart => exact ⟨m - a, b - m, f, by omega, by omega, by omega, by omega, by congr 1; omega, by congr 1; omega, S, Lib.hid (by congr 1 <;> omega)⟩
  case round =>
    clear S k1 k2
    obtain ⟨i, j, fc, i0, j0, im, jn, rfl, rfl, X, H⟩ := hrel
    have q1 : IntKind.i64.wrap ((m : Int) - (i : Int)) = (m : Int) - (i : Int) := IntWalk.i64_in _ (by omega)
    by_cases c : i = j
    · subst c
      have cs := swapRange_to B g n cap (m - i) m i fc (rot f a m b) ((m : Int) - (i : Int)) m i Wb wr K X (by omega) (by omega) hn (by omega) rfl rfl (by rw [← H.out, rot_same fc im])
      clear X H
      go_wp2_with fail
      refine cs.mono ?_
      rintro e w1 ⟨rfl, X⟩
      go_wp2
      exact bodyPost_end (v := .tuple #[]) (by simp [results, Try.results70, go_sem]) rfl ⟨rfl, X⟩
    · have d1 : ((i : Int) != (j : Int)) = true := bne_iff_ne.2 (by omega)
      by_cases c2 : j < i
      · have d2 : decide ((j : Int) < (i : Int)) = true := decide_eq_true (by omega)
        have cs := swapRange_to B g n cap (m - i) m j fc _ ((m : Int) - (i : Int)) m j Wb wr K X (by omega) (by omega) hn (by omega) rfl rfl rfl
        have q2 : IntKind.i64.wrap ((i : Int) - (j : Int)) = (i : Int) - (j : Int) := IntWalk.i64_in _ (by omega)
        have H2 : Hid (rot (sr fc (m - i) m j) (m - (i - j)) m (m + j) = rot f a m b) := Lib.hid (by rw [← H.out, rot_left fc im c2])
        clear X H
        go_wp2_with fail
        refine cs.mono ?_
        rintro e w1 ⟨rfl, X⟩
        go_wp2
        go_roundw
        case rel => exact ⟨i - j, j, _, by omega, j0, by omega, jn, by congr 1; omega, rfl, X, H2⟩
        case measure => simp [intOf] <;> omega
      · have d2 : decide ((j : Int) < (i : Int)) = false := decide_eq_false (by omega)
        have cs := swapRange_to B g n cap (m - i) (m + j - i) i fc _ ((m : Int) - (i : Int)) ((m : Int) + (j : Int) - (i : Int)) i Wb wr K X (by omega) (by omega) hn (by omega) (by omega) rfl rfl
        have q2 : IntKind.i64.wrap ((j : Int) - (i : Int)) = (j : Int) - (i : Int) := IntWalk.i64_in _ (by omega)
        have q3 : IntKind.i64.wrap ((m : Int) + (j : Int)) = (m : Int) + (j : Int) := IntWalk.i64_in _ (by omega)
        have q4 : IntKind.i64.wrap ((m : Int) + (j : Int) - (i : Int)) = (m : Int) + (j : Int) - (i : Int) := IntWalk.i64_in _ (by omega)
        have H2 : Hid (rot (sr fc (m - i) (m + j - i) i) (m - i) m (m + (j - i)) = rot f a m b) := Lib.hid (by rw [← H.out, rot_right fc im (by omega)])
        clear X H
        go_wp2_with fail
        refine cs.mono ?_
        rintro e w1 ⟨rfl, X⟩
        go_wp2
        go_roundw
        case rel => exact ⟨i, j - i, _, i0, by omega, im, by omega, rfl, by congr 1; omega, X, H2⟩
        case measure => simp [intOf] <;> omega

/-- what is asked of the function that compares: it reads alone -/
def CmpOk (B n : Nat) (r : Nat → Int) (Wb : World) (K : Nat) (caps : Array Value) : Prop :=
  (∀ az w1, Sem.run Try.prog (callFunc K az) w1 = .ok (.enter K az) w1) ∧
  ∀ W, Below B Wb W → ∀ x y : Nat, x < n → y < n → ∀ k, Calls Try.prog K (#[.int .i64 x, .int .i64 y] ++ caps) (W.drewN k) fun e w' => e = .returned (.int .i64 (sg (r y) (r x))) ∧ ∃ m, w' = W.drewN m

theorem insertion_go (B g n cap a b K : Nat) (c : Value) (r : Nat → Int) (f : Nat → Nat) (Wb w : World) (HC : CmpOk B n r Wb K #[c]) (S : St B Wb w g n f) (asc : Asc f a b) (h1 : a < b) (h3 : b ≤ n) (hn : n ≤ 1000000) :
    Calls Try.prog 66 #[.slice (some ⟨g, 0, none⟩) n cap, .int .i64 a, .int .i64 b, .func (.func K) #[] #[c]] w fun e w' => e = .returned (.tuple #[]) ∧ ∃ f', St B Wb w' g n f' ∧ Srt r f' a b ∧ Pm f f' a b := by
  have hE := HC.1
  have HK := Lib.hid HC.2
  have HA := Lib.hid asc
  have k1 : IntKind.i64.wrap ((a : Int) + 1) = (a : Int) + 1 := IntWalk.i64_in _ (by omega)
  clear HC asc
  go_enter Try.func66, Try.ntmps66
  go_wp2
  go_loopw [8] (fun x wr => ∃ (i : Nat) (fi : Nat → Nat), a < i ∧ i ≤ b ∧ x = .int .i64 i ∧ St B Wb wr g n fi ∧ Hid (Srt r fi a i ∧ Pm f fi a i)) (fun x _ => b - (intOf x).toNat)
  case atStart => exact ⟨a + 1, f, by omega, by omega, by go_num, S, Lib.hid ⟨fun i j h1 h2 h3 => by omega, Pm.refl _ _ _⟩⟩
  case round =>
    clear S k1
    obtain ⟨i, fi, ai, ib, rfl, X, H⟩ := hrel
    by_cases hlt : i < b
    · go_wp2
      go_loopw [9] (fun y wr2 => ∃ (j : Nat) (fj : Nat → Nat), a ≤ j ∧ j ≤ i ∧ y = .int .i64 j ∧ St B Wb wr2 g n fj ∧ Hid (Ins r f fj a i j)) (fun y _ => (intOf y).toNat)
      case atStart =>
        exact ⟨i, fi, by omega, Nat.le_refl _, rfl, X, Lib.hid (Ins.start H.out.2 H.out.1 (fun q h1 h2 => by
          rw [H.out.2.hi i (Nat.le_refl _)]
          exact H.out.2.all (P := fun v => v < f i) (fun p h3 h4 => HA.out p i h3 h4 hlt) q h1 h2))⟩
      case round =>
        clear X H
        obtain ⟨j, fj, aj, ji, rfl, X, H⟩ := hrel
        have k2 : IntKind.i64.wrap ((i : Int) + 1) = (i : Int) + 1 := IntWalk.i64_in _ (by omega)
        by_cases ja : a < j
        · obtain ⟨k, rfl⟩ : ∃ k, j = k + 1 := ⟨j - 1, by omega⟩
          obtain ⟨p, hp⟩ : ∃ p, p = k + 1 := ⟨_, rfl⟩
          obtain ⟨u, hu⟩ : ∃ u : Int, u = (fj k : Int) := ⟨_, rfl⟩
          obtain ⟨v, hv⟩ : ∃ v : Int, v = (fj p : Int) := ⟨_, rfl⟩
          obtain ⟨s, hs⟩ : ∃ s : Int, s = sg (r (fj k)) (r (fj p)) := ⟨_, rfl⟩
          have hc := fun q => HK.out wr X.below (fj p) (fj k) (X.bd p (by omega)) (X.bd k (by omega)) q
          rw [← hu, ← hv, ← hs] at hc
          simp only [List.append_toArray, List.cons_append, List.nil_append] at hc
          have c1 := X.c1 (i := p) (by omega)
          have c2 := X.c1 (i := k) (by omega)
          rw [← hv] at c1
          rw [← hu] at c2
          have ep : ((k : Int) + 1).toNat = p := by omega
          have pp : (0 : Int) ≤ (k : Int) + 1 := by omega
          have bp : (k : Int) + 1 < (n : Int) := by omega
          have rp : IntKind.i64.wrap ((k : Int) + 1) = (k : Int) + 1 := IntWalk.i64_in _ (by omega)
          have pq : (0 : Int) ≤ (k : Int) := by omega
          have bq : (k : Int) < (n : Int) := by omega
          have rq : IntKind.i64.wrap (k : Int) = (k : Int) := IntWalk.i64_in _ (by omega)
          have d0 : decide ((a : Int) < (k : Int) + 1) = true := decide_eq_true (by omega)
          have w0 : IntKind.i64.wrap ((k : Int) + 1 - 1) = (k : Int) := by rw [show (k : Int) + 1 - 1 = k by omega]; exact rq
          by_cases lt : r (fj k) < r (fj p)
          · have d1 : decide (s < 0) = true := decide_eq_true (by rw [hs]; exact sg_neg.2 lt)
            have HX := Lib.hid X
            have HI : Hid (p = k + 1 ∧ u = (fj k : Int) ∧ v = (fj p : Int) ∧ r (fj k) < r (fj p) ∧ Ins r f fj a i (k + 1)) := Lib.hid ⟨hp, hu, hv, lt, H.out⟩
            clear X H hp hu hv hs lt
            go_wp2_with fail
            go_quiet ((exact hc _))
            have X2 := HX.out.drewN nq
            clear c1 c2 hc HX
            generalize wr.drewN nq = W2 at X2 ⊢
            obtain ⟨hp, hu, hv, lt, HJ⟩ := HI.out
            have c1 := X2.c1 (i := p) (by omega)
            have c2 := X2.c1 (i := k) (by omega)
            have c3 := X2.c2 (i := p) (j := k) (by omega) (by omega) (.int .i64 u)
            have f1 := X2.f1 (i := p) (by omega)
            have f2 := X2.f1 (i := k) (by omega)
            have X3 := X2.swap (i := p) (j := k) (by omega) (by omega) (by omega) hu hv
            rw [← hv] at c1
            rw [← hu] at c2 c3
            clear X2 hp hu hv lt HJ d1
            go_wp2_with fail
            go_region
            go_wp2
            go_roundw
            case rel =>
              obtain ⟨hp, hu, hv, lt, HJ⟩ := HI.out
              exact ⟨k, sw fj p k, by omega, by omega, by go_num, X3.drew, Lib.hid (by subst hp; exact HJ.step (by omega) ji lt)⟩
            case measure => simp [intOf] <;> omega
          · have d1 : decide (s < 0) = false := decide_eq_false (by rw [hs]; exact fun e => lt (sg_neg.1 e))
            have HX := Lib.hid X
            have HI : Hid (Srt r fj a (i + 1) ∧ Pm f fj a (i + 1)) := Lib.hid ⟨H.out.stop (by omega) ji (fun q e _ => by
              obtain rfl : q = k := by omega
              rw [← hp]; exact lt), H.out.pm⟩
            clear X H hp hu hv hs lt
            go_wp2_with fail
            go_quiet ((exact hc _))
            have X2 := HX.out.drewN nq
            clear c1 c2 hc HX
            generalize wr.drewN nq = W2 at X2 ⊢
            go_wp2
            go_roundw
            case rel => exact ⟨i + 1, fj, by omega, by omega, by go_num, X2, HI⟩
            case measure => simp [intOf] <;> omega
        · obtain rfl : j = a := by omega
          have d0 : decide ((j : Int) < (j : Int)) = false := decide_eq_false (by omega)
          have HI : Hid (Srt r fj j (i + 1) ∧ Pm f fj j (i + 1)) := Lib.hid ⟨H.out.stop (Nat.le_refl _) ji (fun q e h => by omega), H.out.pm⟩
          clear H
          go_wp2_with fail
          go_quiet (fail)
          have X2 := X.drewN nq
          clear X
          generalize wr.drewN nq = W2 at X2 ⊢
          go_wp2
          go_roundw
          case rel => exact ⟨i + 1, fj, by omega, by omega, by go_num, X2, HI⟩
          case measure => simp [intOf] <;> omega
    · obtain rfl : i = b := by omega
      go_wp2
      exact bodyPost_end (v := .tuple #[]) (by simp [results, Try.results66, go_sem]) rfl ⟨rfl, fi, X, H.out.1, H.out.2⟩

end Go.Proofs.Ytodpmdmfdnbehab.Os
