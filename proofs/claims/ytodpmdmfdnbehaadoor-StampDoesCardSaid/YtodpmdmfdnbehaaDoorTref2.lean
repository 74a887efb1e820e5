/- What like, where a text is not, and number of the reference of layer 7 come to. -/
import Derived.Test.YtodpmdmfdnbehaaDoorTref
namespace Go.Proofs.YtodpmdmfdnbehaaDoor.Tr
set_option linter.unusedSimpArgs false
set_option linter.unusedVariables false
open Go.RowKit Go.Proofs.YtodpmdmfdnbehaaDoor.Bx Go.Proofs.YtodpmdmfdnbehaaDoor.Cm Go.Proofs.YtodpmdmfdnbehaaDoor.Em Go.Proofs.YtodpmdmfdnbehaaDoor.Er Go.Proofs.YtodpmdmfdnbehaaDoor.Tm

set_option maxHeartbeats 1000000

/-- the first place that does not fit -/
theorem first_bad {s f : ByteArray} (hs : s.size = 10) (hf : f.size = 10) (L : ¬ Like s f) : ∃ n, ∃ h : n < s.size, ∃ h' : n < f.size, ¬ okAt s[n] f[n] ∧ ∀ i (h : i < s.size) (h' : i < f.size), i < n → okAt s[i] f[i] := by
  have key : ∀ m : Nat, m ≤ 10 → (∃ n, ∃ h : n < s.size, ∃ h' : n < f.size, ¬ okAt s[n] f[n] ∧ ∀ i (h : i < s.size) (h' : i < f.size), i < n → okAt s[i] f[i]) ∨ ∀ i (h : i < s.size) (h' : i < f.size), i < m → okAt s[i] f[i] := by
    intro m
    induction m with
    | zero => intro _; exact .inr (fun _ _ _ h => absurd h (by omega))
    | succ m ih =>
      intro hm
      rcases ih (by omega) with h | h
      · exact .inl h
      · by_cases c : okAt (s[m]'(by omega)) (f[m]'(by omega))
        · refine .inr (fun i h1 h2 h3 => ?_)
          by_cases e : i = m
          · subst e; exact c
          · exact h i h1 h2 (by omega)
        · exact .inl ⟨m, by omega, by omega, c, h⟩
  rcases key 10 (by omega) with h | h
  · exact h
  · exact absurd ⟨by omega, fun i h1 h2 => h i h1 h2 (by omega)⟩ L

set_option maxRecDepth 100000 in
theorem rlike_no (s f : ByteArray) (w : World) (hf : f.size = 10) (hm : s.size ≤ maxLen) (L : ¬ Like s f) :
    Calls Tryd.prog 60 #[.string s, .string f] w fun e w' => e = .returned (.bool false) ∧ Below w.heap.size w w' := by
  unfold maxLen at hm
  by_cases hs : s.size = 10
  · obtain ⟨n, n0, n1, bad, good⟩ := first_bad hs hf L
    have HG := Lib.hid good
    have HB := Lib.hid bad
    have n10 : n < 10 := by omega
    clear L good bad hm
    go_enter Tryd.func60, Tryd.ntmps60
    go_wp2
    go_loopw [13] (fun I wr => ∃ pos : Nat, pos ≤ n ∧ I = .int .i64 pos ∧ Below w.heap.size w wr) (fun I _ => 10 - (intOf I).toNat)
    case atStart => exact ⟨0, by omega, rfl, Below.refl _ _⟩
    case round =>
      obtain ⟨pos, hp, rfl, hb⟩ := hrel
      have hps : pos < s.size := by omega
      have hpf : pos < f.size := by omega
      have pp : (0 : Int) ≤ (pos : Int) := by omega
      have p10 : pos < 10 := by omega
      have bp : (pos : Int) < 10 := by omega
      by_cases hlt : pos < n
      · have ok := okN_of (HG.out pos hps hpf hlt)
        rcases ok with ⟨e0, e1, e2⟩ | ⟨e0, e1⟩
        · have d0 : ((f[pos].toNat : Int) == 48) = true := beq_iff_eq.2 (by omega)
          have d1 : decide ((48 : Int) ≤ (s[pos].toNat : Int)) = true := decide_eq_true (by omega)
          have d2 : decide ((s[pos].toNat : Int) ≤ 57) = true := decide_eq_true (by omega)
          clear e0 e1 e2
          go_wp2
          go_roundw
          case rel => exact ⟨pos + 1, by omega, by go_num, hb⟩
          case measure => simp [intOf]; omega
        · have d0 : ((f[pos].toNat : Int) == 48) = false := beq_eq_false_iff_ne.2 (by omega)
          have d1 : ((s[pos].toNat : Int) != (f[pos].toNat : Int)) = false := by rw [e1]; simp
          clear e0 e1
          go_wp2_with fail
          go_quiet (fail)
          go_wp2
          go_roundw
          case rel => exact ⟨pos + 1, by omega, by go_num, bdrewN hb _⟩
          case measure => simp [intOf]; omega
      · obtain rfl : pos = n := by omega
        have no := okN_not HB.out
        rcases no with ⟨e0, e1⟩ | ⟨e0, e1, e2⟩ | ⟨e0, e1⟩
        · have d0 : ((f[pos].toNat : Int) == 48) = true := beq_iff_eq.2 (by omega)
          have d1 : decide ((48 : Int) ≤ (s[pos].toNat : Int)) = false := decide_eq_false (by omega)
          clear e0 e1
          go_wp2_with fail
          go_quiet (fail)
          go_wp2
          go_ret
          exact ⟨rfl, bdrewN hb _⟩
        · have d0 : ((f[pos].toNat : Int) == 48) = true := beq_iff_eq.2 (by omega)
          have d1 : decide ((48 : Int) ≤ (s[pos].toNat : Int)) = true := decide_eq_true (by omega)
          have d2 : decide ((s[pos].toNat : Int) ≤ 57) = false := decide_eq_false (by omega)
          clear e0 e1 e2
          go_wp2_with fail
          go_quiet (fail)
          go_wp2
          go_ret
          exact ⟨rfl, bdrewN hb _⟩
        · have d0 : ((f[pos].toNat : Int) == 48) = false := beq_eq_false_iff_ne.2 (by omega)
          have d1 : ((s[pos].toNat : Int) != (f[pos].toNat : Int)) = true := bne_iff_ne.2 (by omega)
          clear e0 e1
          go_wp2_with fail
          go_quiet (fail)
          go_wp2
          go_ret
          exact ⟨rfl, bdrewN hb _⟩
  · have d0 : ((s.size : Int) != 10) = true := bne_iff_ne.2 (by omega)
    clear L hs
    go_enter Tryd.func60, Tryd.ntmps60
    go_wp2
    go_ret
    exact ⟨rfl, Below.refl _ _⟩

theorem rnumber_any (s : ByteArray) (n : Nat) (f : Nat → Int) (v : Int) (w : World) (hn : s.size = n) (h4 : n ≤ 4) (hf : ∀ i (h : i < s.size), (s[i].toNat : Int) = 48 + f i ∧ 0 ≤ f i ∧ f i ≤ 9) (hv : v = vl f n) :
    Calls Tryd.prog 61 #[.string s] w fun e w' => e = .returned (.int .i64 v) ∧ w = w' := by
  have HF := Lib.hid hf
  have HV := Lib.hid hv
  have HB : Hid (∀ k, k ≤ n → 0 ≤ vl f k ∧ vl f k ≤ 9999) := Lib.hid (fun k hk => vl_bd (n := n) (fun i hi => (hf i (by omega)).2) hk h4)
  clear hf hv
  go_enter Tryd.func61, Tryd.ntmps61
  go_wp2
  go_loop [3, 7] (fun N I => ∃ pos : Nat, pos ≤ n ∧ N = .int .i64 (vl f pos) ∧ I = .int .i64 pos) (fun _ I => n - (intOf I).toNat)
  case atStart => exact ⟨0, by omega, rfl, rfl⟩
  case round =>
    obtain ⟨pos, hp, rfl, rfl⟩ := hrel
    by_cases hlt : pos < n
    · have hps : pos < s.size := by omega
      obtain ⟨e1, d0, d1⟩ := HF.out pos hps
      obtain ⟨b0, b1⟩ := HB.out pos hp
      have HS : Hid (vl f (pos + 1) = 10 * vl f pos + f pos) := Lib.hid rfl
      generalize vl f pos = a at *
      generalize f pos = d at *
      go_wp2
      go_round
      case rel => exact ⟨pos + 1, by omega, by rw [HS.out]; go_num, by go_num⟩
      case measure => simp [intOf]; omega
    · obtain rfl : pos = n := by omega
      go_wp2
      go_ret
      exact ⟨congrArg (fun x => Ending.returned (.int .i64 x)) HV.out.symm, rfl⟩

theorem rnum4 (n : Int) (w : World) (h0 : 0 ≤ n) (h1 : n ≤ 9999) : Calls Tryd.prog 61 #[.string (s4 n)] w fun e w' => e = .returned (.int .i64 n) ∧ w = w' :=
  rnumber_any (s4 n) 4 (fun i => [n / 1000, n / 100 % 10, n / 10 % 10, n % 10].getD i 0) n w rfl (by omega) (fun i h => by
    have hi : i = 0 ∨ i = 1 ∨ i = 2 ∨ i = 3 := by
      have : i < 4 := h
      omega
    rcases hi with rfl | rfl | rfl | rfl
    · exact ⟨dg_val (k := n / 1000) (by omega) (by omega), by simp; omega, by simp; omega⟩
    · exact ⟨dg_val (k := n / 100 % 10) (by omega) (by omega), by simp; omega, by simp; omega⟩
    · exact ⟨dg_val (k := n / 10 % 10) (by omega) (by omega), by simp; omega, by simp; omega⟩
    · exact ⟨dg_val (k := n % 10) (by omega) (by omega), by simp; omega, by simp; omega⟩) (by simp [vl]; omega)
theorem rnum2 (n : Int) (w : World) (h0 : 0 ≤ n) (h1 : n ≤ 99) : Calls Tryd.prog 61 #[.string (s2 n)] w fun e w' => e = .returned (.int .i64 n) ∧ w = w' :=
  rnumber_any (s2 n) 2 (fun i => [n / 10, n % 10].getD i 0) n w rfl (by omega) (fun i h => by
    have hi : i = 0 ∨ i = 1 := by
      have : i < 2 := h
      omega
    rcases hi with rfl | rfl
    · exact ⟨dg_val (k := n / 10) (by omega) (by omega), by simp; omega, by simp; omega⟩
    · exact ⟨dg_val (k := n % 10) (by omega) (by omega), by simp; omega, by simp; omega⟩) (by simp [vl]; omega)
theorem rnum1 (n : Int) (w : World) (h0 : 0 ≤ n) (h1 : n ≤ 9) : Calls Tryd.prog 61 #[.string (s1 n)] w fun e w' => e = .returned (.int .i64 n) ∧ w = w' :=
  rnumber_any (s1 n) 1 (fun _ => n) n w rfl (by omega) (fun i h => by
    obtain rfl : i = 0 := by
      have : i < 1 := h
      omega
    exact ⟨dg_val (k := n) (by omega) (by omega), h0, h1⟩) (by simp [vl])

end Go.Proofs.YtodpmdmfdnbehaaDoor.Tr
