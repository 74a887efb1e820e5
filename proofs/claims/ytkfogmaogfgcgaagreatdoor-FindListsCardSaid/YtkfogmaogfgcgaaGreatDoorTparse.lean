/- What Parse of package stamp comes to (as in Tcode, Tcode2 and Tcode3, for seats that read days alone). -/
import Derived.Test.YtkfogmaogfgcgaaGreatDoorJE
import Derived.Test.YtkfogmaogfgcgaaGreatDoorTmath
import Derived.Lib.SmallJoins
import Derived.Lib.OthersKept
import Derived.Deep.RegionHeld3
namespace Go.Proofs.YtkfogmaogfgcgaaGreatDoor.Tp
set_option linter.unusedSimpArgs false
set_option linter.unusedVariables false
open Go.RowKit Go.Proofs.YtkfogmaogfgcgaaGreatDoor.Bx Go.Proofs.YtkfogmaogfgcgaaGreatDoor.Cm Go.Proofs.YtkfogmaogfgcgaaGreatDoor.Cp Go.Proofs.YtkfogmaogfgcgaaGreatDoor.Em Go.Proofs.YtkfogmaogfgcgaaGreatDoor.Ep Go.Proofs.YtkfogmaogfgcgaaGreatDoor.Tm

set_option maxHeartbeats 1000000

def okI (c p : Int) : Bool := if p = 48 then decide (48 ≤ c) && decide (c ≤ 57) else c == p
theorem fitsAt_any (c p : Int) (b : Bool) (w : World) (hb : b = okI c p) :
    Calls Tryz.prog 122 #[.int .i32 c, .int .i32 p] w fun e w' => e = .returned (.bool b) ∧ w = w' := by
  by_cases hp : p = 48
  · subst hp
    by_cases h0 : 48 ≤ c
    · by_cases h1 : c ≤ 57
      · obtain rfl : b = true := by rw [hb]; simp [okI, h0, h1]
        clear hb
        go_enter Tryz.func122, Tryz.ntmps122
        go_wp2
        go_ret
        exact ⟨rfl, rfl⟩
      · obtain rfl : b = false := by rw [hb]; simp [okI, h1]
        have d1 : decide (c ≤ 57) = false := decide_eq_false h1
        clear hb
        go_enter Tryz.func122, Tryz.ntmps122
        go_wp2
        go_ret
        exact ⟨rfl, rfl⟩
    · obtain rfl : b = false := by rw [hb]; simp [okI, h0]
      have d1 : decide (48 ≤ c) = false := decide_eq_false h0
      clear hb
      go_enter Tryz.func122, Tryz.ntmps122
      go_wp2
      go_ret
      exact ⟨rfl, rfl⟩
  · have d0 : (p == 48) = false := beq_eq_false_iff_ne.2 hp
    have hb' : b = (c == p) := by rw [hb]; simp [okI, hp]
    clear hb hp
    cases h : (c == p)
    all_goals
      rw [h] at hb'
      subst hb'
      go_enter Tryz.func122, Tryz.ntmps122
      go_wp2
      go_ret
      exact ⟨rfl, rfl⟩

theorem okI_of {c p : UInt8} (h : okAt c p) : true = okI (c.toNat : Int) (p.toNat : Int) := by
  unfold okI
  rcases h with ⟨rfl, h0, h1⟩ | ⟨h0, rfl⟩
  · rw [if_pos (by decide)]; simp; omega
  · rw [if_neg (fun e => h0 (UInt8.toNat_inj.1 (by show c.toNat = 48; omega)))]; simp
theorem okI_not {c p : UInt8} (h : ¬ okAt c p) : false = okI (c.toNat : Int) (p.toNat : Int) := by
  unfold okI
  by_cases e : p = 48
  · subst e
    rw [if_pos (by decide)]
    have : ¬ (48 ≤ c.toNat ∧ c.toNat ≤ 57) := fun k => h (.inl ⟨rfl, k⟩)
    symm
    simp; omega
  · rw [if_neg (fun k => e (UInt8.toNat_inj.1 (by show p.toNat = 48; omega)))]
    have : c ≠ p := fun k => h (.inr ⟨e, k⟩)
    symm
    simp
    intro k
    exact this (UInt8.toNat_inj.1 (by omega))
theorem okI_high {r : Int} {p : UInt8} (h : 128 ≤ r) (hp : p.toNat < 128) : false = okI r (p.toNat : Int) := by
  unfold okI
  symm
  split
  · simp; omega
  · simp; omega
theorem ok_low {c p : UInt8} (h : okAt c p) (hp : p.toNat < 128) : c.toNat < 128 := by
  rcases h with ⟨_, _, h⟩ | ⟨_, rfl⟩
  · omega
  · exact hp

theorem fits_yes (s f : ByteArray) (w : World) (hf : f.size = 10) (hF : ∀ i (h : i < f.size), f[i].toNat < 128) (L : Like s f) :
    Calls Tryz.prog 78 #[.string s, .string f] w fun e w' => e = .returned (.bool true) ∧ Below w.heap.size w w' := by
  have hs : s.size = 10 := L.1.trans hf
  have hk0 : (w.iter s 0).heap[w.heap.size]? = some (.stringIter s 0) := World.iter_heap w s 0
  have hb0 : Below w.heap.size w (w.iter s 0) := (Below.refl _ w).alloc (Nat.le_refl _) _
  have HL := Lib.hid L
  have HF := Lib.hid hF
  clear L hF
  go_enter Tryz.func78, Tryz.ntmps78
  go_wp2
  go_loopw [5] (fun _ wr => ∃ pos : Nat, pos ≤ 10 ∧ wr.heap[w.heap.size]? = some (.stringIter s pos) ∧ Below w.heap.size w wr) (fun _ wr => 10 - wr.iterPos w.heap.size)
  case atStart => exact ⟨0, by omega, hk0, hb0⟩
  case round =>
    clear hk0 hb0
    obtain ⟨pos, hp, hk, hb⟩ := hrel
    by_cases hlt : pos < 10
    · have hps : pos < s.size := by omega
      have hpf : pos < f.size := by omega
      have ok := HL.out.2 pos hps hpf
      have low := ok_low ok (HF.out pos hpf)
      have hnext : ∀ ty, (Instr.next (.pointer (some ⟨w.heap.size, 0, none⟩)) true ty).run Tryz.prog wr = _ := fun ty => Lib.run_next_ascii_at wr w.heap.size s pos ty hk hps low
      have hk1 := Lib.iterAt_heap wr w.heap.size s pos (pos + 1) hk
      have hb1 : Below w.heap.size w (wr.iterAt w.heap.size s (pos + 1)) := Lib.below_iterAt hb (Nat.le_refl _) s (pos + 1)
      have hmu : wr.iterPos w.heap.size = pos := by simp [World.iterPos, hk]
      have cf := fun w => fitsAt_any _ _ true w (okI_of ok)
      have p0 : (f[pos].toNat : Int) ≤ 255 := by have := HF.out pos hpf; omega
      have HM := Lib.hid hmu
      clear hk hb hmu hs hf ok low
      generalize s[pos].toNat = c at *
      generalize wr.iterAt w.heap.size s (pos + 1) = W1 at *
      go_wp2_with fail
      refine (cf _).mono ?_
      rintro e w' ⟨rfl, rfl⟩
      go_wp2
      go_roundw
      case rel => exact ⟨pos + 1, by omega, hk1, hb1⟩
      case measure =>
        have : W1.iterPos w.heap.size = pos + 1 := by simp [World.iterPos, hk1]
        rw [HM.out, this]; omega
    · obtain rfl : pos = 10 := by omega
      have hnext : ∀ ty, (Instr.next (.pointer (some ⟨w.heap.size, 0, none⟩)) true ty).run Tryz.prog wr = _ := fun ty => Lib.run_next_end_at wr w.heap.size s 10 ty hk (by omega)
      clear hk hs hf
      go_wp2
      go_ret
      exact ⟨rfl, hb⟩

theorem fits_no (s f : ByteArray) (w : World) (hf : f.size = 10) (hF : ∀ i (h : i < f.size), f[i].toNat < 128) (hm : s.size ≤ maxLen) (L : ¬ Like s f) :
    Calls Tryz.prog 78 #[.string s, .string f] w fun e w' => e = .returned (.bool false) ∧ Below w.heap.size w w' := by
  unfold maxLen at hm
  by_cases hs : s.size = 10
  · have hk0 : (w.iter s 0).heap[w.heap.size]? = some (.stringIter s 0) := World.iter_heap w s 0
    have hb0 : Below w.heap.size w (w.iter s 0) := (Below.refl _ w).alloc (Nat.le_refl _) _
    -- the first place that does not fit
    have B : ∃ n, ∃ h : n < s.size, ∃ h' : n < f.size, ¬ okAt s[n] f[n] ∧ ∀ i (h : i < s.size) (h' : i < f.size), i < n → okAt s[i] f[i] := by
      have key : ∀ m : Nat, m ≤ 10 → (∃ n, ∃ h : n < s.size, ∃ h' : n < f.size, ¬ okAt s[n] f[n] ∧ ∀ i (h : i < s.size) (h' : i < f.size), i < n → okAt s[i] f[i]) ∨ ∀ i (h : i < s.size) (h' : i < f.size), i < m → okAt s[i] f[i] := by
        intro m
        induction m with
        | zero => intro _; exact .inr (fun _ _ _ h => absurd h (by omega))
        | succ m ih =>
          intro hm
          rcases ih (by omega) with h | h
          · exact .inl h
          · by_cases c : okAt (s[m]'(by omega)) (f[m]'(by omega))
            · refine .inr (fun i h1 h2 h3 => ?_)
              by_cases e : i = m
              · subst e; exact c
              · exact h i h1 h2 (by omega)
            · exact .inl ⟨m, by omega, by omega, c, h⟩
      rcases key 10 (by omega) with h | h
      · exact h
      · exact absurd ⟨by omega, fun i h1 h2 => h i h1 h2 (by omega)⟩ L
    obtain ⟨n, n0, n1, bad, good⟩ := B
    have HG := Lib.hid good
    have HB := Lib.hid bad
    have HF := Lib.hid hF
    have n10 : n < 10 := by omega
    clear L hF good bad hm
    go_enter Tryz.func78, Tryz.ntmps78
    go_wp2
    go_loopw [5] (fun _ wr => ∃ pos : Nat, pos ≤ n ∧ wr.heap[w.heap.size]? = some (.stringIter s pos) ∧ Below w.heap.size w wr) (fun _ wr => 10 - wr.iterPos w.heap.size)
    case atStart => exact ⟨0, by omega, hk0, hb0⟩
    case round =>
      clear hk0 hb0
      obtain ⟨pos, hp, hk, hb⟩ := hrel
      have hps : pos < s.size := by omega
      have hpf : pos < f.size := by omega
      have fl := HF.out pos hpf
      have p0 : (f[pos].toNat : Int) ≤ 255 := by omega
      by_cases hlt : pos < n
      · have ok := HG.out pos hps hpf hlt
        have low := ok_low ok fl
        have hnext : ∀ ty, (Instr.next (.pointer (some ⟨w.heap.size, 0, none⟩)) true ty).run Tryz.prog wr = _ := fun ty => Lib.run_next_ascii_at wr w.heap.size s pos ty hk hps low
        have hk1 := Lib.iterAt_heap wr w.heap.size s pos (pos + 1) hk
        have hb1 : Below w.heap.size w (wr.iterAt w.heap.size s (pos + 1)) := Lib.below_iterAt hb (Nat.le_refl _) s (pos + 1)
        have hmu : wr.iterPos w.heap.size = pos := by simp [World.iterPos, hk]
        have cf := fun w => fitsAt_any _ _ true w (okI_of ok)
        have HM := Lib.hid hmu
        clear hk hb hmu hs hf ok low
        generalize s[pos].toNat = c at *
        generalize wr.iterAt w.heap.size s (pos + 1) = W1 at *
        go_wp2_with fail
        refine (cf _).mono ?_
        rintro e w' ⟨rfl, rfl⟩
        go_wp2
        go_roundw
        case rel => exact ⟨pos + 1, by omega, hk1, hb1⟩
        case measure =>
          have : W1.iterPos w.heap.size = pos + 1 := by simp [World.iterPos, hk1]
          rw [HM.out, this]; omega
      · obtain rfl : pos = n := by omega
        have bad := HB.out
        have N : ∃ (c : Int) (q : Nat), (∀ ty, (Instr.next (.pointer (some ⟨w.heap.size, 0, none⟩)) true ty).run Tryz.prog wr = .ok (.tuple #[.bool true, .int .i64 pos, .int .i32 c]) (wr.iterAt w.heap.size s q)) ∧ false = okI c (f[pos].toNat : Int) := by
          by_cases low : s[pos].toNat < 128
          · exact ⟨_, _, fun ty => Lib.run_next_ascii_at wr w.heap.size s pos ty hk hps low, okI_not bad⟩
          · exact ⟨_, _, fun ty => Lib.run_next_any_at wr w.heap.size s pos ty hk hps, okI_high (by have := (decode_high s pos hps (by omega)).1; omega) fl⟩
        obtain ⟨c, q, hnext, hc⟩ := N
        have cf := fun w => fitsAt_any _ _ false w hc
        have hb1 : Below w.heap.size w (wr.iterAt w.heap.size s q) := Lib.below_iterAt hb (Nat.le_refl _) s q
        clear hk hb hs hf bad hc fl
        generalize wr.iterAt w.heap.size s q = W1 at *
        go_wp2_with fail
        refine (cf _).mono ?_
        rintro e w' ⟨rfl, rfl⟩
        go_wp2
        go_ret
        exact ⟨rfl, hb1⟩
  · have d0 : ((s.size : Int) != 10) = true := bne_iff_ne.2 (by omega)
    clear L hF hs
    go_enter Tryz.func78, Tryz.ntmps78
    go_wp2
    go_ret
    exact ⟨rfl, Below.refl _ _⟩

theorem number_any (s : ByteArray) (n : Nat) (f : Nat → Int) (v : Int) (w : World) (hn : s.size = n) (h4 : n ≤ 4) (hf : ∀ i (h : i < s.size), (s[i].toNat : Int) = 48 + f i ∧ 0 ≤ f i ∧ f i ≤ 9) (hv : v = vl f n) :
    Calls Tryz.prog 80 #[.string s] w fun e w' => e = .returned (.int .i64 v) ∧ Below w.heap.size w w' := by
  have hk0 : (w.iter s 0).heap[w.heap.size]? = some (.stringIter s 0) := World.iter_heap w s 0
  have hb0 : Below w.heap.size w (w.iter s 0) := (Below.refl _ w).alloc (Nat.le_refl _) _
  have HF := Lib.hid hf
  have HN := Lib.hid hn
  have HV := Lib.hid hv
  have HB : Hid (∀ k, k ≤ n → 0 ≤ vl f k ∧ vl f k ≤ 9999) := Lib.hid (fun k hk => vl_bd (n := n) (fun i hi => (hf i (by omega)).2) hk h4)
  clear hf hn hv
  go_enter Tryz.func80, Tryz.ntmps80
  go_wp2
  go_loopw [3] (fun N wr => ∃ pos : Nat, pos ≤ n ∧ N = .int .i64 (vl f pos) ∧ wr.heap[w.heap.size]? = some (.stringIter s pos) ∧ Below w.heap.size w wr) (fun _ wr => n - wr.iterPos w.heap.size)
  case atStart => exact ⟨0, by omega, rfl, hk0, hb0⟩
  case round =>
    clear hk0 hb0
    obtain ⟨pos, hp, rfl, hk, hb⟩ := hrel
    by_cases hlt : pos < n
    · have hps : pos < s.size := by have := HN.out; omega
      obtain ⟨e1, d0, d1⟩ := HF.out pos hps
      have hnext : ∀ ty, (Instr.next (.pointer (some ⟨w.heap.size, 0, none⟩)) true ty).run Tryz.prog wr = _ := fun ty => Lib.run_next_ascii_at wr w.heap.size s pos ty hk hps (by omega)
      rw [e1] at hnext
      have hk1 := Lib.iterAt_heap wr w.heap.size s pos (pos + 1) hk
      have hb1 : Below w.heap.size w (wr.iterAt w.heap.size s (pos + 1)) := Lib.below_iterAt hb (Nat.le_refl _) s (pos + 1)
      have hmu : wr.iterPos w.heap.size = pos := by simp [World.iterPos, hk]
      obtain ⟨b0, b1⟩ := HB.out pos hp
      have HS : Hid (vl f (pos + 1) = 10 * vl f pos + f pos) := Lib.hid rfl
      have HM := Lib.hid hmu
      clear hk hb hmu e1 hps
      generalize vl f pos = a at *
      generalize f pos = d at *
      generalize wr.iterAt w.heap.size s (pos + 1) = W1 at *
      go_wp2
      go_roundw
      case rel => exact ⟨pos + 1, by omega, by rw [HS.out]; go_num, hk1, hb1⟩
      case measure =>
        have : W1.iterPos w.heap.size = pos + 1 := by simp [World.iterPos, hk1]
        rw [HM.out, this]; omega
    · obtain rfl : pos = n := by omega
      have hnext : ∀ ty, (Instr.next (.pointer (some ⟨w.heap.size, 0, none⟩)) true ty).run Tryz.prog wr = _ := fun ty => Lib.run_next_end_at wr w.heap.size s pos ty hk (by have := HN.out; omega)
      clear hk
      go_wp2
      go_ret
      exact ⟨congrArg (fun x => Ending.returned (.int .i64 x)) HV.out.symm, hb⟩

theorem num4 (n : Int) (w : World) (h0 : 0 ≤ n) (h1 : n ≤ 9999) : Calls Tryz.prog 80 #[.string (s4 n)] w fun e w' => e = .returned (.int .i64 n) ∧ Below w.heap.size w w' :=
  number_any (s4 n) 4 (fun i => [n / 1000, n / 100 % 10, n / 10 % 10, n % 10].getD i 0) n w rfl (by omega) (fun i h => by
    have hi : i = 0 ∨ i = 1 ∨ i = 2 ∨ i = 3 := by
      have : i < 4 := h
      omega
    rcases hi with rfl | rfl | rfl | rfl
    · exact ⟨dg_val (k := n / 1000) (by omega) (by omega), by simp; omega, by simp; omega⟩
    · exact ⟨dg_val (k := n / 100 % 10) (by omega) (by omega), by simp; omega, by simp; omega⟩
    · exact ⟨dg_val (k := n / 10 % 10) (by omega) (by omega), by simp; omega, by simp; omega⟩
    · exact ⟨dg_val (k := n % 10) (by omega) (by omega), by simp; omega, by simp; omega⟩) (by simp [vl]; omega)
theorem num2 (n : Int) (w : World) (h0 : 0 ≤ n) (h1 : n ≤ 99) : Calls Tryz.prog 80 #[.string (s2 n)] w fun e w' => e = .returned (.int .i64 n) ∧ Below w.heap.size w w' :=
  number_any (s2 n) 2 (fun i => [n / 10, n % 10].getD i 0) n w rfl (by omega) (fun i h => by
    have hi : i = 0 ∨ i = 1 := by
      have : i < 2 := h
      omega
    rcases hi with rfl | rfl
    · exact ⟨dg_val (k := n / 10) (by omega) (by omega), by simp; omega, by simp; omega⟩
    · exact ⟨dg_val (k := n % 10) (by omega) (by omega), by simp; omega, by simp; omega⟩) (by simp [vl]; omega)
theorem num1 (n : Int) (w : World) (h0 : 0 ≤ n) (h1 : n ≤ 9) : Calls Tryz.prog 80 #[.string (s1 n)] w fun e w' => e = .returned (.int .i64 n) ∧ Below w.heap.size w w' :=
  number_any (s1 n) 1 (fun _ => n) n w rfl (by omega) (fun i h => by
    obtain rfl : i = 0 := by
      have : i < 1 := h
      omega
    exact ⟨dg_val (k := n) (by omega) (by omega), h0, h1⟩) (by simp [vl])

theorem dateF_low : ∀ i (h : i < dateF.size), dateF[i].toNat < 128 := by
  intro i h
  have hi : i = 0 ∨ i = 1 ∨ i = 2 ∨ i = 3 ∨ i = 4 ∨ i = 5 ∨ i = 6 ∨ i = 7 ∨ i = 8 ∨ i = 9 := by
    have : i < 10 := h
    omega
  rcases hi with rfl | rfl | rfl | rfl | rfl | rfl | rfl | rfl | rfl | rfl <;> first | (show (48 : UInt8).toNat < 128; decide) | (show (45 : UInt8).toNat < 128; decide) | (show (87 : UInt8).toNat < 128; decide)
theorem isoF_low : ∀ i (h : i < isoF.size), isoF[i].toNat < 128 := by
  intro i h
  have hi : i = 0 ∨ i = 1 ∨ i = 2 ∨ i = 3 ∨ i = 4 ∨ i = 5 ∨ i = 6 ∨ i = 7 ∨ i = 8 ∨ i = 9 := by
    have : i < 10 := h
    omega
  rcases hi with rfl | rfl | rfl | rfl | rfl | rfl | rfl | rfl | rfl | rfl <;> first | (show (48 : UInt8).toNat < 128; decide) | (show (45 : UInt8).toNat < 128; decide) | (show (87 : UInt8).toNat < 128; decide)

theorem Parse_any (s : ByteArray) (v er : Int) (w : World) (hm : s.size ≤ maxLen) (R : PaRes s v er) (T : Tab w) :
    Calls Tryz.prog 43 #[.string s] w fun e w' => e = .returned (.tuple #[.int .i64 v, .int .i64 er]) ∧ Below w.heap.size w w' := by
  rcases R with ⟨y, m, d, y0, y1, m0, m1, d0, d1, hs, R⟩ | ⟨L, rfl, rfl⟩
  · have cf := fun w => fits_yes s dateF w rfl dateF_low (by rw [hs]; exact date_like y0 y1 m0 m1 d0 d1)
    have h10 : s.size = 10 := by rw [hs]; rfl
    have cy : ∀ w, Calls Tryz.prog 80 #[.string (s.extract 0 4)] w fun e w' => e = .returned (.int .i64 y) ∧ Below w.heap.size w w' := fun w => by rw [hs, dcut_y]; exact num4 y w y0 y1
    have cm : ∀ w, Calls Tryz.prog 80 #[.string (s.extract 5 7)] w fun e w' => e = .returned (.int .i64 m) ∧ Below w.heap.size w w' := fun w => by rw [hs, dcut_m]; exact num2 m w m0 m1
    have cd : ∀ w, Calls Tryz.prog 80 #[.string (s.extract 8 10)] w fun e w' => e = .returned (.int .i64 d) ∧ Below w.heap.size w w' := fun w => by rw [hs, dcut_d]; exact num2 d w d0 d1
    have cD := fun w T => Day_any y m d v er w R T
    clear hs R y0 y1 m0 m1 d0 d1 hm
    go_enter Tryz.func43, Tryz.ntmps43
    go_wp2_with fail
    refine (cf _).mono ?_
    rintro e w1 ⟨rfl, hb1⟩
    have T1 := T.kept hb1
    clear cf T
    go_wp2
    go_region_held3 (fun w' => Below w1.heap.size w1 w')
      (first | (with_reducible assumption) | (with_reducible exact Below.refl _ _) | exact (Below.refl _ _).drew)
      (first
        | (go_at_call 80; first
          | ((with_reducible refine (cy _).mono ?_); rintro e w20 ⟨rfl, hb⟩; have hB := bthen (w := w1) (by first | (with_reducible assumption) | (with_reducible exact Below.refl _ _) | exact (Below.refl _ _).drew) hb)
          | ((with_reducible refine (cm _).mono ?_); rintro e w20 ⟨rfl, hb⟩; have hB := bthen (w := w1) (by first | (with_reducible assumption) | (with_reducible exact Below.refl _ _) | exact (Below.refl _ _).drew) hb)
          | ((with_reducible refine (cd _).mono ?_); rintro e w20 ⟨rfl, hb⟩; have hB := bthen (w := w1) (by first | (with_reducible assumption) | (with_reducible exact Below.refl _ _) | exact (Below.refl _ _).drew) hb))
        | (go_at_call 79; (with_reducible refine (cD _ (T1.kept (by first | (with_reducible assumption) | (with_reducible exact Below.refl _ _) | exact (Below.refl _ _).drew))).mono ?_); rintro e w20 ⟨rfl, hb⟩; have hB := bthen (w := w1) (by first | (with_reducible assumption) | (with_reducible exact Below.refl _ _) | exact (Below.refl _ _).drew) hb))
    all_goals go_wp2
    all_goals
      go_ret2
      exact ⟨rfl, bthen hb1 hB⟩
  · have cf := fun w => fits_no s dateF w rfl dateF_low hm L
    clear L
    go_enter Tryz.func43, Tryz.ntmps43
    go_wp2_with fail
    refine (cf _).mono ?_
    rintro e w1 ⟨rfl, hb1⟩
    go_wp2
    go_ret2
    exact ⟨rfl, hb1⟩

end Go.Proofs.YtkfogmaogfgcgaaGreatDoor.Tp
