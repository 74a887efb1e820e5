/- What Number, Level and Parse of the reference of layer 18 come to. -/
import Derived.Test.YtfjckgnclhpmcaaDoorNref
namespace Go.Proofs.YtfjckgnclhpmcaaDoor.Nr
set_option linter.unusedSimpArgs false
set_option linter.unusedVariables false
open Go.RowKit Go.Proofs.YtfjckgnclhpmcaaDoor.Pr Go.Proofs.YtfjckgnclhpmcaaDoor.Nm Go.Proofs.YtfjckgnclhpmcaaDoor.Wm Go.Proofs.YtfjckgnclhpmcaaDoor.Wc Go.Proofs.YtfjckgnclhpmcaaDoor.Bx Go.Proofs.YtfjckgnclhpmcaaDoor.Fs Go.Proofs.YtfjckgnclhpmcaaDoor.Bn Go.Proofs.YtfjckgnclhpmcaaDoor.Np

set_option maxHeartbeats 1000000

def NumA (s : ByteArray) (v : Int) (b : Bool) : Prop := (AllDig s ∧ v = val s s.size ∧ b = decide (0 < s.size)) ∨ (¬ AllDig s ∧ v = 0 ∧ b = false)
theorem numa_ex (s : ByteArray) : ∃ v b, NumA s v b := by
  by_cases h : AllDig s
  · exact ⟨_, _, .inl ⟨h, rfl, rfl⟩⟩
  · exact ⟨0, false, .inr ⟨h, rfl, rfl⟩⟩
set_option maxRecDepth 100000 in
theorem rNumber_any (s : ByteArray) (v : Int) (b : Bool) (w : World) (h4 : s.size ≤ 4) (R : NumA s v b) :
    Calls Tryd.prog 27 #[.string s] w fun e w' => e = .returned (.tuple #[.int .i64 v, .bool b]) ∧ Below w.heap.size w w' := by
  have F : ∀ m, m ≤ s.size → (∀ k, k < m → IsDig (byt s k)) → ∀ k (hk : k < m), ∃ a d : Int, a = val s k ∧ (s[k]?.map (·.toNat)) = some (48 + d).toNat ∧ val s (k + 1) = 10 * a + d ∧ 0 ≤ a ∧ a ≤ 9999 ∧ 0 ≤ d ∧ d ≤ 9 := by
    intro m hm hd k hk
    have g : ∀ j, j ≤ m → 0 ≤ val s j ∧ val s j < 10 ^ j := by
      intro j
      induction j with
      | zero => intro _; simp [val, vl]
      | succ j ih =>
        intro hj
        have a := ih (by omega)
        have d := hd j (by omega)
        unfold IsDig at d
        rw [val_succ, Int.pow_succ]
        omega
    have a0 := g k (by omega)
    have p := pow_up (a := k) (b := 4) (by omega)
    have d := hd k hk
    have ks : k < s.size := by omega
    unfold IsDig at d
    rw [byt_at ks] at d
    refine ⟨_, (s[k].toNat : Int) - 48, rfl, ?_, ?_, a0.1, by omega, by omega, by omega⟩
    · rw [show (48 + ((s[k].toNat : Int) - 48)).toNat = s[k].toNat by omega]
      simp [ks]
    · rw [val_succ, byt_at ks]
  rcases R with ⟨ad, hv, hb⟩ | ⟨nd, rfl, rfl⟩
  · have FH := Lib.hid (F s.size (Nat.le_refl _) ad)
    have V := Lib.hid hv
    have HB := Lib.hid hb
    clear ad hv hb F
    go_enter Tryd.func27, Tryd.ntmps27
    go_wp2
    go_loopw [4, 5, 8] (fun N _ X wr => ∃ k : Nat, k ≤ s.size ∧ X = .int .i64 (k : Int) ∧ (∃ a : Int, N = .int .i64 a ∧ Hid (a = val s k)) ∧ Below w.heap.size w wr) (fun _ _ X _ => s.size - (intOf X).toNat)
    case atStart => exact ⟨0, by omega, rfl, ⟨0, rfl, Lib.hid rfl⟩, Below.refl _ _⟩
    case round =>
      obtain ⟨k, hk, rfl, ⟨a, rfl, ha⟩, B⟩ := hrel
      by_cases hlt : k < s.size
      · obtain ⟨a', d, e1, e2, e3, a0, a1, d0, d1⟩ := FH.out k hlt
        obtain rfl : a = a' := ha.out.trans e1.symm
        have pp : (0 : Int) ≤ (k : Int) := by omega
        have bp : (k : Int) < (s.size : Int) := by omega
        have ec : (s[k].toNat : Int) = 48 + d := by
          simp [hlt] at e2; omega
        have E3 := Lib.hid e3
        clear e1 e2 e3 ha
        go_wp2
        go_roundw
        case rel => exact ⟨k + 1, by omega, by go_num, ⟨_, rfl, Lib.hid (by have := E3.out; omega)⟩, B⟩
        case measure => show s.size - ((k : Int) + 1).toNat < s.size - ((k : Int)).toNat; omega
      · obtain rfl : k = s.size := by omega
        obtain rfl : a = v := ha.out.trans V.out.symm
        clear ha
        go_wp2
        go_ret2
        exact ⟨by rw [HB.out]; simp, B⟩
  · obtain ⟨m, m0, bad, good⟩ := first_bad nd
    have FH := Lib.hid (F m (by omega) good)
    have Bd := Lib.hid (not_dig bad)
    clear nd good bad F
    go_enter Tryd.func27, Tryd.ntmps27
    go_wp2
    go_loopw [4, 5, 8] (fun N _ X wr => ∃ k : Nat, k ≤ m ∧ X = .int .i64 (k : Int) ∧ (∃ a : Int, N = .int .i64 a ∧ Hid (a = val s k)) ∧ Below w.heap.size w wr) (fun _ _ X _ => s.size - (intOf X).toNat)
    case atStart => exact ⟨0, by omega, rfl, ⟨0, rfl, Lib.hid rfl⟩, Below.refl _ _⟩
    case round =>
      obtain ⟨k, hk, rfl, ⟨a, rfl, ha⟩, B⟩ := hrel
      have ks : k < s.size := by omega
      have pp : (0 : Int) ≤ (k : Int) := by omega
      have bp : (k : Int) < (s.size : Int) := by omega
      by_cases hlt : k < m
      · obtain ⟨a', d, e1, e2, e3, a0, a1, d0, d1⟩ := FH.out k hlt
        obtain rfl : a = a' := ha.out.trans e1.symm
        have ec : (s[k].toNat : Int) = 48 + d := by
          simp [ks] at e2; omega
        have E3 := Lib.hid e3
        clear e1 e2 e3 ha
        go_wp2
        go_roundw
        case rel => exact ⟨k + 1, by omega, by go_num, ⟨_, rfl, Lib.hid (by have := E3.out; omega)⟩, B⟩
        case measure => show s.size - ((k : Int) + 1).toNat < s.size - ((k : Int)).toNat; omega
      · obtain rfl : k = m := by omega
        have d := Bd.out
        rw [byt_at ks] at d
        rcases d with d | ⟨d0, d1⟩
        · go_wp2
          go_ret2
          exact ⟨rfl, B⟩
        · go_wp2
          go_ret2
          exact ⟨rfl, B⟩

set_option maxRecDepth 100000 in
theorem rLevel_any (s : ByteArray) (L er : Int) (w : World) (R : LevelA s L er) :
    Calls Tryd.prog 15 #[.string s] w fun e w' => e = .returned (.tuple #[.int .i64 L, .int .i64 er]) ∧ Below w.heap.size w w' := by
  have X := Box.new w #[.string ⟨#[121, 101, 97, 114]⟩, .string ⟨#[104, 97, 108, 102]⟩, .string ⟨#[113, 117, 97, 114, 116, 101, 114]⟩, .string ⟨#[112, 101, 114, 105, 111, 100]⟩, .string ⟨#[119, 101, 101, 107]⟩] 9
  have B := balloc (Below.refl _ w) (.cells #[.string ⟨#[121, 101, 97, 114]⟩, .string ⟨#[104, 97, 108, 102]⟩, .string ⟨#[113, 117, 97, 114, 116, 101, 114]⟩, .string ⟨#[112, 101, 114, 105, 111, 100]⟩, .string ⟨#[119, 101, 101, 107]⟩] 9)
  have RH := Lib.hid R
  clear R
  go_enter Tryd.func15, Tryd.ntmps15
  go_wp2
  generalize w.alloc (.cells #[.string ⟨#[121, 101, 97, 114]⟩, .string ⟨#[104, 97, 108, 102]⟩, .string ⟨#[113, 117, 97, 114, 116, 101, 114]⟩, .string ⟨#[112, 101, 114, 105, 111, 100]⟩, .string ⟨#[119, 101, 101, 107]⟩] 9) = W0 at *
  have XC : Hid (∀ k : Nat, k < 5 → W0.cell? ⟨w.heap.size, k, none⟩ = some (.string (lname ((k : Int) + 1)))) := Lib.hid (fun k hk => by
    rcases (by omega : k = 0 ∨ k = 1 ∨ k = 2 ∨ k = 3 ∨ k = 4) with rfl | rfl | rfl | rfl | rfl
    · exact X.cell 0 _ rfl
    · exact X.cell 1 _ rfl
    · exact X.cell 2 _ rfl
    · exact X.cell 3 _ rfl
    · exact X.cell 4 _ rfl)
  have xl := X.lt
  clear X
  go_loopw [8] (fun X wr => ∃ k : Nat, k ≤ 5 ∧ X = .int .i64 (k : Int) ∧ Hid (∀ j : Nat, j < k → s ≠ lname ((j : Int) + 1)) ∧ Below W0.heap.size W0 wr) (fun X _ => 6 - (intOf X).toNat)
  case atStart => exact ⟨0, by omega, rfl, Lib.hid (fun j h => absurd h (by omega)), Below.refl _ _⟩
  case round =>
    obtain ⟨k, hk, rfl, NO, B2⟩ := hrel
    have pp : (0 : Int) ≤ (k : Int) := by omega
    by_cases hlt : k < 5
    · have bp : (k : Int) < 5 := by omega
      have xc := (B2.cell (p := ⟨w.heap.size, k, none⟩) xl).trans (XC.out k hlt)
      by_cases e : s = lname ((k : Int) + 1)
      · have R' : L = (k : Int) + 1 ∧ er = 0 := by
          rcases RH.out with ⟨l0, l1, e2, rfl⟩ | ⟨no, _⟩
          · exact ⟨lname_inj _ _ l0 l1 (by omega) (by omega) (e2.symm.trans e), rfl⟩
          · exact absurd e (no _ (by omega) (by omega))
        obtain ⟨rfl, rfl⟩ := R'
        rw [← e] at xc
        have de : (s.toList == s.toList) = true := by simp
        clear e RH NO XC
        go_wp2
        go_ret2
        exact ⟨rfl, bthen B B2⟩
      · have de : (s.toList == (lname ((k : Int) + 1)).toList) = false := by rw [same_list]; exact decide_eq_false e
        have N2 : Hid (∀ j : Nat, j < k + 1 → s ≠ lname ((j : Int) + 1)) := Lib.hid (fun j hj => by
          by_cases q : j = k
          · subst q; exact e
          · exact NO.out j (by omega))
        clear e
        generalize lname ((k : Int) + 1) = nm at *
        go_wp2
        go_roundw
        case rel => exact ⟨k + 1, by omega, by go_num, N2, B2⟩
        case measure => show 6 - ((k : Int) + 1).toNat < 6 - ((k : Int)).toNat; omega
    · obtain rfl : k = 5 := by omega
      have R' : L = 0 ∧ er = 5 := by
        rcases RH.out with ⟨l0, l1, e2, rfl⟩ | ⟨no, a, b⟩
        · have := NO.out (L - 1).toNat (by omega)
          rw [show (((L - 1).toNat : Nat) : Int) + 1 = L by omega] at this
          exact absurd e2 this
        · exact ⟨a, b⟩
      obtain ⟨rfl, rfl⟩ := R'
      go_wp2
      go_ret2
      exact ⟨rfl, bthen B B2⟩

end Go.Proofs.YtfjckgnclhpmcaaDoor.Nr
