/- What Level, Amount and Small of package label come to. -/
import Derived.Test.YtfjckgnclhpmcaaDoorNlev
import Derived.Test.YtfjckgnclhpmcaaDoorFload
namespace Go.Proofs.YtfjckgnclhpmcaaDoor.Np
set_option linter.unusedSimpArgs false
set_option linter.unusedVariables false
open Go.RowKit Go.Proofs.YtfjckgnclhpmcaaDoor.Pr Go.Proofs.YtfjckgnclhpmcaaDoor.Nm Go.Proofs.YtfjckgnclhpmcaaDoor.Wm Go.Proofs.YtfjckgnclhpmcaaDoor.Wc Go.Proofs.YtfjckgnclhpmcaaDoor.Bx Go.Proofs.YtfjckgnclhpmcaaDoor.Fs

set_option maxHeartbeats 2000000

/-- the table as a whole -/
def LV : List Value := [.string ⟨#[121, 101, 97, 114]⟩, .string ⟨#[]⟩, .int .i64 0, .int .i64 1, .string ⟨#[104, 97, 108, 102]⟩, .string ⟨#[45, 72]⟩, .int .i64 1, .int .i64 2, .string ⟨#[113, 117, 97, 114, 116, 101, 114]⟩, .string ⟨#[45, 81]⟩, .int .i64 1, .int .i64 4, .string ⟨#[112, 101, 114, 105, 111, 100]⟩, .string ⟨#[45, 80]⟩, .int .i64 2, .int .i64 52, .string ⟨#[119, 101, 101, 107]⟩, .string ⟨#[45, 87]⟩, .int .i64 2, .int .i64 60]
theorem lev_range {W : World} (p : Lev W) : W.rangeAt 0 0 LV := by
  intro j v h
  have hj : j < 20 := (List.getElem?_eq_some_iff.1 h).1
  rcases (by omega : j = 0 ∨ j = 1 ∨ j = 2 ∨ j = 3 ∨ j = 4 ∨ j = 5 ∨ j = 6 ∨ j = 7 ∨ j = 8 ∨ j = 9 ∨ j = 10 ∨ j = 11 ∨ j = 12 ∨ j = 13 ∨ j = 14 ∨ j = 15 ∨ j = 16 ∨ j = 17 ∨ j = 18 ∨ j = 19) with rfl | rfl | rfl | rfl | rfl | rfl | rfl | rfl | rfl | rfl | rfl | rfl | rfl | rfl | rfl | rfl | rfl | rfl | rfl | rfl
  · cases h; exact p.c0
  · cases h; exact p.c1
  · cases h; exact p.c2
  · cases h; exact p.c3
  · cases h; exact p.c4
  · cases h; exact p.c5
  · cases h; exact p.c6
  · cases h; exact p.c7
  · cases h; exact p.c8
  · cases h; exact p.c9
  · cases h; exact p.c10
  · cases h; exact p.c11
  · cases h; exact p.c12
  · cases h; exact p.c13
  · cases h; exact p.c14
  · cases h; exact p.c15
  · cases h; exact p.c16
  · cases h; exact p.c17
  · cases h; exact p.c18
  · cases h; exact p.c19
theorem infoLev : (Tryd.prog.info? 42).map (·.size) = some LV.length := by kernel_rfl
theorem lev_at (k : Nat) (h : k < 5) (w : World) : (Instr.index 42 (.agg LV.toArray) (.int .i64 (k : Int))).run Tryd.prog w = .ok (.agg #[.string (lname ((k : Int) + 1)), .string (sgn ((k : Int) + 1)), .int .i64 (dgc ((k : Int) + 1) : Nat), .int .i64 (most ((k : Int) + 1))]) w := lev_index k h w

theorem lname_inj (a b : Int) (a0 : 1 ≤ a) (a1 : a ≤ 5) (b0 : 1 ≤ b) (b1 : b ≤ 5) (e : lname a = lname b) : a = b := by
  have ha : a = 1 ∨ a = 2 ∨ a = 3 ∨ a = 4 ∨ a = 5 := by omega
  have hb : b = 1 ∨ b = 2 ∨ b = 3 ∨ b = 4 ∨ b = 5 := by omega
  rcases ha with rfl | rfl | rfl | rfl | rfl <;> rcases hb with rfl | rfl | rfl | rfl | rfl <;> first | rfl | (exfalso; simp [lname] at e; done)

set_option maxRecDepth 100000 in
theorem Level_any (s : ByteArray) (L er : Int) (w : World) (R : LevelA s L er) (T : Lev w) :
    Calls Tryd.prog 14 #[.string s] w fun e w' => e = .returned (.tuple #[.int .i64 L, .int .i64 er]) ∧ Below w.heap.size w w' := by
  have LR := lev_range T
  have H : Hid (∃ n : Nat, n ≤ 5 ∧ (∀ k : Nat, k < n → s ≠ lname ((k : Int) + 1)) ∧ ((n < 5 ∧ s = lname ((n : Int) + 1) ∧ L = (n : Int) + 1 ∧ er = 0) ∨ (n = 5 ∧ L = 0 ∧ er = 5))) := Lib.hid (by
    have key : ∀ n : Nat, n ≤ 5 → (∃ m : Nat, m < n ∧ (∀ k : Nat, k < m → s ≠ lname ((k : Int) + 1)) ∧ s = lname ((m : Int) + 1)) ∨ ∀ k : Nat, k < n → s ≠ lname ((k : Int) + 1) := by
      intro n
      induction n with
      | zero => intro _; exact .inr (fun k h => absurd h (by omega))
      | succ n ih =>
        intro hn
        rcases ih (by omega) with ⟨m, a, b, d⟩ | h
        · exact .inl ⟨m, by omega, b, d⟩
        · by_cases q : s = lname ((n : Int) + 1)
          · exact .inl ⟨n, by omega, h, q⟩
          · refine .inr (fun k hk => ?_)
            by_cases e : k = n
            · subst e; exact q
            · exact h k (by omega)
    rcases R with ⟨l0, l1, e, rfl⟩ | ⟨no, rfl, rfl⟩
    · rcases key 5 (by omega) with ⟨m, a, b, d⟩ | h
      · exact ⟨m, by omega, b, .inl ⟨a, d, lname_inj _ _ l0 l1 (by omega) (by omega) (e.symm.trans d), rfl⟩⟩
      · have := h (L - 1).toNat (by omega)
        rw [show (((L - 1).toNat : Nat) : Int) + 1 = L by omega] at this
        exact absurd e this
    · exact ⟨5, by omega, fun k hk => no _ (by omega) (by omega), .inr ⟨rfl, rfl, rfl⟩⟩)
  obtain ⟨n, n5, no, O⟩ := H.out
  have NO := Lib.hid no
  have OO := Lib.hid O
  clear H no O R
  go_enter Tryd.func14, Tryd.ntmps14
  go_upto_region 1 with fail
  apply wp_region_lit
  refine wpList_load_midG (by go_simp) _ _ rfl 0 0 rfl _ _ LR Tryd.underlying42 rfl infoLev ?_
  simp only [Act.put]
  have IX := Lib.hid lev_at
  generalize Value.agg LV.toArray = TV at *
  clear LR
  go_wp2
  go_loopw [7] (fun X wr => ∃ k : Nat, k ≤ n ∧ X = .int .i64 (k : Int) ∧ Below w.heap.size w wr) (fun X _ => 6 - (intOf X).toNat)
  case atStart => exact ⟨0, by omega, rfl, Below.refl _ _⟩
  case round =>
    obtain ⟨k, hk, rfl, B⟩ := hrel
    have pp : (0 : Int) ≤ (k : Int) := by omega
    by_cases hlt : k < n
    · have k5 : k < 5 := by omega
      have bp : (k : Int) < 5 := by omega
      have ix := IX.out k k5
      have ne := NO.out k hlt
      generalize lname ((k : Int) + 1) = nm at *
      generalize sgn ((k : Int) + 1) = sg at *
      generalize (dgc ((k : Int) + 1) : Nat) = dd at *
      generalize most ((k : Int) + 1) = mo at *
      have de : (s.toList == nm.toList) = false := by rw [same_list]; exact decide_eq_false ne
      have B2 := balloc B (.cells #[.string nm, .string sg, .int .i64 (dd : Int), .int .i64 mo] 41)
      clear ne
      go_wp2
      go_roundw
      case rel => exact ⟨k + 1, by omega, by go_num, B2⟩
      case measure => simp [intOf]; omega
    · obtain rfl : k = n := by omega
      rcases OO.out with ⟨k5, e, rfl, rfl⟩ | ⟨rfl, rfl, rfl⟩
      · have bp : (k : Int) < 5 := by omega
        have ix := IX.out k k5
        rw [← e] at ix
        generalize sgn ((k : Int) + 1) = sg at *
        generalize (dgc ((k : Int) + 1) : Nat) = dd at *
        generalize most ((k : Int) + 1) = mo at *
        have de : (s.toList == s.toList) = true := by simp
        have B2 := balloc B (.cells #[.string s, .string sg, .int .i64 (dd : Int), .int .i64 mo] 41)
        clear e
        go_wp2
        go_ret2
        exact ⟨rfl, B2⟩
      · go_wp2
        go_ret2
        exact ⟨rfl, B⟩

end Go.Proofs.YtfjckgnclhpmcaaDoor.Np
