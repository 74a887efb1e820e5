/- What Last and Near of the reference of layer 6 come to. -/
import Derived.Test.YtjiifmdjhdhabaaGreatDoorCref2
import Derived.Test.YtjiifmdjhdhabaaGreatDoorJP
namespace Go.Proofs.YtjiifmdjhdhabaaGreatDoor.Er
set_option linter.unusedSimpArgs false
set_option linter.unusedVariables false
open Go.RowKit Go.Proofs.YtjiifmdjhdhabaaGreatDoor.Bx Go.Proofs.YtjiifmdjhdhabaaGreatDoor.Cm Go.Proofs.YtjiifmdjhdhabaaGreatDoor.Cr Go.Proofs.YtjiifmdjhdhabaaGreatDoor.Em

set_option maxHeartbeats 1000000

theorem rLast_any (y m wd v er : Int) (w : World) (R : LastRes y m wd v er) :
    Calls Tryz.prog 81 #[.int .i64 y, .int .i64 m, .int .i64 wd] w fun e w' => e = .returned (.tuple #[.int .i64 v, .int .i64 er]) ∧ Below w.heap.size w w' := by
  rcases R with ⟨ok, h0, h1, hv, rfl⟩ | ⟨ok, h, rfl, rfl⟩ | ⟨no, rfl, rfl⟩
  · obtain ⟨l, hl⟩ : ∃ l, l = mlen y m := ⟨_, rfl⟩
    have cl := fun w => rLength_any y m l 0 w (.inl ⟨ok, hl, rfl⟩)
    have eo := end_ok ok
    rw [← hl] at eo
    obtain ⟨n, hn⟩ : ∃ n, n = mend y m := ⟨_, rfl⟩
    have cd := fun w => rDay_any y m l n 0 w (.inl ⟨eo, by rw [hn, hl]; rfl, rfl⟩)
    have er := end_range ok
    have bb := back_bd y m wd
    have wv : wday v = wd := by rw [hv]; exact back_wday h0 h1
    rw [← hn] at er hv
    have v0 : n - 6 ≤ v := by omega
    have v1 : v ≤ n := by omega
    obtain ⟨n0, n1⟩ := er
    have CW := Lib.hid (fun w => rWeekday_any v wd 0 w (.inl ⟨by omega, by omega, wv.symm, rfl⟩))
    have CN : Hid (∀ j w, v < j → j ≤ n → ∃ s : Int, (s == wd) = false ∧ Calls Tryz.prog 103 #[.int .i64 j] w fun e w' => e = .returned (.tuple #[.int .i64 s, .int .i64 0]) ∧ Below w.heap.size w w') :=
      Lib.hid (fun j w a b => ⟨wday j, beq_eq_false_iff_ne.2 (by intro e; unfold wday at e wv; omega), rWeekday_any j _ 0 w (.inl ⟨by omega, by omega, rfl, rfl⟩)⟩)
    clear hl hn eo bb hv wv ok
    go_enter Tryz.func81, Tryz.ntmps81
    go_wp2_with fail
    refine (cl _).mono ?_
    rintro e w' ⟨rfl, rfl⟩
    go_wp2_with fail
    refine (cd _).mono ?_
    rintro e w1 ⟨rfl, B1⟩
    go_wp2
    go_loopw [10] (fun D wr => ∃ j : Int, v ≤ j ∧ j ≤ n ∧ D = .int .i64 j ∧ Below w.heap.size w wr) (fun D _ => (intOf D).toNat)
    case atStart => exact ⟨n, v1, by omega, rfl, B1⟩
    case round =>
      clear B1
      obtain ⟨j, j0, j1, rfl, B1⟩ := hrel
      by_cases hj : j = v
      · subst hj
        have cw := CW.out
        go_wp2_with fail
        refine (cw _).mono ?_
        rintro e w2 ⟨rfl, hb⟩
        replace B1 := bthen B1 hb
        clear hb cw
        go_wp2
        go_ret2
        exact ⟨rfl, B1⟩
      · have j2 : v < j := by omega
        obtain ⟨s, sw, cj⟩ := CN.out j wr j2 j1
        clear hj
        go_wp2_with fail
        refine cj.mono ?_
        rintro e w2 ⟨rfl, hb⟩
        replace B1 := bthen B1 hb
        clear hb cj
        go_wp2
        go_roundw
        case rel => exact ⟨j - 1, by omega, by omega, rfl, B1⟩
        case measure => simp [intOf]; omega
  · have cl := fun w => rLength_any y m (mlen y m) 0 w (.inl ⟨ok, rfl, rfl⟩)
    have h' : wd < 1 ∨ (1 ≤ wd ∧ 7 < wd) := by omega
    clear h ok
    generalize mlen y m = l at cl
    rcases h' with h | ⟨h, h2⟩
    all_goals
      go_enter Tryz.func81, Tryz.ntmps81
      go_wp2_with fail
      refine (cl _).mono ?_
      rintro e w' ⟨rfl, rfl⟩
      go_wp2
      go_ret2
      exact ⟨rfl, Below.refl _ _⟩
  · have cl := fun w => rLength_any y m 0 4 w (.inr ⟨no, rfl, rfl⟩)
    clear no
    go_enter Tryz.func81, Tryz.ntmps81
    go_wp2_with fail
    refine (cl _).mono ?_
    rintro e w' ⟨rfl, rfl⟩
    go_wp2
    go_ret2
    exact ⟨rfl, Below.refl _ _⟩

theorem near_wday {y m wd : Int} (h0 : 1 ≤ wd) (h1 : wd ≤ 7) : wday (nearv y m wd) = wd := by
  have a := back_wday (y := y) (m := m) h0 h1
  unfold nearv
  split
  · unfold wday at *; omega
  · exact a
theorem near_bd (y m wd : Int) : mend y m - 3 ≤ nearv y m wd ∧ nearv y m wd ≤ mend y m + 3 := by
  have b := back_bd y m wd
  unfold nearv; split <;> omega

theorem rNear_any (y m wd v er : Int) (w : World) (R : NearRes y m wd v er) :
    Calls Tryz.prog 102 #[.int .i64 y, .int .i64 m, .int .i64 wd] w fun e w' => e = .returned (.tuple #[.int .i64 v, .int .i64 er]) ∧ Below w.heap.size w w' := by
  have O : (MonthOk y m ∧ 1 ≤ wd ∧ wd ≤ 7 ∧ ((nearv y m wd ≤ 3068036 ∧ v = nearv y m wd ∧ er = 0) ∨ (3068036 < nearv y m wd ∧ v = 0 ∧ er = 4))) ∨ (MonthOk y m ∧ ¬ (1 ≤ wd ∧ wd ≤ 7) ∧ v = 0 ∧ er = 1) ∨ (¬ MonthOk y m ∧ v = 0 ∧ er = 4) := by
    rcases R with ⟨ok, h0, h1, h⟩ | ⟨ok, h0, h1, h⟩ | h | h
    · exact .inl ⟨ok, h0, h1, .inl h⟩
    · exact .inl ⟨ok, h0, h1, .inr h⟩
    · exact .inr (.inl h)
    · exact .inr (.inr h)
  clear R
  rcases O with ⟨ok, h0, h1, O⟩ | ⟨ok, h, rfl, rfl⟩ | ⟨no, rfl, rfl⟩
  · obtain ⟨l, hl⟩ : ∃ l, l = mlen y m := ⟨_, rfl⟩
    have cl := fun w => rLength_any y m l 0 w (.inl ⟨ok, hl, rfl⟩)
    have eo := end_ok ok
    rw [← hl] at eo
    obtain ⟨n, hn⟩ : ∃ n, n = mend y m := ⟨_, rfl⟩
    have cd := fun w => rDay_any y m l n 0 w (.inl ⟨eo, by rw [hn, hl]; rfl, rfl⟩)
    have er := end_range ok
    have wv := near_wday (y := y) (m := m) h0 h1
    have nb := near_bd y m wd
    generalize nearv y m wd = u at *
    rw [← hn] at er nb
    obtain ⟨n0, n1⟩ := er
    obtain ⟨u0, u1⟩ := nb
    have CN : Hid (∀ j w, j ≠ u → n - 3 ≤ j → j ≤ n + 3 → ∃ s q : Int, ((q = 0 ∧ (s == wd) = false) ∨ q = 4) ∧ Calls Tryz.prog 103 #[.int .i64 j] w fun e w' => e = .returned (.tuple #[.int .i64 s, .int .i64 q]) ∧ Below w.heap.size w w') :=
      Lib.hid (fun j w a b c => by
        by_cases k : j ≤ 3068036
        · exact ⟨wday j, 0, .inl ⟨rfl, beq_eq_false_iff_ne.2 (by intro e; unfold wday at e wv; omega)⟩, rWeekday_any j _ 0 w (.inl ⟨by omega, k, rfl, rfl⟩)⟩
        · exact ⟨0, 4, .inr rfl, rWeekday_any j 0 4 w (.inr ⟨by omega, rfl, rfl⟩)⟩)
    rcases O with ⟨u2, rfl, rfl⟩ | ⟨u2, rfl, rfl⟩
    · have CW := Lib.hid (fun w => rWeekday_any v wd 0 w (.inl ⟨by omega, u2, wv.symm, rfl⟩))
      clear hl hn eo wv ok u2
      go_enter Tryz.func102, Tryz.ntmps102
      go_wp2_with fail
      refine (cl _).mono ?_
      rintro e w' ⟨rfl, rfl⟩
      go_wp2_with fail
      refine (cd _).mono ?_
      rintro e w1 ⟨rfl, B1⟩
      go_wp2
      go_loopw [12] (fun D wr => ∃ j : Int, n - 3 ≤ j ∧ j ≤ v ∧ D = .int .i64 j ∧ Below w.heap.size w wr) (fun D _ => (v + 1 - intOf D).toNat)
      case atStart => exact ⟨n - 3, by omega, u0, rfl, B1⟩
      case round =>
        clear B1
        obtain ⟨j, j0, j1, rfl, B1⟩ := hrel
        by_cases hj : j = v
        · subst hj
          have cw := CW.out
          go_wp2_with fail
          refine (cw _).mono ?_
          rintro e w2 ⟨rfl, hb⟩
          replace B1 := bthen B1 hb
          clear hb cw
          go_wp2
          go_ret2
          exact ⟨rfl, B1⟩
        · have j2 : j ≤ n + 3 := by omega
          obtain ⟨s, q, O, cj⟩ := CN.out j wr hj j0 j2
          have j3 : j < v := by omega
          clear hj
          rcases O with ⟨rfl, sw⟩ | rfl
          all_goals
            go_wp2_with fail
            refine cj.mono ?_
            rintro e w2 ⟨rfl, hb⟩
            replace B1 := bthen B1 hb
            clear hb cj
            go_wp2
            go_roundw
            case rel => exact ⟨j + 1, by omega, by omega, rfl, B1⟩
            case measure => simp [intOf]; omega
    · have CE := Lib.hid (fun w => rWeekday_any u 0 4 w (.inr ⟨by omega, rfl, rfl⟩))
      clear hl hn eo wv ok u2
      go_enter Tryz.func102, Tryz.ntmps102
      go_wp2_with fail
      refine (cl _).mono ?_
      rintro e w' ⟨rfl, rfl⟩
      go_wp2_with fail
      refine (cd _).mono ?_
      rintro e w1 ⟨rfl, B1⟩
      go_wp2
      go_loopw [12] (fun D wr => ∃ j : Int, n - 3 ≤ j ∧ j ≤ n + 4 ∧ D = .int .i64 j ∧ Below w.heap.size w wr) (fun D _ => (n + 4 - intOf D).toNat)
      case atStart => exact ⟨n - 3, by omega, by omega, rfl, B1⟩
      case round =>
        clear B1
        obtain ⟨j, j0, j1, rfl, B1⟩ := hrel
        by_cases hj : j ≤ n + 3
        · clear j1
          obtain ⟨s, q, O, cj⟩ : ∃ s q : Int, ((q = 0 ∧ (s == wd) = false) ∨ q = 4) ∧ Calls Tryz.prog 103 #[.int .i64 j] wr fun e w' => e = .returned (.tuple #[.int .i64 s, .int .i64 q]) ∧ Below wr.heap.size wr w' := by
            by_cases c : j = u
            · subst c; exact ⟨0, 4, .inr rfl, CE.out wr⟩
            · exact CN.out j wr c j0 hj
          rcases O with ⟨rfl, sw⟩ | rfl
          all_goals
            go_wp2_with fail
            refine cj.mono ?_
            rintro e w2 ⟨rfl, hb⟩
            replace B1 := bthen B1 hb
            clear hb cj
            go_wp2
            go_roundw
            case rel => exact ⟨j + 1, by omega, by omega, rfl, B1⟩
            case measure => simp [intOf]; omega
        · obtain rfl : j = n + 4 := by omega
          clear hj j0 j1
          have hj' : decide (n + 4 ≤ n + 3) = false := decide_eq_false (by omega)
          go_wp2
          go_ret2
          exact ⟨rfl, B1⟩
  · have cl := fun w => rLength_any y m (mlen y m) 0 w (.inl ⟨ok, rfl, rfl⟩)
    have h' : wd < 1 ∨ (1 ≤ wd ∧ 7 < wd) := by omega
    clear h ok
    generalize mlen y m = l at cl
    rcases h' with h | ⟨h, h2⟩
    all_goals
      go_enter Tryz.func102, Tryz.ntmps102
      go_wp2_with fail
      refine (cl _).mono ?_
      rintro e w' ⟨rfl, rfl⟩
      go_wp2
      go_ret2
      exact ⟨rfl, Below.refl _ _⟩
  · have cl := fun w => rLength_any y m 0 4 w (.inr ⟨no, rfl, rfl⟩)
    clear no
    go_enter Tryz.func102, Tryz.ntmps102
    go_wp2_with fail
    refine (cl _).mono ?_
    rintro e w' ⟨rfl, rfl⟩
    go_wp2
    go_ret2
    exact ⟨rfl, Below.refl _ _⟩

end Go.Proofs.YtjiifmdjhdhabaaGreatDoor.Er
