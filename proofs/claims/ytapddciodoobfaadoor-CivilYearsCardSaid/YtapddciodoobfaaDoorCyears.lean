/- CivilYears' walk. -/
import Derived.Test.YtapddciodoobfaaDoorClive
import Derived.Deep.RegionHeld3
namespace Go.Proofs.YtapddciodoobfaaDoor.Cl
set_option linter.unusedSimpArgs false
set_option linter.unusedVariables false
open Go.RowKit Go.Proofs.YtapddciodoobfaaDoor.Bx Go.Proofs.YtapddciodoobfaaDoor.Cm Go.Proofs.YtapddciodoobfaaDoor.Cp Go.Proofs.YtapddciodoobfaaDoor.Cr

set_option maxHeartbeats 1000000

set_option maxRecDepth 100000 in
theorem years_walk (y m d : Int) (w : World) (wy : (Lit.int .i64 y).wf = true) (wm : (Lit.int .i64 m).wf = true) (wd : (Lit.int .i64 d).wf = true) (tb : Tab w) :
    Calls Tryd.prog 7 #[.agg #[.int .i64 y, .int .i64 m, .int .i64 d]] w fun e w' => e = .returned (.bool true) ∧ Below w.heap.size w w' := by
  clear wy wm wd
  have cl := live_ok
  by_cases ok : DateOk y m d
  · obtain ⟨n, hn⟩ : ∃ n, n = num y m d := ⟨_, rfl⟩
    have cd := fun w => Day_b y m d n 0 w (.inl ⟨ok, hn, rfl⟩)
    have rg := num_range ok
    have bd := num_bd ok
    rw [← hn] at rg bd
    obtain ⟨n0, n1⟩ := rg
    obtain ⟨⟨h0, h1, h2, h3⟩, h4, h5⟩ := id ok
    have h6 := (mlen_bd y m).2
    obtain ⟨a, ha⟩ : ∃ a, a = dby y := ⟨_, rfl⟩
    obtain ⟨b, hb⟩ : ∃ b, b = dby y + 364 + lp y := ⟨_, rfl⟩
    obtain ⟨L, hL⟩ : ∃ L, L = 365 + lp y := ⟨_, rfl⟩
    obtain ⟨q, hq⟩ : ∃ q, q = leapB y := ⟨_, rfl⟩
    have F1 := year_first h0 h1
    have F2 := year_last h0 h1
    have ds := dby_succ y
    have cA := fun w => Day_b y 1 1 a 0 w (.inl ⟨F1.1, by rw [F1.2]; exact ha, rfl⟩)
    have cB := fun w => Day_b y 12 31 b 0 w (.inl ⟨F2.1, by rw [F2.2]; exact hb, rfl⟩)
    have cL := fun w => Leap_b y q w hq
    have O : (q = false ∧ L = 365) ∨ (q = true ∧ L = 366) := by
      have := leap_in h0 h1
      rw [← hq] at this
      cases q
      · exact .inl ⟨rfl, by rw [hL, this]; simp⟩
      · exact .inr ⟨rfl, by rw [hL, this]; simp⟩
    have HL := Lib.hid hL
    have a0 : 0 ≤ a := by rw [ha]; exact (dby_bd h0 (by omega)).1
    have an : a ≤ n := by omega
    have nb : n ≤ b := by omega
    have b1 : b ≤ 3068036 := by have := (num_range F2.1).2; rw [F2.2, ← hb] at this; exact this
    have hab : Hid (b - a + 1 = L) := Lib.hid (by rw [hb, ha, hL]; omega)
    have Y4 := fun h => year_400 ok h
    rw [← hn] at Y4
    by_cases c4 : y + 400 ≤ 9999
    · obtain ⟨ok4, e4, l4⟩ := Y4 c4
      obtain ⟨v, hv⟩ : ∃ v, v = wday n := ⟨_, rfl⟩
      have n2 := (num_range ok4).2
      rw [e4] at n2
      have ce := fun w => Day_b (y + 400) m d (n + 146097) 0 w (.inl ⟨ok4, e4.symm, rfl⟩)
      have cw := fun w => Weekday_b n v 0 w (.inl ⟨n0, n1, hv, rfl⟩)
      have cx := fun w => Weekday_b (n + 146097) v 0 w (.inl ⟨by omega, n2, by rw [wday_400]; exact hv, rfl⟩)
      have cM := fun w => Leap_b (y + 400) q w (by
        have t1 := leap_in h0 h1
        have t2 := leap_in (y := y + 400) (by omega) c4
        rw [l4, t1] at t2
        rw [← hq] at t2
        cases q <;> cases hh : leapB (y + 400) <;> simp [hh] at t2 <;> rfl)
      clear ok ok4 e4 l4 hn hv ha hb hL hq F1 F2 ds bd Y4 h4 h5 h6
      go_enter Tryd.func7, Tryd.ntmps7
      go_wp2_with fail
      refine (cl _ (by with_reducible first | exact tb.kept B1 | exact (tb.kept B1).alloc _ | exact ((tb.kept B1).alloc _).alloc _ | exact tb | exact tb.alloc _ | exact (tb.alloc _).alloc _ | exact tb.kept (bthen B1 (by first | assumption | exact Below.refl _ _ | exact (Below.refl _ _).drew)))).mono ?_
      rintro e w1 ⟨rfl, hb⟩
      have P1 := (Tri.new w (.int .i64 y) (.int .i64 m) (.int .i64 d) 23).kept hb
      have B1 := bthen (balloc (Below.refl _ w) _) hb
      try simp only [World.size_alloc] at P1
      clear hb
      obtain ⟨z0, c00, c01, c02, _, _, _⟩ := id P1
      go_wp2_with fail
      refine (cd _ (by with_reducible first | exact tb.kept B1 | exact (tb.kept B1).alloc _ | exact ((tb.kept B1).alloc _).alloc _ | exact tb | exact tb.alloc _ | exact (tb.alloc _).alloc _ | exact tb.kept (bthen B1 (by first | assumption | exact Below.refl _ _ | exact (Below.refl _ _).drew)))).mono ?_
      rintro e w2 ⟨rfl, hb⟩
      replace P1 := (P1).kept hb
      replace B1 := bthen (B1) hb
      clear hb z0 c00 c01 c02
      obtain ⟨z0, c00, c01, c02, _, _, _⟩ := id P1
      go_wp2_with fail
      refine (ce _ (by with_reducible first | exact tb.kept B1 | exact (tb.kept B1).alloc _ | exact ((tb.kept B1).alloc _).alloc _ | exact tb | exact tb.alloc _ | exact (tb.alloc _).alloc _ | exact tb.kept (bthen B1 (by first | assumption | exact Below.refl _ _ | exact (Below.refl _ _).drew)))).mono ?_
      rintro e w3 ⟨rfl, hb⟩
      replace P1 := (P1).kept hb
      replace B1 := bthen (B1) hb
      clear hb z0 c00 c01 c02
      obtain ⟨z0, c00, c01, c02, _, _, _⟩ := id P1
      go_wp2_with fail
      refine (cw _ (by with_reducible first | exact tb.kept B1 | exact (tb.kept B1).alloc _ | exact ((tb.kept B1).alloc _).alloc _ | exact tb | exact tb.alloc _ | exact (tb.alloc _).alloc _ | exact tb.kept (bthen B1 (by first | assumption | exact Below.refl _ _ | exact (Below.refl _ _).drew)))).mono ?_
      rintro e w4 ⟨rfl, hb⟩
      replace P1 := (P1).kept hb
      replace B1 := bthen (B1) hb
      clear hb z0 c00 c01 c02
      obtain ⟨z0, c00, c01, c02, _, _, _⟩ := id P1
      go_wp2_with fail
      refine (cx _ (by with_reducible first | exact tb.kept B1 | exact (tb.kept B1).alloc _ | exact ((tb.kept B1).alloc _).alloc _ | exact tb | exact tb.alloc _ | exact (tb.alloc _).alloc _ | exact tb.kept (bthen B1 (by first | assumption | exact Below.refl _ _ | exact (Below.refl _ _).drew)))).mono ?_
      rintro e w5 ⟨rfl, hb⟩
      replace P1 := (P1).kept hb
      replace B1 := bthen (B1) hb
      clear hb z0 c00 c01 c02
      obtain ⟨z0, c00, c01, c02, _, _, _⟩ := id P1
      have H := Lib.hid (fun (W : World) (h : Below w5.heap.size w5 W) => heldT P1 h)
      have kn : IntKind.i64.wrap (n + 146097) = n + 146097 := IntWalk.i64_in _ (by omega)
      have ky : IntKind.i64.wrap (y + 400) = y + 400 := IntWalk.i64_in _ (by omega)
      go_wp2
      go_region_held3 (fun w' => Below w5.heap.size w5 w' ∧ w'.cell? ⟨w.heap.size, 0, none⟩ = some (.int .i64 y) ∧ w'.cell? ⟨w.heap.size, 1, none⟩ = some (.int .i64 m) ∧ w'.cell? ⟨w.heap.size, 2, none⟩ = some (.int .i64 d))
        ((refine H.out _ ?_; first | (with_reducible assumption) | exact (Below.refl _ _).drew))
        ((go_at_call 19; first
          | ((with_reducible refine (cL _ (by with_reducible first | exact tb.kept B1 | exact (tb.kept B1).alloc _ | exact ((tb.kept B1).alloc _).alloc _ | exact tb | exact tb.alloc _ | exact (tb.alloc _).alloc _ | exact tb.kept (bthen B1 (by first | assumption | exact Below.refl _ _ | exact (Below.refl _ _).drew)))).mono ?_); rintro e w20 ⟨rfl, hb⟩; have hB := bthen (w := w5) (by first | (with_reducible assumption) | (with_reducible exact Below.refl _ _) | exact (Below.refl _ _).drew) hb)
          | ((with_reducible refine (cM _ (by with_reducible first | exact tb.kept B1 | exact (tb.kept B1).alloc _ | exact ((tb.kept B1).alloc _).alloc _ | exact tb | exact tb.alloc _ | exact (tb.alloc _).alloc _ | exact tb.kept (bthen B1 (by first | assumption | exact Below.refl _ _ | exact (Below.refl _ _).drew)))).mono ?_); rintro e w20 ⟨rfl, hb⟩; have hB := bthen (w := w5) (by first | (with_reducible assumption) | (with_reducible exact Below.refl _ _) | exact (Below.refl _ _).drew) hb)))
      all_goals
        replace P1 := P1.kept hB
        replace B1 := bthen B1 hB
        clear hB H cM ce cw cx z0 c00 c01 c02 kn ky
        obtain ⟨z0, c00, c01, c02, _, _, _⟩ := id P1
        go_wp2_with fail
        refine (cA _ (by with_reducible first | exact tb.kept B1 | exact (tb.kept B1).alloc _ | exact ((tb.kept B1).alloc _).alloc _ | exact tb | exact tb.alloc _ | exact (tb.alloc _).alloc _ | exact tb.kept (bthen B1 (by first | assumption | exact Below.refl _ _ | exact (Below.refl _ _).drew)))).mono ?_
        rintro e w21 ⟨rfl, hb⟩
        replace P1 := P1.kept hb
        replace B1 := bthen B1 hb
        clear hb z0 c00 c01 c02
        obtain ⟨z0, c00, c01, c02, _, _, _⟩ := id P1
        go_wp2_with fail
        refine (cB _ (by with_reducible first | exact tb.kept B1 | exact (tb.kept B1).alloc _ | exact ((tb.kept B1).alloc _).alloc _ | exact tb | exact tb.alloc _ | exact (tb.alloc _).alloc _ | exact tb.kept (bthen B1 (by first | assumption | exact Below.refl _ _ | exact (Below.refl _ _).drew)))).mono ?_
        rintro e w22 ⟨rfl, hb⟩
        replace P1 := P1.kept hb
        replace B1 := bthen B1 hb
        clear hb z0 c00 c01 c02
        obtain ⟨z0, c00, c01, c02, _, _, _⟩ := id P1
        go_wp2
        go_loopw [15, 16] (fun S M wr => ∃ k : Int, 1 ≤ k ∧ k ≤ 13 ∧ M = .int .i64 k ∧ S = .int .i64 (cum y k) ∧ Below w.heap.size w wr ∧ Tri wr w.heap.size (.int .i64 y) (.int .i64 m) (.int .i64 d)) (fun _ M _ => (13 - intOf M).toNat)
        case atStart => exact ⟨1, by omega, by omega, rfl, by rw [cum_one], B1, P1⟩
        case round =>
          clear z0 c00 c01 c02 P1 B1
          obtain ⟨k, k0, k1, rfl, rfl, B1, P1⟩ := hrel
          obtain ⟨z0, c00, c01, c02, _, _, _⟩ := id P1
          have cb := cum_bd y k k0 k1
          have lb := lp_01 y
          have cb1 : cum y k ≤ 366 := by omega
          obtain ⟨cb0, _⟩ := cb
          by_cases c : k ≤ 12
          · obtain ⟨l, hl⟩ : ∃ l, l = mlen y k := ⟨_, rfl⟩
            have l0 := mlen_bd y k
            rw [← hl] at l0
            obtain ⟨l0, l1⟩ := l0
            have h : Hid (cum y (k + 1) = cum y k + l) := Lib.hid (by rw [cum_succ y k k0 c, hl])
            have cl := fun w => Length_b y k l 0 w (.inl ⟨⟨h0, h1, k0, c⟩, hl, rfl⟩)
            clear hl
            go_wp2_with fail
            refine (cl _ (by with_reducible first | exact tb.kept B1 | exact (tb.kept B1).alloc _ | exact ((tb.kept B1).alloc _).alloc _ | exact tb | exact tb.alloc _ | exact (tb.alloc _).alloc _ | exact tb.kept (bthen B1 (by first | assumption | exact Below.refl _ _ | exact (Below.refl _ _).drew)))).mono ?_
            rintro e w30 ⟨rfl, hb⟩
            replace P1 := P1.kept hb
            replace B1 := bthen B1 hb
            clear hb z0 c00 c01 c02
            go_wp2
            go_roundw
            case rel => exact ⟨k + 1, by omega, by omega, rfl, by rw [h.out], B1, P1⟩
            case measure => simp [intOf]; omega
          · obtain rfl : k = 13 := by omega
            rw [cum_end, ← HL.out]
            clear cb0 cb1 lb c
            go_wp2_with fail
            refine (cL _ (by with_reducible first | exact tb.kept B1 | exact (tb.kept B1).alloc _ | exact ((tb.kept B1).alloc _).alloc _ | exact tb | exact tb.alloc _ | exact (tb.alloc _).alloc _ | exact tb.kept (bthen B1 (by first | assumption | exact Below.refl _ _ | exact (Below.refl _ _).drew)))).mono ?_
            rintro e w31 ⟨rfl, hb⟩
            replace B1 := bthen B1 hb
            clear hb z0 c00 c01 c02 P1
            have hab' := hab.out
            rcases O with ⟨rfl, rfl⟩ | ⟨rfl, rfl⟩
            all_goals
              go_wp2
              go_ret
              exact ⟨by simp <;> omega, B1⟩
    · clear ok hn ha hb hL hq F1 F2 ds bd Y4 h4 h5 h6
      go_enter Tryd.func7, Tryd.ntmps7
      go_wp2_with fail
      refine (cl _ (by with_reducible first | exact tb.kept B1 | exact (tb.kept B1).alloc _ | exact ((tb.kept B1).alloc _).alloc _ | exact tb | exact tb.alloc _ | exact (tb.alloc _).alloc _ | exact tb.kept (bthen B1 (by first | assumption | exact Below.refl _ _ | exact (Below.refl _ _).drew)))).mono ?_
      rintro e w1 ⟨rfl, hb⟩
      have P1 := (Tri.new w (.int .i64 y) (.int .i64 m) (.int .i64 d) 23).kept hb
      have B1 := bthen (balloc (Below.refl _ w) _) hb
      try simp only [World.size_alloc] at P1
      clear hb
      obtain ⟨z0, c00, c01, c02, _, _, _⟩ := id P1
      go_wp2_with fail
      refine (cd _ (by with_reducible first | exact tb.kept B1 | exact (tb.kept B1).alloc _ | exact ((tb.kept B1).alloc _).alloc _ | exact tb | exact tb.alloc _ | exact (tb.alloc _).alloc _ | exact tb.kept (bthen B1 (by first | assumption | exact Below.refl _ _ | exact (Below.refl _ _).drew)))).mono ?_
      rintro e w2 ⟨rfl, hb⟩
      replace P1 := (P1).kept hb
      replace B1 := bthen (B1) hb
      clear hb z0 c00 c01 c02
      obtain ⟨z0, c00, c01, c02, _, _, _⟩ := id P1
      clear z0 c00 c01 c02
      obtain ⟨z0, c00, c01, c02, _, _, _⟩ := id P1
      go_wp2_with fail
      refine (cA _ (by with_reducible first | exact tb.kept B1 | exact (tb.kept B1).alloc _ | exact ((tb.kept B1).alloc _).alloc _ | exact tb | exact tb.alloc _ | exact (tb.alloc _).alloc _ | exact tb.kept (bthen B1 (by first | assumption | exact Below.refl _ _ | exact (Below.refl _ _).drew)))).mono ?_
      rintro e w21 ⟨rfl, hb⟩
      replace P1 := P1.kept hb
      replace B1 := bthen B1 hb
      clear hb z0 c00 c01 c02
      obtain ⟨z0, c00, c01, c02, _, _, _⟩ := id P1
      go_wp2_with fail
      refine (cB _ (by with_reducible first | exact tb.kept B1 | exact (tb.kept B1).alloc _ | exact ((tb.kept B1).alloc _).alloc _ | exact tb | exact tb.alloc _ | exact (tb.alloc _).alloc _ | exact tb.kept (bthen B1 (by first | assumption | exact Below.refl _ _ | exact (Below.refl _ _).drew)))).mono ?_
      rintro e w22 ⟨rfl, hb⟩
      replace P1 := P1.kept hb
      replace B1 := bthen B1 hb
      clear hb z0 c00 c01 c02
      obtain ⟨z0, c00, c01, c02, _, _, _⟩ := id P1
      go_wp2
      go_loopw [15, 16] (fun S M wr => ∃ k : Int, 1 ≤ k ∧ k ≤ 13 ∧ M = .int .i64 k ∧ S = .int .i64 (cum y k) ∧ Below w.heap.size w wr ∧ Tri wr w.heap.size (.int .i64 y) (.int .i64 m) (.int .i64 d)) (fun _ M _ => (13 - intOf M).toNat)
      case atStart => exact ⟨1, by omega, by omega, rfl, by rw [cum_one], B1, P1⟩
      case round =>
        clear z0 c00 c01 c02 P1 B1
        obtain ⟨k, k0, k1, rfl, rfl, B1, P1⟩ := hrel
        obtain ⟨z0, c00, c01, c02, _, _, _⟩ := id P1
        have cb := cum_bd y k k0 k1
        have lb := lp_01 y
        have cb1 : cum y k ≤ 366 := by omega
        obtain ⟨cb0, _⟩ := cb
        by_cases c : k ≤ 12
        · obtain ⟨l, hl⟩ : ∃ l, l = mlen y k := ⟨_, rfl⟩
          have l0 := mlen_bd y k
          rw [← hl] at l0
          obtain ⟨l0, l1⟩ := l0
          have h : Hid (cum y (k + 1) = cum y k + l) := Lib.hid (by rw [cum_succ y k k0 c, hl])
          have cl := fun w => Length_b y k l 0 w (.inl ⟨⟨h0, h1, k0, c⟩, hl, rfl⟩)
          clear hl
          go_wp2_with fail
          refine (cl _ (by with_reducible first | exact tb.kept B1 | exact (tb.kept B1).alloc _ | exact ((tb.kept B1).alloc _).alloc _ | exact tb | exact tb.alloc _ | exact (tb.alloc _).alloc _ | exact tb.kept (bthen B1 (by first | assumption | exact Below.refl _ _ | exact (Below.refl _ _).drew)))).mono ?_
          rintro e w30 ⟨rfl, hb⟩
          replace P1 := P1.kept hb
          replace B1 := bthen B1 hb
          clear hb z0 c00 c01 c02
          go_wp2
          go_roundw
          case rel => exact ⟨k + 1, by omega, by omega, rfl, by rw [h.out], B1, P1⟩
          case measure => simp [intOf]; omega
        · obtain rfl : k = 13 := by omega
          rw [cum_end, ← HL.out]
          clear cb0 cb1 lb c
          go_wp2_with fail
          refine (cL _ (by with_reducible first | exact tb.kept B1 | exact (tb.kept B1).alloc _ | exact ((tb.kept B1).alloc _).alloc _ | exact tb | exact tb.alloc _ | exact (tb.alloc _).alloc _ | exact tb.kept (bthen B1 (by first | assumption | exact Below.refl _ _ | exact (Below.refl _ _).drew)))).mono ?_
          rintro e w31 ⟨rfl, hb⟩
          replace B1 := bthen B1 hb
          clear hb z0 c00 c01 c02 P1
          have hab' := hab.out
          rcases O with ⟨rfl, rfl⟩ | ⟨rfl, rfl⟩
          all_goals
            go_wp2
            go_ret
            exact ⟨by simp <;> omega, B1⟩
  · have cd := fun w => Day_b y m d 0 4 w (.inr ⟨ok, rfl, rfl⟩)
    clear ok
    go_enter Tryd.func7, Tryd.ntmps7
    go_wp2_with fail
    refine (cl _ (by with_reducible first | exact tb.kept B1 | exact (tb.kept B1).alloc _ | exact ((tb.kept B1).alloc _).alloc _ | exact tb | exact tb.alloc _ | exact (tb.alloc _).alloc _ | exact tb.kept (bthen B1 (by first | assumption | exact Below.refl _ _ | exact (Below.refl _ _).drew)))).mono ?_
    rintro e w1 ⟨rfl, hb⟩
    have P1 := (Tri.new w (.int .i64 y) (.int .i64 m) (.int .i64 d) 23).kept hb
    have B1 := bthen (balloc (Below.refl _ w) _) hb
    try simp only [World.size_alloc] at P1
    clear hb
    obtain ⟨z0, c00, c01, c02, _, _, _⟩ := id P1
    go_wp2_with fail
    refine (cd _ (by with_reducible first | exact tb.kept B1 | exact (tb.kept B1).alloc _ | exact ((tb.kept B1).alloc _).alloc _ | exact tb | exact tb.alloc _ | exact (tb.alloc _).alloc _ | exact tb.kept (bthen B1 (by first | assumption | exact Below.refl _ _ | exact (Below.refl _ _).drew)))).mono ?_
    rintro e w2 ⟨rfl, hb⟩
    replace P1 := (P1).kept hb
    replace B1 := bthen (B1) hb
    clear hb z0 c00 c01 c02
    obtain ⟨z0, c00, c01, c02, _, _, _⟩ := id P1
    go_wp2
    go_ret
    exact ⟨by simp <;> omega, B1⟩

end Go.Proofs.YtapddciodoobfaaDoor.Cl
