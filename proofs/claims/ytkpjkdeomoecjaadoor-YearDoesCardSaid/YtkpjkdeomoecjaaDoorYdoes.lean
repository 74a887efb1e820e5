/- YearDoes, with all of the references that it alone asks for. -/
import Derived.Test.YtkpjkdeomoecjaaDoorCref
import Derived.Test.YtkpjkdeomoecjaaDoorElaw
import Derived.Test.YtkpjkdeomoecjaaDoorFcode2
import Derived.Test.YtkpjkdeomoecjaaDoorJcode2
import Derived.Test.YtkpjkdeomoecjaaDoorFrbad
import Derived.Test.YtkpjkdeomoecjaaDoorFrk1
import Derived.Test.YtkpjkdeomoecjaaDoorFrk2
import Derived.Test.YtkpjkdeomoecjaaDoorFrk5
import Derived.Test.YtkpjkdeomoecjaaDoorFr346
import Derived.Test.YtkpjkdeomoecjaaDoorJlive

namespace Go.Proofs.YtkpjkdeomoecjaaDoor.Cr
set_option linter.unusedSimpArgs false
set_option linter.unusedVariables false
open Go.RowKit Go.Proofs.YtkpjkdeomoecjaaDoor.Bx Go.Proofs.YtkpjkdeomoecjaaDoor.Cm

set_option maxHeartbeats 1000000

theorem ret_two {k1 k2 : IntKind} {a b c d : Int} (h1 : a = c) (h2 : b = d) : Ending.returned (.tuple #[.int k1 a, .int k2 b]) = Ending.returned (.tuple #[.int k1 c, .int k2 d]) := by rw [h1, h2]

theorem rLong_any (y v : Int) (w : World) (h0 : 1600 ≤ y) (h1 : y ≤ 9999) (hv : v = 365 + lp y) :
    Calls Tryd.prog 76 #[.int .i64 y] w fun e w' => e = .returned (.int .i64 v) ∧ w = w' := by
  obtain ⟨b, hb⟩ : ∃ b, b = leapB y := ⟨_, rfl⟩
  have cl := fun w => rLeap_any y b w hb
  have hl := leap_in h0 h1
  rw [← hb] at hl
  cases b
  · obtain rfl : v = 365 := by rw [hv, hl]; simp
    clear hb hl hv
    go_enter Tryd.func76, Tryd.ntmps76
    go_wp2_with fail
    refine (cl _).mono ?_
    rintro e w' ⟨rfl, rfl⟩
    go_wp2
    go_ret
    exact ⟨rfl, rfl⟩
  · obtain rfl : v = 366 := by rw [hv, hl]; simp
    clear hb hl hv
    go_enter Tryd.func76, Tryd.ntmps76
    go_wp2_with fail
    refine (cl _).mono ?_
    rintro e w' ⟨rfl, rfl⟩
    go_wp2
    go_ret
    exact ⟨rfl, rfl⟩

theorem rDay_any (y m d v er : Int) (w : World) (R : DayRes y m d v er) :
    Calls Tryd.prog 46 #[.agg #[.int .i64 y, .int .i64 m, .int .i64 d]] w fun e w' => e = .returned (.tuple #[.int .i64 v, .int .i64 er]) ∧ Below w.heap.size w w' := by
  rcases R with ⟨ok, hv, rfl⟩ | ⟨h, rfl, rfl⟩
  · have cc := fun w => rCheck_any y m d 0 w (.inl ⟨ok, rfl⟩)
    have hv' : v = dby y + cum y m + d - 1 := hv
    subst hv'
    have nb := num_range ok
    obtain ⟨⟨h0, h1, h2, h3⟩, h4, h5⟩ := ok
    have h6 := (mlen_bd y m).2
    clear hv nb
    go_enter Tryd.func46, Tryd.ntmps46
    go_wp2_with fail
    refine (cc _).mono ?_
    rintro e w1 ⟨rfl, hb⟩
    have P := (Tri.new w (.int .i64 y) (.int .i64 m) (.int .i64 d) 33).kept hb
    have B1 := bthen (balloc (Below.refl _ w) _) hb
    clear hb cc
    obtain ⟨z, c0, c1, c2, _, _, _⟩ := id P
    clear P
    go_wp2
    go_loop [5, 6] (fun N Y => ∃ t : Int, 1600 ≤ t ∧ t ≤ y ∧ Y = .int .i64 t ∧ N = .int .i64 (dby t)) (fun _ Y => (9999 - intOf Y).toNat)
    case atStart => exact ⟨1600, by omega, h0, rfl, by rw [dby_first]⟩
    case round =>
      obtain ⟨t, t0, t1, rfl, rfl⟩ := hrel
      obtain ⟨b0, b1⟩ := dby_bd t0 (by omega)
      by_cases c : t + 400 ≤ y
      · have h := Lib.hid (dby_400 t)
        go_wp2
        go_round
        case rel => exact ⟨t + 400, by omega, c, rfl, by rw [h.out]⟩
        case measure => simp [intOf]; omega
      · go_wp2
        go_loop [5, 6] (fun N Y => ∃ t : Int, 1600 ≤ t ∧ t ≤ y ∧ Y = .int .i64 t ∧ N = .int .i64 (dby t)) (fun _ Y => (9999 - intOf Y).toNat)
        case atStart => exact ⟨t, t0, t1, rfl, rfl⟩
        case round =>
          clear t0 t1 b0 b1 c
          obtain ⟨u, u0, u1, rfl, rfl⟩ := hrel
          obtain ⟨b0, b1⟩ := dby_bd u0 (by omega)
          by_cases c : u < y
          · obtain ⟨l, hl⟩ : ∃ l, l = 365 + lp u := ⟨_, rfl⟩
            have l0 : 365 ≤ l ∧ l ≤ 366 := by have := lp_01 u; omega
            obtain ⟨l0, l1⟩ := l0
            have h : Hid (dby (u + 1) = dby u + l) := Lib.hid (by rw [dby_succ, hl]; omega)
            have cl := fun w => rLong_any u l w u0 (by omega) hl
            clear hl
            go_wp2_with fail
            refine (cl _).mono ?_
            rintro e w' ⟨rfl, rfl⟩
            go_wp2
            go_round
            case rel => exact ⟨u + 1, by omega, by omega, rfl, by rw [h.out]⟩
            case measure => simp [intOf]; omega
          · obtain rfl : y = u := by omega
            go_wp2
            go_loop [5, 7] (fun N M => ∃ k : Int, 1 ≤ k ∧ k ≤ m ∧ M = .int .i64 k ∧ N = .int .i64 (dby y + cum y k)) (fun _ M => (12 - intOf M).toNat)
            case atStart => exact ⟨1, by omega, h2, rfl, by rw [cum_one, Int.add_zero]⟩
            case round =>
              obtain ⟨k, k0, k1, rfl, rfl⟩ := hrel
              have cb := cum_bd y k k0 (by omega)
              have lb := lp_01 y
              have cb1 : cum y k ≤ 366 := by omega
              obtain ⟨cb0, _⟩ := cb
              obtain ⟨s, hs⟩ : ∃ s, dby y + cum y k = s := ⟨_, rfl⟩
              have s0 : 0 ≤ s ∧ s ≤ 3068403 := by omega
              obtain ⟨s0, s1⟩ := s0
              by_cases c : k < m
              · obtain ⟨l, hl⟩ : ∃ l, l = mlen y k := ⟨_, rfl⟩
                have l0 := mlen_bd y k
                rw [← hl] at l0
                obtain ⟨l0, l1⟩ := l0
                have h : Hid (dby y + cum y (k + 1) = s + l) := Lib.hid (by rw [cum_succ y k k0 (by omega), ← hs, hl]; omega)
                have cl := fun w => rLength_any y k l 0 w (.inl ⟨⟨h0, h1, k0, by omega⟩, hl, rfl⟩)
                rw [hs]
                clear hl hs
                go_wp2_with fail
                refine (cl _).mono ?_
                rintro e w' ⟨rfl, rfl⟩
                go_wp2
                go_round
                case rel => exact ⟨k + 1, by omega, by omega, rfl, by rw [h.out]⟩
                case measure => simp [intOf]; omega
              · obtain rfl : m = k := by omega
                rw [hs]
                have HS := Lib.hid hs
                clear hs
                go_wp2
                go_ret2
                exact ⟨ret_two (by rw [HS.out]) rfl, B1⟩
  · have cc := fun w => rCheck_any y m d 4 w (.inr ⟨h, rfl⟩)
    clear h
    go_enter Tryd.func46, Tryd.ntmps46
    go_wp2_with fail
    refine (cc _).mono ?_
    rintro e w1 ⟨rfl, hb⟩
    have B1 := bthen (balloc (Below.refl _ w) _) hb
    clear hb cc
    go_wp2
    go_ret2
    exact ⟨rfl, B1⟩

/-- what stands in the walk of Of: the answer's box, the day's box, and what became of the world -/
structure OfB (w W : World) (t k : Int) : Prop where
  below : Below w.heap.size w W
  a : Tri W w.heap.size (.int .i64 0) (.int .i64 0) (.int .i64 0)
  b : Tri W (w.heap.size + 1) (.int .i64 t) (.int .i64 k) (.int .i64 1)
theorem OfB.start (w : World) : OfB w ((w.alloc (.cells #[.int .i64 0, .int .i64 0, .int .i64 0] 33)).alloc (.cells #[.int .i64 1600, .int .i64 1, .int .i64 1] 33)) 1600 1 :=
  ⟨balloc (balloc (Below.refl _ w) _) _, (Tri.new w _ _ _ _).alloc _, by have := Tri.new (w.alloc (.cells #[.int .i64 0, .int .i64 0, .int .i64 0] 33)) (.int .i64 1600) (.int .i64 1) (.int .i64 1) 33; simpa only [World.size_alloc] using this⟩
theorem OfB.year {w W : World} {t k : Int} (x : OfB w W t k) (u : Int) : OfB w (W.setCell ⟨w.heap.size + 1, 0, none⟩ (.int .i64 u)) u k :=
  ⟨bset x.below (by omega) _ _, x.a.other _ _ (by omega), x.b.set0 _⟩
theorem OfB.month {w W : World} {t k : Int} (x : OfB w W t k) (u : Int) : OfB w (W.setCell ⟨w.heap.size + 1, 1, none⟩ (.int .i64 u)) t u :=
  ⟨bset x.below (by omega) _ _, x.a.other _ _ (by omega), x.b.set1 _⟩

theorem rOf_any (n y m d er : Int) (w : World) (R : OfRes n y m d er) :
    Calls Tryd.prog 68 #[.int .i64 n] w fun e w' => e = .returned (.tuple #[.agg #[.int .i64 y, .int .i64 m, .int .i64 d], .int .i64 er]) ∧ Below w.heap.size w w' := by
  rcases R with ⟨n0, n1, ok, hn, rfl⟩ | ⟨h, rfl, rfl, rfl, rfl⟩
  · have yb := num_bd ok
    rw [hn] at yb
    obtain ⟨ya, yb⟩ := yb
    obtain ⟨⟨h0, h1, h2, h3⟩, h4, h5⟩ := ok
    have hd : d = n - dby y - cum y m + 1 := by unfold num at hn; omega
    have ma : cum y m ≤ n - dby y := by unfold num at hn; omega
    have mb : n - dby y < cum y m + mlen y m := by unfold num at hn; omega
    have H := Lib.hid (And.intro hd hn)
    clear hd hn h4 h5
    go_enter Tryd.func68, Tryd.ntmps68
    go_wp2
    go_loopw [0] (fun D wr => ∃ t : Int, 1600 ≤ t ∧ t ≤ y ∧ D = .int .i64 (n - dby t) ∧ dby t ≤ n ∧ OfB w wr t 1) (fun D _ => (intOf D).toNat)
    case atStart => exact ⟨1600, by omega, h0, by rw [dby_first, Int.sub_zero], by rw [dby_first]; exact n0, OfB.start w⟩
    case round =>
      obtain ⟨t, t0, t1, rfl, t2, X⟩ := hrel
      obtain ⟨b0, b1⟩ := dby_bd t0 (by omega)
      obtain ⟨z, c0, c1, c2, f0, f1, f2⟩ := id X.b
      by_cases c : 146097 ≤ n - dby t
      · have h := dby_400 t
        have k1 : t + 400 ≤ y := dby_lt (n := n) (by rw [h]; omega) yb
        have k2 := Lib.hid h
        clear h
        go_wp2
        go_roundw
        case rel => exact ⟨t + 400, by omega, k1, by rw [k2.out]; go_num, by rw [k2.out]; omega, X.year _⟩
        case measure => simp [intOf]; omega
      · go_wp2
        go_loopw [0] (fun D wr => ∃ t : Int, 1600 ≤ t ∧ t ≤ y ∧ D = .int .i64 (n - dby t) ∧ dby t ≤ n ∧ OfB w wr t 1) (fun D _ => (intOf D).toNat)
        case atStart => exact ⟨t, t0, t1, rfl, t2, X⟩
        case round =>
          clear t0 t1 b0 b1 c t2 X z c0 c1 c2 f0 f1 f2
          obtain ⟨u, u0, u1, rfl, u2, X⟩ := hrel
          obtain ⟨b0, b1⟩ := dby_bd u0 (by omega)
          obtain ⟨z, c0, c1, c2, f0, f1, f2⟩ := id X.b
          obtain ⟨l, hl⟩ : ∃ l, l = 365 + lp u := ⟨_, rfl⟩
          have l0 : 365 ≤ l ∧ l ≤ 366 := by have := lp_01 u; omega
          obtain ⟨l0, l1⟩ := l0
          have hs : dby (u + 1) = dby u + l := by rw [dby_succ, hl]; omega
          have cl := fun w => rLong_any u l w u0 (by omega) hl
          clear hl
          by_cases c : l ≤ n - dby u
          · have k1 : u + 1 ≤ y := dby_lt (n := n) (by rw [hs]; omega) yb
            have k2 := Lib.hid hs
            clear hs
            go_wp2_with fail
            refine (cl _).mono ?_
            rintro e w' ⟨rfl, rfl⟩
            go_wp2_with fail
            refine (cl _).mono ?_
            rintro e w' ⟨rfl, rfl⟩
            go_wp2
            go_roundw
            case rel => exact ⟨u + 1, by omega, k1, by rw [k2.out]; go_num, by rw [k2.out]; omega, X.year _⟩
            case measure => simp [intOf]; omega
          · obtain rfl : y = u := by
              have : y ≤ u := dby_lt (n := n) ya (by rw [hs]; omega)
              omega
            clear hs
            have cl1 := fun w => rLength_any y 1 (mlen y 1) 0 w (.inl ⟨⟨h0, h1, by omega, by omega⟩, rfl, rfl⟩)
            go_wp2_with fail
            refine (cl _).mono ?_
            rintro e w' ⟨rfl, rfl⟩
            go_wp2_with fail
            refine (cl1 _).mono ?_
            rintro e w' ⟨rfl, rfl⟩
            clear cl cl1 c l0 l1
            go_wp2
            go_loopw [0, 5] (fun D L wr => ∃ k : Int, 1 ≤ k ∧ k ≤ m ∧ D = .int .i64 (n - dby y - cum y k) ∧ L = .int .i64 (mlen y k) ∧ cum y k ≤ n - dby y ∧ OfB w wr y k) (fun D _ _ => (intOf D).toNat)
            case atStart => exact ⟨1, by omega, h2, by rw [cum_one, Int.sub_zero], rfl, by rw [cum_one]; omega, X⟩
            case round =>
              clear z c0 c1 c2 f0 f1 f2 X
              obtain ⟨k, k0, k1, rfl, rfl, k2, X⟩ := hrel
              obtain ⟨z, c0, c1, c2, f0, f1, f2⟩ := id X.b
              obtain ⟨za, a0, a1, a2, g0, g1, g2⟩ := id X.a
              have cb := cum_bd y k k0 (by omega)
              obtain ⟨cb0, cb1⟩ := cb
              obtain ⟨s, hs⟩ : ∃ s, n - dby y - cum y k = s := ⟨_, rfl⟩
              obtain ⟨l, hl⟩ : ∃ l, l = mlen y k := ⟨_, rfl⟩
              have l0 := mlen_bd y k
              rw [← hl] at l0
              obtain ⟨l0, l1⟩ := l0
              have s0 : 0 ≤ s := by omega
              have s1 : s ≤ 3068036 := by omega
              by_cases c : l ≤ s
              · have hc := cum_succ y k k0 (by omega)
                have k3 : k + 1 ≤ m := by
                  by_cases q : k < m
                  · omega
                  · obtain rfl : k = m := by omega
                    omega
                have cl2 := fun w => rLength_any y (k + 1) (mlen y (k + 1)) 0 w (.inl ⟨⟨h0, h1, by omega, by omega⟩, rfl, rfl⟩)
                have e1 : Hid (n - dby y - cum y (k + 1) = s - l) := Lib.hid (by rw [hc, ← hs, hl]; omega)
                have e2 : cum y (k + 1) ≤ n - dby y := by omega
                rw [hs, ← hl]
                clear hs hl hc cb0 cb1
                go_wp2_with fail
                refine (cl2 _).mono ?_
                rintro e w' ⟨rfl, rfl⟩
                go_wp2
                go_roundw
                case rel => exact ⟨k + 1, by omega, k3, by rw [e1.out], rfl, e2, X.month _⟩
                case measure => simp [intOf]; omega
              · obtain rfl : m = k := by
                  by_cases q : k < m
                  · have := cum_step y k0 q (by omega)
                    omega
                  · omega
                obtain rfl : d = 1 + s := by have := H.out.1; omega
                rw [hs, ← hl]
                clear hs hl cb0 cb1 H ma mb k2
                go_wp2
                refine bodyPost_ret (v := .tuple #[.agg #[.int .i64 y, .int .i64 m, .int .i64 (1 + s)], .int .i64 0]) (by simp [results, Tryd.results68, go_sem, a0, a1, a2]) rfl ⟨rfl, ?_⟩
                exact bset (bset (bset (bset X.below (by omega) _ _) (Nat.le_refl _) _ _) (Nat.le_refl _) _ _) (Nat.le_refl _) _ _
  · have h' : n < 0 ∨ (0 ≤ n ∧ 3068036 < n) := by omega
    clear h
    rcases h' with h | ⟨h, h4⟩
    all_goals
      go_enter Tryd.func68, Tryd.ntmps68
      go_wp2
      refine bodyPost_ret (v := .tuple #[.agg #[.int .i64 0, .int .i64 0, .int .i64 0], .int .i64 4]) (by simp [results, Tryd.results68, go_sem]) rfl ⟨rfl, ?_⟩
      exact balloc (Below.refl _ w) _

/-! those that leave the world alone, in the laws' words -/
theorem rLeap_b (y : Int) (b : Bool) (w : World) (h : b = leapB y) : Calls Tryd.prog 74 #[.int .i64 y] w fun e w' => e = .returned (.bool b) ∧ Below w.heap.size w w' :=
  (rLeap_any y b w h).mono fun _ _ ⟨h1, h2⟩ => ⟨h1, h2 ▸ Below.refl _ _⟩
theorem rLength_b (y m v er : Int) (w : World) (R : LenRes y m v er) : Calls Tryd.prog 45 #[.int .i64 y, .int .i64 m] w fun e w' => e = .returned (.tuple #[.int .i64 v, .int .i64 er]) ∧ Below w.heap.size w w' :=
  (rLength_any y m v er w R).mono fun _ _ ⟨h1, h2⟩ => ⟨h1, h2 ▸ Below.refl _ _⟩
end Go.Proofs.YtkpjkdeomoecjaaDoor.Cr

namespace Go.Proofs.YtkpjkdeomoecjaaDoor.Er
set_option linter.unusedSimpArgs false
set_option linter.unusedVariables false
open Go.RowKit Go.Proofs.YtkpjkdeomoecjaaDoor.Bx Go.Proofs.YtkpjkdeomoecjaaDoor.Cm Go.Proofs.YtkpjkdeomoecjaaDoor.Cr Go.Proofs.YtkpjkdeomoecjaaDoor.Em

set_option maxHeartbeats 1000000

theorem rLast_any (y m wd v er : Int) (w : World) (R : LastRes y m wd v er) :
    Calls Tryd.prog 44 #[.int .i64 y, .int .i64 m, .int .i64 wd] w fun e w' => e = .returned (.tuple #[.int .i64 v, .int .i64 er]) ∧ Below w.heap.size w w' := by
  rcases R with ⟨ok, h0, h1, hv, rfl⟩ | ⟨ok, h, rfl, rfl⟩ | ⟨no, rfl, rfl⟩
  · obtain ⟨l, hl⟩ : ∃ l, l = mlen y m := ⟨_, rfl⟩
    have cl := fun w => rLength_any y m l 0 w (.inl ⟨ok, hl, rfl⟩)
    have eo := end_ok ok
    rw [← hl] at eo
    obtain ⟨n, hn⟩ : ∃ n, n = mend y m := ⟨_, rfl⟩
    have cd := fun w => rDay_any y m l n 0 w (.inl ⟨eo, by rw [hn, hl]; rfl, rfl⟩)
    have er := end_range ok
    have bb := back_bd y m wd
    have wv : wday v = wd := by rw [hv]; exact back_wday h0 h1
    rw [← hn] at er hv
    have v0 : n - 6 ≤ v := by omega
    have v1 : v ≤ n := by omega
    obtain ⟨n0, n1⟩ := er
    have CW := Lib.hid (fun w => rWeekday_any v wd 0 w (.inl ⟨by omega, by omega, wv.symm, rfl⟩))
    have CN : Hid (∀ j w, v < j → j ≤ n → ∃ s : Int, (s == wd) = false ∧ Calls Tryd.prog 73 #[.int .i64 j] w fun e w' => e = .returned (.tuple #[.int .i64 s, .int .i64 0]) ∧ Below w.heap.size w w') :=
      Lib.hid (fun j w a b => ⟨wday j, beq_eq_false_iff_ne.2 (by intro e; unfold wday at e wv; omega), rWeekday_any j _ 0 w (.inl ⟨by omega, by omega, rfl, rfl⟩)⟩)
    clear hl hn eo bb hv wv ok
    go_enter Tryd.func44, Tryd.ntmps44
    go_wp2_with fail
    refine (cl _).mono ?_
    rintro e w' ⟨rfl, rfl⟩
    go_wp2_with fail
    refine (cd _).mono ?_
    rintro e w1 ⟨rfl, B1⟩
    go_wp2
    go_loopw [10] (fun D wr => ∃ j : Int, v ≤ j ∧ j ≤ n ∧ D = .int .i64 j ∧ Below w.heap.size w wr) (fun D _ => (intOf D).toNat)
    case atStart => exact ⟨n, v1, by omega, rfl, B1⟩
    case round =>
      clear B1
      obtain ⟨j, j0, j1, rfl, B1⟩ := hrel
      by_cases hj : j = v
      · subst hj
        have cw := CW.out
        go_wp2_with fail
        refine (cw _).mono ?_
        rintro e w2 ⟨rfl, hb⟩
        replace B1 := bthen B1 hb
        clear hb cw
        go_wp2
        go_ret2
        exact ⟨rfl, B1⟩
      · have j2 : v < j := by omega
        obtain ⟨s, sw, cj⟩ := CN.out j wr j2 j1
        clear hj
        go_wp2_with fail
        refine cj.mono ?_
        rintro e w2 ⟨rfl, hb⟩
        replace B1 := bthen B1 hb
        clear hb cj
        go_wp2
        go_roundw
        case rel => exact ⟨j - 1, by omega, by omega, rfl, B1⟩
        case measure => simp [intOf]; omega
  · have cl := fun w => rLength_any y m (mlen y m) 0 w (.inl ⟨ok, rfl, rfl⟩)
    have h' : wd < 1 ∨ (1 ≤ wd ∧ 7 < wd) := by omega
    clear h ok
    generalize mlen y m = l at cl
    rcases h' with h | ⟨h, h2⟩
    all_goals
      go_enter Tryd.func44, Tryd.ntmps44
      go_wp2_with fail
      refine (cl _).mono ?_
      rintro e w' ⟨rfl, rfl⟩
      go_wp2
      go_ret2
      exact ⟨rfl, Below.refl _ _⟩
  · have cl := fun w => rLength_any y m 0 4 w (.inr ⟨no, rfl, rfl⟩)
    clear no
    go_enter Tryd.func44, Tryd.ntmps44
    go_wp2_with fail
    refine (cl _).mono ?_
    rintro e w' ⟨rfl, rfl⟩
    go_wp2
    go_ret2
    exact ⟨rfl, Below.refl _ _⟩

theorem near_wday {y m wd : Int} (h0 : 1 ≤ wd) (h1 : wd ≤ 7) : wday (nearv y m wd) = wd := by
  have a := back_wday (y := y) (m := m) h0 h1
  unfold nearv
  split
  · unfold wday at *; omega
  · exact a
theorem near_bd (y m wd : Int) : mend y m - 3 ≤ nearv y m wd ∧ nearv y m wd ≤ mend y m + 3 := by
  have b := back_bd y m wd
  unfold nearv; split <;> omega

theorem rNear_any (y m wd v er : Int) (w : World) (R : NearRes y m wd v er) :
    Calls Tryd.prog 47 #[.int .i64 y, .int .i64 m, .int .i64 wd] w fun e w' => e = .returned (.tuple #[.int .i64 v, .int .i64 er]) ∧ Below w.heap.size w w' := by
  have O : (MonthOk y m ∧ 1 ≤ wd ∧ wd ≤ 7 ∧ ((nearv y m wd ≤ 3068036 ∧ v = nearv y m wd ∧ er = 0) ∨ (3068036 < nearv y m wd ∧ v = 0 ∧ er = 4))) ∨ (MonthOk y m ∧ ¬ (1 ≤ wd ∧ wd ≤ 7) ∧ v = 0 ∧ er = 1) ∨ (¬ MonthOk y m ∧ v = 0 ∧ er = 4) := by
    rcases R with ⟨ok, h0, h1, h⟩ | ⟨ok, h0, h1, h⟩ | h | h
    · exact .inl ⟨ok, h0, h1, .inl h⟩
    · exact .inl ⟨ok, h0, h1, .inr h⟩
    · exact .inr (.inl h)
    · exact .inr (.inr h)
  clear R
  rcases O with ⟨ok, h0, h1, O⟩ | ⟨ok, h, rfl, rfl⟩ | ⟨no, rfl, rfl⟩
  · obtain ⟨l, hl⟩ : ∃ l, l = mlen y m := ⟨_, rfl⟩
    have cl := fun w => rLength_any y m l 0 w (.inl ⟨ok, hl, rfl⟩)
    have eo := end_ok ok
    rw [← hl] at eo
    obtain ⟨n, hn⟩ : ∃ n, n = mend y m := ⟨_, rfl⟩
    have cd := fun w => rDay_any y m l n 0 w (.inl ⟨eo, by rw [hn, hl]; rfl, rfl⟩)
    have er := end_range ok
    have wv := near_wday (y := y) (m := m) h0 h1
    have nb := near_bd y m wd
    generalize nearv y m wd = u at *
    rw [← hn] at er nb
    obtain ⟨n0, n1⟩ := er
    obtain ⟨u0, u1⟩ := nb
    have CN : Hid (∀ j w, j ≠ u → n - 3 ≤ j → j ≤ n + 3 → ∃ s q : Int, ((q = 0 ∧ (s == wd) = false) ∨ q = 4) ∧ Calls Tryd.prog 73 #[.int .i64 j] w fun e w' => e = .returned (.tuple #[.int .i64 s, .int .i64 q]) ∧ Below w.heap.size w w') :=
      Lib.hid (fun j w a b c => by
        by_cases k : j ≤ 3068036
        · exact ⟨wday j, 0, .inl ⟨rfl, beq_eq_false_iff_ne.2 (by intro e; unfold wday at e wv; omega)⟩, rWeekday_any j _ 0 w (.inl ⟨by omega, k, rfl, rfl⟩)⟩
        · exact ⟨0, 4, .inr rfl, rWeekday_any j 0 4 w (.inr ⟨by omega, rfl, rfl⟩)⟩)
    rcases O with ⟨u2, rfl, rfl⟩ | ⟨u2, rfl, rfl⟩
    · have CW := Lib.hid (fun w => rWeekday_any v wd 0 w (.inl ⟨by omega, u2, wv.symm, rfl⟩))
      clear hl hn eo wv ok u2
      go_enter Tryd.func47, Tryd.ntmps47
      go_wp2_with fail
      refine (cl _).mono ?_
      rintro e w' ⟨rfl, rfl⟩
      go_wp2_with fail
      refine (cd _).mono ?_
      rintro e w1 ⟨rfl, B1⟩
      go_wp2
      go_loopw [12] (fun D wr => ∃ j : Int, n - 3 ≤ j ∧ j ≤ v ∧ D = .int .i64 j ∧ Below w.heap.size w wr) (fun D _ => (v + 1 - intOf D).toNat)
      case atStart => exact ⟨n - 3, by omega, u0, rfl, B1⟩
      case round =>
        clear B1
        obtain ⟨j, j0, j1, rfl, B1⟩ := hrel
        by_cases hj : j = v
        · subst hj
          have cw := CW.out
          go_wp2_with fail
          refine (cw _).mono ?_
          rintro e w2 ⟨rfl, hb⟩
          replace B1 := bthen B1 hb
          clear hb cw
          go_wp2
          go_ret2
          exact ⟨rfl, B1⟩
        · have j2 : j ≤ n + 3 := by omega
          obtain ⟨s, q, O, cj⟩ := CN.out j wr hj j0 j2
          have j3 : j < v := by omega
          clear hj
          rcases O with ⟨rfl, sw⟩ | rfl
          all_goals
            go_wp2_with fail
            refine cj.mono ?_
            rintro e w2 ⟨rfl, hb⟩
            replace B1 := bthen B1 hb
            clear hb cj
            go_wp2
            go_roundw
            case rel => exact ⟨j + 1, by omega, by omega, rfl, B1⟩
            case measure => simp [intOf]; omega
    · have CE := Lib.hid (fun w => rWeekday_any u 0 4 w (.inr ⟨by omega, rfl, rfl⟩))
      clear hl hn eo wv ok u2
      go_enter Tryd.func47, Tryd.ntmps47
      go_wp2_with fail
      refine (cl _).mono ?_
      rintro e w' ⟨rfl, rfl⟩
      go_wp2_with fail
      refine (cd _).mono ?_
      rintro e w1 ⟨rfl, B1⟩
      go_wp2
      go_loopw [12] (fun D wr => ∃ j : Int, n - 3 ≤ j ∧ j ≤ n + 4 ∧ D = .int .i64 j ∧ Below w.heap.size w wr) (fun D _ => (n + 4 - intOf D).toNat)
      case atStart => exact ⟨n - 3, by omega, by omega, rfl, B1⟩
      case round =>
        clear B1
        obtain ⟨j, j0, j1, rfl, B1⟩ := hrel
        by_cases hj : j ≤ n + 3
        · clear j1
          obtain ⟨s, q, O, cj⟩ : ∃ s q : Int, ((q = 0 ∧ (s == wd) = false) ∨ q = 4) ∧ Calls Tryd.prog 73 #[.int .i64 j] wr fun e w' => e = .returned (.tuple #[.int .i64 s, .int .i64 q]) ∧ Below wr.heap.size wr w' := by
            by_cases c : j = u
            · subst c; exact ⟨0, 4, .inr rfl, CE.out wr⟩
            · exact CN.out j wr c j0 hj
          rcases O with ⟨rfl, sw⟩ | rfl
          all_goals
            go_wp2_with fail
            refine cj.mono ?_
            rintro e w2 ⟨rfl, hb⟩
            replace B1 := bthen B1 hb
            clear hb cj
            go_wp2
            go_roundw
            case rel => exact ⟨j + 1, by omega, by omega, rfl, B1⟩
            case measure => simp [intOf]; omega
        · obtain rfl : j = n + 4 := by omega
          clear hj j0 j1
          have hj' : decide (n + 4 ≤ n + 3) = false := decide_eq_false (by omega)
          go_wp2
          go_ret2
          exact ⟨rfl, B1⟩
  · have cl := fun w => rLength_any y m (mlen y m) 0 w (.inl ⟨ok, rfl, rfl⟩)
    have h' : wd < 1 ∨ (1 ≤ wd ∧ 7 < wd) := by omega
    clear h ok
    generalize mlen y m = l at cl
    rcases h' with h | ⟨h, h2⟩
    all_goals
      go_enter Tryd.func47, Tryd.ntmps47
      go_wp2_with fail
      refine (cl _).mono ?_
      rintro e w' ⟨rfl, rfl⟩
      go_wp2
      go_ret2
      exact ⟨rfl, Below.refl _ _⟩
  · have cl := fun w => rLength_any y m 0 4 w (.inr ⟨no, rfl, rfl⟩)
    clear no
    go_enter Tryd.func47, Tryd.ntmps47
    go_wp2_with fail
    refine (cl _).mono ?_
    rintro e w' ⟨rfl, rfl⟩
    go_wp2
    go_ret2
    exact ⟨rfl, Below.refl _ _⟩

end Go.Proofs.YtkpjkdeomoecjaaDoor.Er

namespace Go.Proofs.YtkpjkdeomoecjaaDoor.Ar
set_option linter.unusedSimpArgs false
set_option linter.unusedVariables false
open Go.RowKit Go.Proofs.YtkpjkdeomoecjaaDoor.Bn Go.Proofs.YtkpjkdeomoecjaaDoor.Am Go.Proofs.YtkpjkdeomoecjaaDoor.Fp Go.Proofs.YtkpjkdeomoecjaaDoor.Cm Go.Proofs.YtkpjkdeomoecjaaDoor.Em

set_option maxHeartbeats 4000000

/-- what the reference's check says of a calendar -/
def ChkSays (c : CalZ) : Prop := ∀ (h : Int) (w : World), ChkA c h → Calls Tryd.prog 43 #[.agg #[.string c.nm, .int .i64 c.k, .int .i64 c.d, .int .i64 c.m, .int .i64 c.s, .int .i64 c.sh, .int .i64 c.p0, .int .i64 c.p1, .int .i64 c.p2, .int .i64 c.cy, .int .i64 c.ex, .int .i64 c.fi, .int .i64 c.la, .int .i64 c.po]] w fun e w' => e = .returned (.int .i64 h) ∧ Below w.heap.size w w'

set_option maxRecDepth 100000 in
theorem rend_last (c : CalZ) (y v : Int) (w : World) (q : (c.k == 1) = true ∨ ((c.k == 1) = false ∧ (c.k == 4) = true)) (s0 : 0 ≤ c.s) (s1 : c.s ≤ 1) (y0 : 1600 ≤ y) (y1 : y ≤ 9997)
    (ck : ∀ w, Calls Tryd.prog 43 #[.agg #[.string c.nm, .int .i64 c.k, .int .i64 c.d, .int .i64 c.m, .int .i64 c.s, .int .i64 c.sh, .int .i64 c.p0, .int .i64 c.p1, .int .i64 c.p2, .int .i64 c.cy, .int .i64 c.ex, .int .i64 c.fi, .int .i64 c.la, .int .i64 c.po]] w fun e w' => e = .returned (.int .i64 0) ∧ Below w.heap.size w w')
    (cl : ∀ w, Calls Tryd.prog 44 #[.int .i64 (y + c.s), .int .i64 c.m, .int .i64 c.d] w fun e w' => e = .returned (.tuple #[.int .i64 v, .int .i64 0]) ∧ Below w.heap.size w w') :
    Calls Tryd.prog 17 #[.agg #[.string c.nm, .int .i64 c.k, .int .i64 c.d, .int .i64 c.m, .int .i64 c.s, .int .i64 c.sh, .int .i64 c.p0, .int .i64 c.p1, .int .i64 c.p2, .int .i64 c.cy, .int .i64 c.ex, .int .i64 c.fi, .int .i64 c.la, .int .i64 c.po], .int .i64 y] w fun e w' => e = .returned (.tuple #[.int .i64 v, .int .i64 0]) ∧ Below w.heap.size w w' := by
  have C := CalIn.new w c 24
  have B := balloc (Below.refl _ w) (.cells #[.string c.nm, .int .i64 c.k, .int .i64 c.d, .int .i64 c.m, .int .i64 c.s, .int .i64 c.sh, .int .i64 c.p0, .int .i64 c.p1, .int .i64 c.p2, .int .i64 c.cy, .int .i64 c.ex, .int .i64 c.fi, .int .i64 c.la, .int .i64 c.po] 24)
  have hw : IntKind.i64.wrap (y + c.s) = y + c.s := by rw [IntWalk.i64_in _ (by omega)]
  rcases q with k1 | ⟨k1, k4⟩
  all_goals
    go_enter Tryd.func17, Tryd.ntmps17
    go_upto_region 1 with fail
    generalize w.alloc (.cells #[.string c.nm, .int .i64 c.k, .int .i64 c.d, .int .i64 c.m, .int .i64 c.s, .int .i64 c.sh, .int .i64 c.p0, .int .i64 c.p1, .int .i64 c.p2, .int .i64 c.cy, .int .i64 c.ex, .int .i64 c.fi, .int .i64 c.la, .int .i64 c.po] 24) = W0 at *
    obtain ⟨_, c0, c1, c2, c3, c4, c5, c6, c7, c8, c9, c10, c11, c12, c13⟩ := id C
    go_wp2_with fail
    refine (ck _).mono ?_
    rintro e w1 ⟨rfl, hb⟩
    have C1 := C.kept hb
    have B1 := bthen B hb
    clear hb c0 c1 c2 c3 c4 c5 c6 c7 c8 c9 c10 c11 c12 c13 C B
    obtain ⟨_, c0, c1, c2, c3, c4, c5, c6, c7, c8, c9, c10, c11, c12, c13⟩ := id C1
    go_wp2_with fail
    refine (cl _).mono ?_
    rintro e w2 ⟨rfl, hb⟩
    go_wp2
    go_ret2
    exact ⟨rfl, bthen B1 hb⟩

set_option maxRecDepth 100000 in
theorem rend_near (c : CalZ) (y v : Int) (w : World) (k1 : (c.k == 1) = false) (k4 : (c.k == 4) = false) (k6 : (c.k == 6) = false) (s0 : 0 ≤ c.s) (s1 : c.s ≤ 1) (y0 : 1600 ≤ y) (y1 : y ≤ 9997)
    (ck : ∀ w, Calls Tryd.prog 43 #[.agg #[.string c.nm, .int .i64 c.k, .int .i64 c.d, .int .i64 c.m, .int .i64 c.s, .int .i64 c.sh, .int .i64 c.p0, .int .i64 c.p1, .int .i64 c.p2, .int .i64 c.cy, .int .i64 c.ex, .int .i64 c.fi, .int .i64 c.la, .int .i64 c.po]] w fun e w' => e = .returned (.int .i64 0) ∧ Below w.heap.size w w')
    (cl : ∀ w, Calls Tryd.prog 47 #[.int .i64 (y + c.s), .int .i64 c.m, .int .i64 c.d] w fun e w' => e = .returned (.tuple #[.int .i64 v, .int .i64 0]) ∧ Below w.heap.size w w') :
    Calls Tryd.prog 17 #[.agg #[.string c.nm, .int .i64 c.k, .int .i64 c.d, .int .i64 c.m, .int .i64 c.s, .int .i64 c.sh, .int .i64 c.p0, .int .i64 c.p1, .int .i64 c.p2, .int .i64 c.cy, .int .i64 c.ex, .int .i64 c.fi, .int .i64 c.la, .int .i64 c.po], .int .i64 y] w fun e w' => e = .returned (.tuple #[.int .i64 v, .int .i64 0]) ∧ Below w.heap.size w w' := by
  have C := CalIn.new w c 24
  have B := balloc (Below.refl _ w) (.cells #[.string c.nm, .int .i64 c.k, .int .i64 c.d, .int .i64 c.m, .int .i64 c.s, .int .i64 c.sh, .int .i64 c.p0, .int .i64 c.p1, .int .i64 c.p2, .int .i64 c.cy, .int .i64 c.ex, .int .i64 c.fi, .int .i64 c.la, .int .i64 c.po] 24)
  have hw : IntKind.i64.wrap (y + c.s) = y + c.s := by rw [IntWalk.i64_in _ (by omega)]
  go_enter Tryd.func17, Tryd.ntmps17
  go_upto_region 1 with fail
  generalize w.alloc (.cells #[.string c.nm, .int .i64 c.k, .int .i64 c.d, .int .i64 c.m, .int .i64 c.s, .int .i64 c.sh, .int .i64 c.p0, .int .i64 c.p1, .int .i64 c.p2, .int .i64 c.cy, .int .i64 c.ex, .int .i64 c.fi, .int .i64 c.la, .int .i64 c.po] 24) = W0 at *
  obtain ⟨_, c0, c1, c2, c3, c4, c5, c6, c7, c8, c9, c10, c11, c12, c13⟩ := id C
  go_wp2_with fail
  refine (ck _).mono ?_
  rintro e w1 ⟨rfl, hb⟩
  have C1 := C.kept hb
  have B1 := bthen B hb
  clear hb c0 c1 c2 c3 c4 c5 c6 c7 c8 c9 c10 c11 c12 c13 C B
  obtain ⟨_, c0, c1, c2, c3, c4, c5, c6, c7, c8, c9, c10, c11, c12, c13⟩ := id C1
  go_wp2_with fail
  refine (cl _).mono ?_
  rintro e w2 ⟨rfl, hb⟩
  go_wp2
  go_ret2
  exact ⟨rfl, bthen B1 hb⟩

set_option maxRecDepth 100000 in
theorem rend_month (c : CalZ) (y l v : Int) (w : World) (k1 : (c.k == 1) = false) (k4 : (c.k == 4) = false) (k6 : (c.k == 6) = true) (s0 : 0 ≤ c.s) (s1 : c.s ≤ 1) (y0 : 1600 ≤ y) (y1 : y ≤ 9997)
    (ck : ∀ w, Calls Tryd.prog 43 #[.agg #[.string c.nm, .int .i64 c.k, .int .i64 c.d, .int .i64 c.m, .int .i64 c.s, .int .i64 c.sh, .int .i64 c.p0, .int .i64 c.p1, .int .i64 c.p2, .int .i64 c.cy, .int .i64 c.ex, .int .i64 c.fi, .int .i64 c.la, .int .i64 c.po]] w fun e w' => e = .returned (.int .i64 0) ∧ Below w.heap.size w w')
    (cl : ∀ w, Calls Tryd.prog 45 #[.int .i64 (y + c.s), .int .i64 c.m] w fun e w' => e = .returned (.tuple #[.int .i64 l, .int .i64 0]) ∧ w = w')
    (cd : ∀ w, Calls Tryd.prog 46 #[.agg #[.int .i64 (y + c.s), .int .i64 c.m, .int .i64 l]] w fun e w' => e = .returned (.tuple #[.int .i64 v, .int .i64 0]) ∧ Below w.heap.size w w') :
    Calls Tryd.prog 17 #[.agg #[.string c.nm, .int .i64 c.k, .int .i64 c.d, .int .i64 c.m, .int .i64 c.s, .int .i64 c.sh, .int .i64 c.p0, .int .i64 c.p1, .int .i64 c.p2, .int .i64 c.cy, .int .i64 c.ex, .int .i64 c.fi, .int .i64 c.la, .int .i64 c.po], .int .i64 y] w fun e w' => e = .returned (.tuple #[.int .i64 v, .int .i64 0]) ∧ Below w.heap.size w w' := by
  have C := CalIn.new w c 24
  have B := balloc (Below.refl _ w) (.cells #[.string c.nm, .int .i64 c.k, .int .i64 c.d, .int .i64 c.m, .int .i64 c.s, .int .i64 c.sh, .int .i64 c.p0, .int .i64 c.p1, .int .i64 c.p2, .int .i64 c.cy, .int .i64 c.ex, .int .i64 c.fi, .int .i64 c.la, .int .i64 c.po] 24)
  have hw : IntKind.i64.wrap (y + c.s) = y + c.s := by rw [IntWalk.i64_in _ (by omega)]
  go_enter Tryd.func17, Tryd.ntmps17
  go_upto_region 1 with fail
  generalize w.alloc (.cells #[.string c.nm, .int .i64 c.k, .int .i64 c.d, .int .i64 c.m, .int .i64 c.s, .int .i64 c.sh, .int .i64 c.p0, .int .i64 c.p1, .int .i64 c.p2, .int .i64 c.cy, .int .i64 c.ex, .int .i64 c.fi, .int .i64 c.la, .int .i64 c.po] 24) = W0 at *
  obtain ⟨_, c0, c1, c2, c3, c4, c5, c6, c7, c8, c9, c10, c11, c12, c13⟩ := id C
  go_wp2_with fail
  refine (ck _).mono ?_
  rintro e w1 ⟨rfl, hb⟩
  have C1 := C.kept hb
  have B1 := bthen B hb
  clear hb c0 c1 c2 c3 c4 c5 c6 c7 c8 c9 c10 c11 c12 c13 C B
  obtain ⟨_, c0, c1, c2, c3, c4, c5, c6, c7, c8, c9, c10, c11, c12, c13⟩ := id C1
  go_wp2_with fail
  refine (cl _).mono ?_
  rintro e w2 ⟨rfl, rfl⟩
  go_wp2_with fail
  refine (cd _).mono ?_
  rintro e w3 ⟨rfl, hb⟩
  go_wp2
  go_ret2
  exact ⟨rfl, bthen B1 hb⟩

set_option maxRecDepth 100000 in
theorem rend_out (c : CalZ) (y : Int) (w : World) (h : y < 1600 ∨ (1600 ≤ y ∧ 9997 < y)) (ck : ∀ w, Calls Tryd.prog 43 #[.agg #[.string c.nm, .int .i64 c.k, .int .i64 c.d, .int .i64 c.m, .int .i64 c.s, .int .i64 c.sh, .int .i64 c.p0, .int .i64 c.p1, .int .i64 c.p2, .int .i64 c.cy, .int .i64 c.ex, .int .i64 c.fi, .int .i64 c.la, .int .i64 c.po]] w fun e w' => e = .returned (.int .i64 0) ∧ Below w.heap.size w w') :
    Calls Tryd.prog 17 #[.agg #[.string c.nm, .int .i64 c.k, .int .i64 c.d, .int .i64 c.m, .int .i64 c.s, .int .i64 c.sh, .int .i64 c.p0, .int .i64 c.p1, .int .i64 c.p2, .int .i64 c.cy, .int .i64 c.ex, .int .i64 c.fi, .int .i64 c.la, .int .i64 c.po], .int .i64 y] w fun e w' => e = .returned (.tuple #[.int .i64 0, .int .i64 11]) ∧ Below w.heap.size w w' := by
  have C := CalIn.new w c 24
  have B := balloc (Below.refl _ w) (.cells #[.string c.nm, .int .i64 c.k, .int .i64 c.d, .int .i64 c.m, .int .i64 c.s, .int .i64 c.sh, .int .i64 c.p0, .int .i64 c.p1, .int .i64 c.p2, .int .i64 c.cy, .int .i64 c.ex, .int .i64 c.fi, .int .i64 c.la, .int .i64 c.po] 24)
  rcases h with y0 | ⟨y0, y1⟩
  all_goals
    go_enter Tryd.func17, Tryd.ntmps17
    go_upto_region 1 with fail
    generalize w.alloc (.cells #[.string c.nm, .int .i64 c.k, .int .i64 c.d, .int .i64 c.m, .int .i64 c.s, .int .i64 c.sh, .int .i64 c.p0, .int .i64 c.p1, .int .i64 c.p2, .int .i64 c.cy, .int .i64 c.ex, .int .i64 c.fi, .int .i64 c.la, .int .i64 c.po] 24) = W0 at *
    obtain ⟨_, c0, c1, c2, c3, c4, c5, c6, c7, c8, c9, c10, c11, c12, c13⟩ := id C
    go_wp2_with fail
    refine (ck _).mono ?_
    rintro e w1 ⟨rfl, hb⟩
    go_wp2
    go_ret2
    exact ⟨rfl, bthen B hb⟩

set_option maxRecDepth 100000 in
theorem rend_bad (c : CalZ) (y : Int) (w : World) (ck : ∀ w, Calls Tryd.prog 43 #[.agg #[.string c.nm, .int .i64 c.k, .int .i64 c.d, .int .i64 c.m, .int .i64 c.s, .int .i64 c.sh, .int .i64 c.p0, .int .i64 c.p1, .int .i64 c.p2, .int .i64 c.cy, .int .i64 c.ex, .int .i64 c.fi, .int .i64 c.la, .int .i64 c.po]] w fun e w' => e = .returned (.int .i64 1) ∧ Below w.heap.size w w') :
    Calls Tryd.prog 17 #[.agg #[.string c.nm, .int .i64 c.k, .int .i64 c.d, .int .i64 c.m, .int .i64 c.s, .int .i64 c.sh, .int .i64 c.p0, .int .i64 c.p1, .int .i64 c.p2, .int .i64 c.cy, .int .i64 c.ex, .int .i64 c.fi, .int .i64 c.la, .int .i64 c.po], .int .i64 y] w fun e w' => e = .returned (.tuple #[.int .i64 0, .int .i64 1]) ∧ Below w.heap.size w w' := by
  have C := CalIn.new w c 24
  have B := balloc (Below.refl _ w) (.cells #[.string c.nm, .int .i64 c.k, .int .i64 c.d, .int .i64 c.m, .int .i64 c.s, .int .i64 c.sh, .int .i64 c.p0, .int .i64 c.p1, .int .i64 c.p2, .int .i64 c.cy, .int .i64 c.ex, .int .i64 c.fi, .int .i64 c.la, .int .i64 c.po] 24)
  go_enter Tryd.func17, Tryd.ntmps17
  go_upto_region 1 with fail
  generalize w.alloc (.cells #[.string c.nm, .int .i64 c.k, .int .i64 c.d, .int .i64 c.m, .int .i64 c.s, .int .i64 c.sh, .int .i64 c.p0, .int .i64 c.p1, .int .i64 c.p2, .int .i64 c.cy, .int .i64 c.ex, .int .i64 c.fi, .int .i64 c.la, .int .i64 c.po] 24) = W0 at *
  obtain ⟨_, c0, c1, c2, c3, c4, c5, c6, c7, c8, c9, c10, c11, c12, c13⟩ := id C
  go_wp2_with fail
  refine (ck _).mono ?_
  rintro e w1 ⟨rfl, hb⟩
  go_wp2
  go_ret2
  exact ⟨rfl, bthen B hb⟩

theorem rEnd_any (c : CalZ) (y v er : Int) (w : World) (R : EndA c y v er) (K : ChkSays c) :
    Calls Tryd.prog 17 #[.agg #[.string c.nm, .int .i64 c.k, .int .i64 c.d, .int .i64 c.m, .int .i64 c.s, .int .i64 c.sh, .int .i64 c.p0, .int .i64 c.p1, .int .i64 c.p2, .int .i64 c.cy, .int .i64 c.ex, .int .i64 c.fi, .int .i64 c.la, .int .i64 c.po], .int .i64 y] w fun e w' => e = .returned (.tuple #[.int .i64 v, .int .i64 er]) ∧ Below w.heap.size w w' := by
  rcases R with ⟨ok, h1, h2, hv, rfl⟩ | ⟨ok, h, rfl, rfl⟩ | ⟨no, rfl, rfl⟩
  · have ck := fun w => K 0 w (.inl ⟨ok, rfl⟩)
    have b := kind_bd ok.1
    have mo := mon_ok ok.1 h1 (by omega)
    have bd := yend_bd ok.1 h1 h2
    rw [← hv] at bd
    unfold yend at hv
    by_cases h : c.k = 1 ∨ c.k = 4
    · rw [if_pos h] at hv
      have d := b.2.2.2.2.2.2.1 (by omega)
      refine rend_last c y v w ?_ b.2.2.1 b.2.2.2.1 h1 h2 ck (fun w => Go.Proofs.YtkpjkdeomoecjaaDoor.Er.rLast_any _ _ _ v 0 w (.inl ⟨mo, d.1, d.2, hv, rfl⟩))
      rcases h with h | h
      · exact .inl (by rw [h]; rfl)
      · exact .inr ⟨by rw [h]; rfl, by rw [h]; rfl⟩
    · rw [if_neg h] at hv
      have k1 : (c.k == 1) = false := beq_eq_false_iff_ne.2 (by omega)
      have k4 : (c.k == 4) = false := beq_eq_false_iff_ne.2 (by omega)
      by_cases h6 : c.k = 6
      · rw [if_pos h6] at hv
        exact rend_month c y (mlen (y + c.s) c.m) v w k1 k4 (by rw [h6]; rfl) b.2.2.1 b.2.2.2.1 h1 h2 ck (fun w => Go.Proofs.YtkpjkdeomoecjaaDoor.Cr.rLength_any _ _ _ 0 w (.inl ⟨mo, rfl, rfl⟩)) (fun w => Go.Proofs.YtkpjkdeomoecjaaDoor.Cr.rDay_any _ _ _ v 0 w (.inl ⟨end_ok mo, hv, rfl⟩))
      · rw [if_neg h6] at hv
        have d := b.2.2.2.2.2.2.1 h6
        exact rend_near c y v w k1 k4 (beq_eq_false_iff_ne.2 h6) b.2.2.1 b.2.2.2.1 h1 h2 ck (fun w => Go.Proofs.YtkpjkdeomoecjaaDoor.Er.rNear_any _ _ _ v 0 w (.inl ⟨mo, d.1, d.2, by omega, hv, rfl⟩))
  · exact rend_out c y w (by omega) (fun w => K 0 w (.inl ⟨ok, rfl⟩))
  · exact rend_bad c y w (fun w => K 1 w (.inr ⟨no, rfl⟩))

/-- what told says -/
def TldR (c : CalZ) (y er : Int) : Prop := (CalOk c ∧ 1601 ≤ y ∧ y ≤ 9997 ∧ er = 0) ∨ (CalOk c ∧ ¬ (1601 ≤ y ∧ y ≤ 9997) ∧ er = 11) ∨ (¬ CalOk c ∧ er = 1)

set_option maxRecDepth 100000 in
theorem rtold_any (c : CalZ) (y er : Int) (w : World) (R : TldR c y er) (K : ChkSays c) :
    Calls Tryd.prog 48 #[.agg #[.string c.nm, .int .i64 c.k, .int .i64 c.d, .int .i64 c.m, .int .i64 c.s, .int .i64 c.sh, .int .i64 c.p0, .int .i64 c.p1, .int .i64 c.p2, .int .i64 c.cy, .int .i64 c.ex, .int .i64 c.fi, .int .i64 c.la, .int .i64 c.po], .int .i64 y] w fun e w' => e = .returned (.int .i64 er) ∧ Below w.heap.size w w' := by
  have C := CalIn.new w c 24
  have B := balloc (Below.refl _ w) (.cells #[.string c.nm, .int .i64 c.k, .int .i64 c.d, .int .i64 c.m, .int .i64 c.s, .int .i64 c.sh, .int .i64 c.p0, .int .i64 c.p1, .int .i64 c.p2, .int .i64 c.cy, .int .i64 c.ex, .int .i64 c.fi, .int .i64 c.la, .int .i64 c.po] 24)
  have O : (∃ h, h = 0 ∧ ChkA c h ∧ 1601 ≤ y ∧ y ≤ 9997 ∧ er = 0) ∨ (∃ h, h = 0 ∧ ChkA c h ∧ y < 1601 ∧ er = 11) ∨ (∃ h, h = 0 ∧ ChkA c h ∧ 1601 ≤ y ∧ 9997 < y ∧ er = 11) ∨ (∃ h, h = 1 ∧ ChkA c h ∧ er = 1) := by
    rcases R with ⟨ok, h1, h2, rfl⟩ | ⟨ok, h, rfl⟩ | ⟨no, rfl⟩
    · exact .inl ⟨0, rfl, .inl ⟨ok, rfl⟩, h1, h2, rfl⟩
    · by_cases k : 1601 ≤ y
      · exact .inr (.inr (.inl ⟨0, rfl, .inl ⟨ok, rfl⟩, k, by omega, rfl⟩))
      · exact .inr (.inl ⟨0, rfl, .inl ⟨ok, rfl⟩, by omega, rfl⟩)
    · exact .inr (.inr (.inr ⟨1, rfl, .inr ⟨no, rfl⟩, rfl⟩))
  clear R
  rcases O with ⟨h, rfl, ch, h1, h2, rfl⟩ | ⟨h, rfl, ch, h1, rfl⟩ | ⟨h, rfl, ch, h1, h2, rfl⟩ | ⟨h, rfl, ch, rfl⟩
  all_goals
    have cc := fun w => K _ w ch
    clear ch
    go_enter Tryd.func48, Tryd.ntmps48
    go_upto_region 1 with fail
    generalize w.alloc (.cells #[.string c.nm, .int .i64 c.k, .int .i64 c.d, .int .i64 c.m, .int .i64 c.s, .int .i64 c.sh, .int .i64 c.p0, .int .i64 c.p1, .int .i64 c.p2, .int .i64 c.cy, .int .i64 c.ex, .int .i64 c.fi, .int .i64 c.la, .int .i64 c.po] 24) = W0 at *
    obtain ⟨_, c0, c1, c2, c3, c4, c5, c6, c7, c8, c9, c10, c11, c12, c13⟩ := id C
    go_wp2_with fail
    refine (cc _).mono ?_
    rintro e w1 ⟨rfl, hb⟩
    go_wp2
    go_ret
    exact ⟨rfl, bthen B hb⟩

set_option maxRecDepth 100000 in
theorem rstart_bad (c : CalZ) (y er : Int) (w : World) (h : er = 11 ∨ er = 1) (ct : ∀ w, Calls Tryd.prog 48 #[.agg #[.string c.nm, .int .i64 c.k, .int .i64 c.d, .int .i64 c.m, .int .i64 c.s, .int .i64 c.sh, .int .i64 c.p0, .int .i64 c.p1, .int .i64 c.p2, .int .i64 c.cy, .int .i64 c.ex, .int .i64 c.fi, .int .i64 c.la, .int .i64 c.po], .int .i64 y] w fun e w' => e = .returned (.int .i64 er) ∧ Below w.heap.size w w') :
    Calls Tryd.prog 19 #[.agg #[.string c.nm, .int .i64 c.k, .int .i64 c.d, .int .i64 c.m, .int .i64 c.s, .int .i64 c.sh, .int .i64 c.p0, .int .i64 c.p1, .int .i64 c.p2, .int .i64 c.cy, .int .i64 c.ex, .int .i64 c.fi, .int .i64 c.la, .int .i64 c.po], .int .i64 y] w fun e w' => e = .returned (.tuple #[.int .i64 0, .int .i64 er]) ∧ Below w.heap.size w w' := by
  have C := CalIn.new w c 24
  have B := balloc (Below.refl _ w) (.cells #[.string c.nm, .int .i64 c.k, .int .i64 c.d, .int .i64 c.m, .int .i64 c.s, .int .i64 c.sh, .int .i64 c.p0, .int .i64 c.p1, .int .i64 c.p2, .int .i64 c.cy, .int .i64 c.ex, .int .i64 c.fi, .int .i64 c.la, .int .i64 c.po] 24)
  rcases h with rfl | rfl
  all_goals
    go_enter Tryd.func19, Tryd.ntmps19
    go_upto_region 1 with fail
    generalize w.alloc (.cells #[.string c.nm, .int .i64 c.k, .int .i64 c.d, .int .i64 c.m, .int .i64 c.s, .int .i64 c.sh, .int .i64 c.p0, .int .i64 c.p1, .int .i64 c.p2, .int .i64 c.cy, .int .i64 c.ex, .int .i64 c.fi, .int .i64 c.la, .int .i64 c.po] 24) = W0 at *
    obtain ⟨_, c0, c1, c2, c3, c4, c5, c6, c7, c8, c9, c10, c11, c12, c13⟩ := id C
    go_wp2_with fail
    refine (ct _).mono ?_
    rintro e w1 ⟨rfl, hb⟩
    go_wp2
    go_ret2
    exact ⟨rfl, bthen B hb⟩

set_option maxRecDepth 100000 in
theorem rdays_bad (c : CalZ) (y er : Int) (w : World) (h : er = 11 ∨ er = 1) (ct : ∀ w, Calls Tryd.prog 48 #[.agg #[.string c.nm, .int .i64 c.k, .int .i64 c.d, .int .i64 c.m, .int .i64 c.s, .int .i64 c.sh, .int .i64 c.p0, .int .i64 c.p1, .int .i64 c.p2, .int .i64 c.cy, .int .i64 c.ex, .int .i64 c.fi, .int .i64 c.la, .int .i64 c.po], .int .i64 y] w fun e w' => e = .returned (.int .i64 er) ∧ Below w.heap.size w w') :
    Calls Tryd.prog 21 #[.agg #[.string c.nm, .int .i64 c.k, .int .i64 c.d, .int .i64 c.m, .int .i64 c.s, .int .i64 c.sh, .int .i64 c.p0, .int .i64 c.p1, .int .i64 c.p2, .int .i64 c.cy, .int .i64 c.ex, .int .i64 c.fi, .int .i64 c.la, .int .i64 c.po], .int .i64 y] w fun e w' => e = .returned (.tuple #[.int .i64 0, .int .i64 er]) ∧ Below w.heap.size w w' := by
  have C := CalIn.new w c 24
  have B := balloc (Below.refl _ w) (.cells #[.string c.nm, .int .i64 c.k, .int .i64 c.d, .int .i64 c.m, .int .i64 c.s, .int .i64 c.sh, .int .i64 c.p0, .int .i64 c.p1, .int .i64 c.p2, .int .i64 c.cy, .int .i64 c.ex, .int .i64 c.fi, .int .i64 c.la, .int .i64 c.po] 24)
  rcases h with rfl | rfl
  all_goals
    go_enter Tryd.func21, Tryd.ntmps21
    go_upto_region 1 with fail
    generalize w.alloc (.cells #[.string c.nm, .int .i64 c.k, .int .i64 c.d, .int .i64 c.m, .int .i64 c.s, .int .i64 c.sh, .int .i64 c.p0, .int .i64 c.p1, .int .i64 c.p2, .int .i64 c.cy, .int .i64 c.ex, .int .i64 c.fi, .int .i64 c.la, .int .i64 c.po] 24) = W0 at *
    obtain ⟨_, c0, c1, c2, c3, c4, c5, c6, c7, c8, c9, c10, c11, c12, c13⟩ := id C
    go_wp2_with fail
    refine (ct _).mono ?_
    rintro e w1 ⟨rfl, hb⟩
    go_wp2
    go_ret2
    exact ⟨rfl, bthen B hb⟩

set_option maxRecDepth 100000 in
theorem rstart_ok (c : CalZ) (y u : Int) (w : World) (y0 : 1601 ≤ y) (y1 : y ≤ 9997) (u0 : 0 ≤ u) (u1 : u ≤ 3068036) (ct : ∀ w, Calls Tryd.prog 48 #[.agg #[.string c.nm, .int .i64 c.k, .int .i64 c.d, .int .i64 c.m, .int .i64 c.s, .int .i64 c.sh, .int .i64 c.p0, .int .i64 c.p1, .int .i64 c.p2, .int .i64 c.cy, .int .i64 c.ex, .int .i64 c.fi, .int .i64 c.la, .int .i64 c.po], .int .i64 y] w fun e w' => e = .returned (.int .i64 0) ∧ Below w.heap.size w w') (ce : ∀ w, Calls Tryd.prog 17 #[.agg #[.string c.nm, .int .i64 c.k, .int .i64 c.d, .int .i64 c.m, .int .i64 c.s, .int .i64 c.sh, .int .i64 c.p0, .int .i64 c.p1, .int .i64 c.p2, .int .i64 c.cy, .int .i64 c.ex, .int .i64 c.fi, .int .i64 c.la, .int .i64 c.po], .int .i64 (y - 1)] w fun e w' => e = .returned (.tuple #[.int .i64 u, .int .i64 0]) ∧ Below w.heap.size w w') :
    Calls Tryd.prog 19 #[.agg #[.string c.nm, .int .i64 c.k, .int .i64 c.d, .int .i64 c.m, .int .i64 c.s, .int .i64 c.sh, .int .i64 c.p0, .int .i64 c.p1, .int .i64 c.p2, .int .i64 c.cy, .int .i64 c.ex, .int .i64 c.fi, .int .i64 c.la, .int .i64 c.po], .int .i64 y] w fun e w' => e = .returned (.tuple #[.int .i64 (u + 1), .int .i64 0]) ∧ Below w.heap.size w w' := by
  have C := CalIn.new w c 24
  have B := balloc (Below.refl _ w) (.cells #[.string c.nm, .int .i64 c.k, .int .i64 c.d, .int .i64 c.m, .int .i64 c.s, .int .i64 c.sh, .int .i64 c.p0, .int .i64 c.p1, .int .i64 c.p2, .int .i64 c.cy, .int .i64 c.ex, .int .i64 c.fi, .int .i64 c.la, .int .i64 c.po] 24)
  go_enter Tryd.func19, Tryd.ntmps19
  go_upto_region 1 with fail
  generalize w.alloc (.cells #[.string c.nm, .int .i64 c.k, .int .i64 c.d, .int .i64 c.m, .int .i64 c.s, .int .i64 c.sh, .int .i64 c.p0, .int .i64 c.p1, .int .i64 c.p2, .int .i64 c.cy, .int .i64 c.ex, .int .i64 c.fi, .int .i64 c.la, .int .i64 c.po] 24) = W0 at *
  obtain ⟨_, c0, c1, c2, c3, c4, c5, c6, c7, c8, c9, c10, c11, c12, c13⟩ := id C
  go_wp2_with fail
  refine (ct _).mono ?_
  rintro e w1 ⟨rfl, hb⟩
  have C1 := C.kept hb
  have B1 := bthen B hb
  clear hb c0 c1 c2 c3 c4 c5 c6 c7 c8 c9 c10 c11 c12 c13 C B
  obtain ⟨_, c0, c1, c2, c3, c4, c5, c6, c7, c8, c9, c10, c11, c12, c13⟩ := id C1
  go_wp2_with fail
  refine (ce _).mono ?_
  rintro e w2 ⟨rfl, hb⟩
  go_wp2
  go_ret2
  exact ⟨rfl, bthen B1 hb⟩

set_option maxRecDepth 100000 in
theorem rdays_ok (c : CalZ) (y u z : Int) (w : World) (y0 : 1601 ≤ y) (y1 : y ≤ 9997) (u0 : 0 ≤ u) (u1 : u ≤ 3068036) (z0 : 0 ≤ z) (z1 : z ≤ 3068036) (ct : ∀ w, Calls Tryd.prog 48 #[.agg #[.string c.nm, .int .i64 c.k, .int .i64 c.d, .int .i64 c.m, .int .i64 c.s, .int .i64 c.sh, .int .i64 c.p0, .int .i64 c.p1, .int .i64 c.p2, .int .i64 c.cy, .int .i64 c.ex, .int .i64 c.fi, .int .i64 c.la, .int .i64 c.po], .int .i64 y] w fun e w' => e = .returned (.int .i64 0) ∧ Below w.heap.size w w') (ce : ∀ w, Calls Tryd.prog 17 #[.agg #[.string c.nm, .int .i64 c.k, .int .i64 c.d, .int .i64 c.m, .int .i64 c.s, .int .i64 c.sh, .int .i64 c.p0, .int .i64 c.p1, .int .i64 c.p2, .int .i64 c.cy, .int .i64 c.ex, .int .i64 c.fi, .int .i64 c.la, .int .i64 c.po], .int .i64 (y - 1)] w fun e w' => e = .returned (.tuple #[.int .i64 u, .int .i64 0]) ∧ Below w.heap.size w w') (cz : ∀ w, Calls Tryd.prog 17 #[.agg #[.string c.nm, .int .i64 c.k, .int .i64 c.d, .int .i64 c.m, .int .i64 c.s, .int .i64 c.sh, .int .i64 c.p0, .int .i64 c.p1, .int .i64 c.p2, .int .i64 c.cy, .int .i64 c.ex, .int .i64 c.fi, .int .i64 c.la, .int .i64 c.po], .int .i64 y] w fun e w' => e = .returned (.tuple #[.int .i64 z, .int .i64 0]) ∧ Below w.heap.size w w') :
    Calls Tryd.prog 21 #[.agg #[.string c.nm, .int .i64 c.k, .int .i64 c.d, .int .i64 c.m, .int .i64 c.s, .int .i64 c.sh, .int .i64 c.p0, .int .i64 c.p1, .int .i64 c.p2, .int .i64 c.cy, .int .i64 c.ex, .int .i64 c.fi, .int .i64 c.la, .int .i64 c.po], .int .i64 y] w fun e w' => e = .returned (.tuple #[.int .i64 (z - u), .int .i64 0]) ∧ Below w.heap.size w w' := by
  have C := CalIn.new w c 24
  have B := balloc (Below.refl _ w) (.cells #[.string c.nm, .int .i64 c.k, .int .i64 c.d, .int .i64 c.m, .int .i64 c.s, .int .i64 c.sh, .int .i64 c.p0, .int .i64 c.p1, .int .i64 c.p2, .int .i64 c.cy, .int .i64 c.ex, .int .i64 c.fi, .int .i64 c.la, .int .i64 c.po] 24)
  go_enter Tryd.func21, Tryd.ntmps21
  go_upto_region 1 with fail
  generalize w.alloc (.cells #[.string c.nm, .int .i64 c.k, .int .i64 c.d, .int .i64 c.m, .int .i64 c.s, .int .i64 c.sh, .int .i64 c.p0, .int .i64 c.p1, .int .i64 c.p2, .int .i64 c.cy, .int .i64 c.ex, .int .i64 c.fi, .int .i64 c.la, .int .i64 c.po] 24) = W0 at *
  obtain ⟨_, c0, c1, c2, c3, c4, c5, c6, c7, c8, c9, c10, c11, c12, c13⟩ := id C
  go_wp2_with fail
  refine (ct _).mono ?_
  rintro e w1 ⟨rfl, hb⟩
  have C1 := C.kept hb
  have B1 := bthen B hb
  clear hb c0 c1 c2 c3 c4 c5 c6 c7 c8 c9 c10 c11 c12 c13 C B
  obtain ⟨_, c0, c1, c2, c3, c4, c5, c6, c7, c8, c9, c10, c11, c12, c13⟩ := id C1
  go_wp2_with fail
  refine (ce _).mono ?_
  rintro e w2 ⟨rfl, hb⟩
  have C2 := C1.kept hb
  have B2 := bthen B1 hb
  clear hb c0 c1 c2 c3 c4 c5 c6 c7 c8 c9 c10 c11 c12 c13 C1 B1
  obtain ⟨_, c0, c1, c2, c3, c4, c5, c6, c7, c8, c9, c10, c11, c12, c13⟩ := id C2
  go_wp2_with fail
  refine (cz _).mono ?_
  rintro e w3 ⟨rfl, hb⟩
  go_wp2
  go_ret2
  exact ⟨rfl, bthen B2 hb⟩

theorem rStart_any (c : CalZ) (y v er : Int) (w : World) (R : StartA c y v er) (K : ChkSays c) :
    Calls Tryd.prog 19 #[.agg #[.string c.nm, .int .i64 c.k, .int .i64 c.d, .int .i64 c.m, .int .i64 c.s, .int .i64 c.sh, .int .i64 c.p0, .int .i64 c.p1, .int .i64 c.p2, .int .i64 c.cy, .int .i64 c.ex, .int .i64 c.fi, .int .i64 c.la, .int .i64 c.po], .int .i64 y] w fun e w' => e = .returned (.tuple #[.int .i64 v, .int .i64 er]) ∧ Below w.heap.size w w' := by
  rcases R with ⟨ok, h1, h2, rfl, rfl⟩ | ⟨ok, h, rfl, rfl⟩ | ⟨no, rfl, rfl⟩
  · have bd := yend_bd ok.1 (y := y - 1) (by omega) (by omega)
    exact rstart_ok c y _ w h1 h2 bd.1 bd.2 (fun w => rtold_any c y 0 w (.inl ⟨ok, h1, h2, rfl⟩) K) (fun w => rEnd_any c (y - 1) _ 0 w (.inl ⟨ok, by omega, by omega, rfl, rfl⟩) K)
  · exact rstart_bad c y 11 w (.inl rfl) (fun w => rtold_any c y 11 w (.inr (.inl ⟨ok, h, rfl⟩)) K)
  · exact rstart_bad c y 1 w (.inr rfl) (fun w => rtold_any c y 1 w (.inr (.inr ⟨no, rfl⟩)) K)

theorem rDays_any (c : CalZ) (y v er : Int) (w : World) (R : DaysA c y v er) (K : ChkSays c) :
    Calls Tryd.prog 21 #[.agg #[.string c.nm, .int .i64 c.k, .int .i64 c.d, .int .i64 c.m, .int .i64 c.s, .int .i64 c.sh, .int .i64 c.p0, .int .i64 c.p1, .int .i64 c.p2, .int .i64 c.cy, .int .i64 c.ex, .int .i64 c.fi, .int .i64 c.la, .int .i64 c.po], .int .i64 y] w fun e w' => e = .returned (.tuple #[.int .i64 v, .int .i64 er]) ∧ Below w.heap.size w w' := by
  rcases R with ⟨ok, h1, h2, rfl, rfl⟩ | ⟨ok, h, rfl, rfl⟩ | ⟨no, rfl, rfl⟩
  · have bd := yend_bd ok.1 (y := y - 1) (by omega) (by omega)
    have bz := yend_bd ok.1 (y := y) (by omega) h2
    exact rdays_ok c y _ _ w h1 h2 bd.1 bd.2 bz.1 bz.2 (fun w => rtold_any c y 0 w (.inl ⟨ok, h1, h2, rfl⟩) K) (fun w => rEnd_any c (y - 1) _ 0 w (.inl ⟨ok, by omega, by omega, rfl, rfl⟩) K) (fun w => rEnd_any c y _ 0 w (.inl ⟨ok, by omega, h2, rfl, rfl⟩) K)
  · exact rdays_bad c y 11 w (.inl rfl) (fun w => rtold_any c y 11 w (.inr (.inl ⟨ok, h, rfl⟩)) K)
  · exact rdays_bad c y 1 w (.inr rfl) (fun w => rtold_any c y 1 w (.inr (.inr ⟨no, rfl⟩)) K)

set_option maxRecDepth 100000 in
theorem rweeks_ok (c : CalZ) (y d er : Int) (w : World) (d6 : (c.k == 6) = false) (d0 : 0 ≤ d) (d1 : d ≤ 400) (ck : ∀ w, Calls Tryd.prog 43 #[.agg #[.string c.nm, .int .i64 c.k, .int .i64 c.d, .int .i64 c.m, .int .i64 c.s, .int .i64 c.sh, .int .i64 c.p0, .int .i64 c.p1, .int .i64 c.p2, .int .i64 c.cy, .int .i64 c.ex, .int .i64 c.fi, .int .i64 c.la, .int .i64 c.po]] w fun e w' => e = .returned (.int .i64 0) ∧ Below w.heap.size w w') (cd : ∀ w, Calls Tryd.prog 21 #[.agg #[.string c.nm, .int .i64 c.k, .int .i64 c.d, .int .i64 c.m, .int .i64 c.s, .int .i64 c.sh, .int .i64 c.p0, .int .i64 c.p1, .int .i64 c.p2, .int .i64 c.cy, .int .i64 c.ex, .int .i64 c.fi, .int .i64 c.la, .int .i64 c.po], .int .i64 y] w fun e w' => e = .returned (.tuple #[.int .i64 d, .int .i64 er]) ∧ Below w.heap.size w w') :
    Calls Tryd.prog 23 #[.agg #[.string c.nm, .int .i64 c.k, .int .i64 c.d, .int .i64 c.m, .int .i64 c.s, .int .i64 c.sh, .int .i64 c.p0, .int .i64 c.p1, .int .i64 c.p2, .int .i64 c.cy, .int .i64 c.ex, .int .i64 c.fi, .int .i64 c.la, .int .i64 c.po], .int .i64 y] w fun e w' => e = .returned (.tuple #[.int .i64 (d / 7), .int .i64 er]) ∧ Below w.heap.size w w' := by
  have C := CalIn.new w c 24
  have B := balloc (Below.refl _ w) (.cells #[.string c.nm, .int .i64 c.k, .int .i64 c.d, .int .i64 c.m, .int .i64 c.s, .int .i64 c.sh, .int .i64 c.p0, .int .i64 c.p1, .int .i64 c.p2, .int .i64 c.cy, .int .i64 c.ex, .int .i64 c.fi, .int .i64 c.la, .int .i64 c.po] 24)
  go_enter Tryd.func23, Tryd.ntmps23
  go_upto_region 1 with fail
  generalize w.alloc (.cells #[.string c.nm, .int .i64 c.k, .int .i64 c.d, .int .i64 c.m, .int .i64 c.s, .int .i64 c.sh, .int .i64 c.p0, .int .i64 c.p1, .int .i64 c.p2, .int .i64 c.cy, .int .i64 c.ex, .int .i64 c.fi, .int .i64 c.la, .int .i64 c.po] 24) = W0 at *
  obtain ⟨_, c0, c1, c2, c3, c4, c5, c6, c7, c8, c9, c10, c11, c12, c13⟩ := id C
  go_wp2_with fail
  refine (ck _).mono ?_
  rintro e w1 ⟨rfl, hb⟩
  have C1 := C.kept hb
  have B1 := bthen B hb
  clear hb c0 c1 c2 c3 c4 c5 c6 c7 c8 c9 c10 c11 c12 c13 C B
  obtain ⟨_, c0, c1, c2, c3, c4, c5, c6, c7, c8, c9, c10, c11, c12, c13⟩ := id C1
  go_wp2_with fail
  refine (cd _).mono ?_
  rintro e w2 ⟨rfl, hb⟩
  go_wp2
  go_ret2
  exact ⟨rfl, bthen B1 hb⟩

set_option maxRecDepth 100000 in
theorem rweeks_six (c : CalZ) (y : Int) (w : World) (d6 : (c.k == 6) = true) (ck : ∀ w, Calls Tryd.prog 43 #[.agg #[.string c.nm, .int .i64 c.k, .int .i64 c.d, .int .i64 c.m, .int .i64 c.s, .int .i64 c.sh, .int .i64 c.p0, .int .i64 c.p1, .int .i64 c.p2, .int .i64 c.cy, .int .i64 c.ex, .int .i64 c.fi, .int .i64 c.la, .int .i64 c.po]] w fun e w' => e = .returned (.int .i64 0) ∧ Below w.heap.size w w') :
    Calls Tryd.prog 23 #[.agg #[.string c.nm, .int .i64 c.k, .int .i64 c.d, .int .i64 c.m, .int .i64 c.s, .int .i64 c.sh, .int .i64 c.p0, .int .i64 c.p1, .int .i64 c.p2, .int .i64 c.cy, .int .i64 c.ex, .int .i64 c.fi, .int .i64 c.la, .int .i64 c.po], .int .i64 y] w fun e w' => e = .returned (.tuple #[.int .i64 0, .int .i64 1]) ∧ Below w.heap.size w w' := by
  have C := CalIn.new w c 24
  have B := balloc (Below.refl _ w) (.cells #[.string c.nm, .int .i64 c.k, .int .i64 c.d, .int .i64 c.m, .int .i64 c.s, .int .i64 c.sh, .int .i64 c.p0, .int .i64 c.p1, .int .i64 c.p2, .int .i64 c.cy, .int .i64 c.ex, .int .i64 c.fi, .int .i64 c.la, .int .i64 c.po] 24)
  go_enter Tryd.func23, Tryd.ntmps23
  go_upto_region 1 with fail
  generalize w.alloc (.cells #[.string c.nm, .int .i64 c.k, .int .i64 c.d, .int .i64 c.m, .int .i64 c.s, .int .i64 c.sh, .int .i64 c.p0, .int .i64 c.p1, .int .i64 c.p2, .int .i64 c.cy, .int .i64 c.ex, .int .i64 c.fi, .int .i64 c.la, .int .i64 c.po] 24) = W0 at *
  obtain ⟨_, c0, c1, c2, c3, c4, c5, c6, c7, c8, c9, c10, c11, c12, c13⟩ := id C
  go_wp2_with fail
  refine (ck _).mono ?_
  rintro e w1 ⟨rfl, hb⟩
  have C1 := C.kept hb
  have B1 := bthen B hb
  clear hb c0 c1 c2 c3 c4 c5 c6 c7 c8 c9 c10 c11 c12 c13 C B
  obtain ⟨_, c0, c1, c2, c3, c4, c5, c6, c7, c8, c9, c10, c11, c12, c13⟩ := id C1
  go_wp2
  go_ret2
  exact ⟨rfl, B1⟩

set_option maxRecDepth 100000 in
theorem rweeks_bad (c : CalZ) (y : Int) (w : World) (ck : ∀ w, Calls Tryd.prog 43 #[.agg #[.string c.nm, .int .i64 c.k, .int .i64 c.d, .int .i64 c.m, .int .i64 c.s, .int .i64 c.sh, .int .i64 c.p0, .int .i64 c.p1, .int .i64 c.p2, .int .i64 c.cy, .int .i64 c.ex, .int .i64 c.fi, .int .i64 c.la, .int .i64 c.po]] w fun e w' => e = .returned (.int .i64 1) ∧ Below w.heap.size w w') :
    Calls Tryd.prog 23 #[.agg #[.string c.nm, .int .i64 c.k, .int .i64 c.d, .int .i64 c.m, .int .i64 c.s, .int .i64 c.sh, .int .i64 c.p0, .int .i64 c.p1, .int .i64 c.p2, .int .i64 c.cy, .int .i64 c.ex, .int .i64 c.fi, .int .i64 c.la, .int .i64 c.po], .int .i64 y] w fun e w' => e = .returned (.tuple #[.int .i64 0, .int .i64 1]) ∧ Below w.heap.size w w' := by
  have C := CalIn.new w c 24
  have B := balloc (Below.refl _ w) (.cells #[.string c.nm, .int .i64 c.k, .int .i64 c.d, .int .i64 c.m, .int .i64 c.s, .int .i64 c.sh, .int .i64 c.p0, .int .i64 c.p1, .int .i64 c.p2, .int .i64 c.cy, .int .i64 c.ex, .int .i64 c.fi, .int .i64 c.la, .int .i64 c.po] 24)
  go_enter Tryd.func23, Tryd.ntmps23
  go_upto_region 1 with fail
  generalize w.alloc (.cells #[.string c.nm, .int .i64 c.k, .int .i64 c.d, .int .i64 c.m, .int .i64 c.s, .int .i64 c.sh, .int .i64 c.p0, .int .i64 c.p1, .int .i64 c.p2, .int .i64 c.cy, .int .i64 c.ex, .int .i64 c.fi, .int .i64 c.la, .int .i64 c.po] 24) = W0 at *
  obtain ⟨_, c0, c1, c2, c3, c4, c5, c6, c7, c8, c9, c10, c11, c12, c13⟩ := id C
  go_wp2_with fail
  refine (ck _).mono ?_
  rintro e w1 ⟨rfl, hb⟩
  go_wp2
  go_ret2
  exact ⟨rfl, bthen B hb⟩

theorem rWeeks_any (c : CalZ) (y v er : Int) (w : World) (R : WeeksA c y v er) (K : ChkSays c) :
    Calls Tryd.prog 23 #[.agg #[.string c.nm, .int .i64 c.k, .int .i64 c.d, .int .i64 c.m, .int .i64 c.s, .int .i64 c.sh, .int .i64 c.p0, .int .i64 c.p1, .int .i64 c.p2, .int .i64 c.cy, .int .i64 c.ex, .int .i64 c.fi, .int .i64 c.la, .int .i64 c.po], .int .i64 y] w fun e w' => e = .returned (.tuple #[.int .i64 v, .int .i64 er]) ∧ Below w.heap.size w w' := by
  rcases R with ⟨ok, k6, h1, h2, rfl, rfl⟩ | ⟨ok, k6, h, rfl, rfl⟩ | ⟨no, rfl, rfl⟩
  · have s := yend_step ok.1 (y := y - 1) (by omega) (by omega)
    rw [show y - 1 + 1 = y by omega] at s
    exact rweeks_ok c y _ 0 w (beq_eq_false_iff_ne.2 k6) (by omega) (by omega) (fun w => K 0 w (.inl ⟨ok, rfl⟩)) (fun w => rDays_any c y _ 0 w (.inl ⟨ok, h1, h2, rfl, rfl⟩) K)
  · exact rweeks_ok c y 0 11 w (beq_eq_false_iff_ne.2 k6) (by omega) (by omega) (fun w => K 0 w (.inl ⟨ok, rfl⟩)) (fun w => rDays_any c y 0 11 w (.inr (.inl ⟨ok, h, rfl, rfl⟩)) K)
  · by_cases ok : CalOk c
    · have k6 := no.resolve_left (fun h => h ok)
      exact rweeks_six c y w (by rw [k6]; rfl) (fun w => K 0 w (.inl ⟨ok, rfl⟩))
    · exact rweeks_bad c y w (fun w => K 1 w (.inr ⟨ok, rfl⟩))

end Go.Proofs.YtkpjkdeomoecjaaDoor.Ar

namespace Go.Proofs.YtkpjkdeomoecjaaDoor.Jr
set_option linter.unusedSimpArgs false
set_option linter.unusedVariables false
open Go.RowKit Go.Proofs.YtkpjkdeomoecjaaDoor.Bn Go.Proofs.YtkpjkdeomoecjaaDoor.Am Go.Proofs.YtkpjkdeomoecjaaDoor.Fp Go.Proofs.YtkpjkdeomoecjaaDoor.Cm Go.Proofs.YtkpjkdeomoecjaaDoor.Em Go.Proofs.YtkpjkdeomoecjaaDoor.Ar

set_option maxHeartbeats 4000000

/-- what Of of the reference says -/
def OfSays (c : CalZ) : Prop := ∀ (n y er : Int) (w : World), OfA c n y er → Calls Tryd.prog 34 #[.agg #[.string c.nm, .int .i64 c.k, .int .i64 c.d, .int .i64 c.m, .int .i64 c.s, .int .i64 c.sh, .int .i64 c.p0, .int .i64 c.p1, .int .i64 c.p2, .int .i64 c.cy, .int .i64 c.ex, .int .i64 c.fi, .int .i64 c.la, .int .i64 c.po], .int .i64 n] w fun e w' => e = .returned (.tuple #[.int .i64 y, .int .i64 er]) ∧ Below w.heap.size w w'

set_option maxRecDepth 100000 in
theorem rnth_ok (c : CalZ) (n y u : Int) (w : World) (n0 : 0 ≤ n) (n1 : n ≤ 3068036) (u0 : 0 ≤ u) (u1 : u ≤ 3068036) (co : ∀ w, Calls Tryd.prog 34 #[.agg #[.string c.nm, .int .i64 c.k, .int .i64 c.d, .int .i64 c.m, .int .i64 c.s, .int .i64 c.sh, .int .i64 c.p0, .int .i64 c.p1, .int .i64 c.p2, .int .i64 c.cy, .int .i64 c.ex, .int .i64 c.fi, .int .i64 c.la, .int .i64 c.po], .int .i64 n] w fun e w' => e = .returned (.tuple #[.int .i64 y, .int .i64 0]) ∧ Below w.heap.size w w')
    (cs : ∀ w, Calls Tryd.prog 19 #[.agg #[.string c.nm, .int .i64 c.k, .int .i64 c.d, .int .i64 c.m, .int .i64 c.s, .int .i64 c.sh, .int .i64 c.p0, .int .i64 c.p1, .int .i64 c.p2, .int .i64 c.cy, .int .i64 c.ex, .int .i64 c.fi, .int .i64 c.la, .int .i64 c.po], .int .i64 y] w fun e w' => e = .returned (.tuple #[.int .i64 (u + 1), .int .i64 0]) ∧ Below w.heap.size w w') :
    Calls Tryd.prog 36 #[.agg #[.string c.nm, .int .i64 c.k, .int .i64 c.d, .int .i64 c.m, .int .i64 c.s, .int .i64 c.sh, .int .i64 c.p0, .int .i64 c.p1, .int .i64 c.p2, .int .i64 c.cy, .int .i64 c.ex, .int .i64 c.fi, .int .i64 c.la, .int .i64 c.po], .int .i64 n] w fun e w' => e = .returned (.tuple #[.int .i64 (n - (u + 1) + 1), .int .i64 0]) ∧ Below w.heap.size w w' := by
  have C := CalIn.new w c 24
  have B := balloc (Below.refl _ w) (.cells #[.string c.nm, .int .i64 c.k, .int .i64 c.d, .int .i64 c.m, .int .i64 c.s, .int .i64 c.sh, .int .i64 c.p0, .int .i64 c.p1, .int .i64 c.p2, .int .i64 c.cy, .int .i64 c.ex, .int .i64 c.fi, .int .i64 c.la, .int .i64 c.po] 24)
  go_enter Tryd.func36, Tryd.ntmps36
  go_upto_region 1 with fail
  generalize w.alloc (.cells #[.string c.nm, .int .i64 c.k, .int .i64 c.d, .int .i64 c.m, .int .i64 c.s, .int .i64 c.sh, .int .i64 c.p0, .int .i64 c.p1, .int .i64 c.p2, .int .i64 c.cy, .int .i64 c.ex, .int .i64 c.fi, .int .i64 c.la, .int .i64 c.po] 24) = W0 at *
  obtain ⟨_, c0, c1, c2, c3, c4, c5, c6, c7, c8, c9, c10, c11, c12, c13⟩ := id C
  go_wp2_with fail
  refine (co _).mono ?_
  rintro e w1 ⟨rfl, hb⟩
  have C1 := C.kept hb
  have B1 := bthen B hb
  clear hb c0 c1 c2 c3 c4 c5 c6 c7 c8 c9 c10 c11 c12 c13 C B
  obtain ⟨_, c0, c1, c2, c3, c4, c5, c6, c7, c8, c9, c10, c11, c12, c13⟩ := id C1
  go_wp2_with fail
  refine (cs _).mono ?_
  rintro e w2 ⟨rfl, hb⟩
  go_wp2
  go_ret2
  exact ⟨rfl, bthen B1 hb⟩

set_option maxRecDepth 100000 in
theorem rnth_bad (c : CalZ) (n y er : Int) (w : World) (h : er = 11 ∨ er = 4 ∨ er = 1) (co : ∀ w, Calls Tryd.prog 34 #[.agg #[.string c.nm, .int .i64 c.k, .int .i64 c.d, .int .i64 c.m, .int .i64 c.s, .int .i64 c.sh, .int .i64 c.p0, .int .i64 c.p1, .int .i64 c.p2, .int .i64 c.cy, .int .i64 c.ex, .int .i64 c.fi, .int .i64 c.la, .int .i64 c.po], .int .i64 n] w fun e w' => e = .returned (.tuple #[.int .i64 y, .int .i64 er]) ∧ Below w.heap.size w w') :
    Calls Tryd.prog 36 #[.agg #[.string c.nm, .int .i64 c.k, .int .i64 c.d, .int .i64 c.m, .int .i64 c.s, .int .i64 c.sh, .int .i64 c.p0, .int .i64 c.p1, .int .i64 c.p2, .int .i64 c.cy, .int .i64 c.ex, .int .i64 c.fi, .int .i64 c.la, .int .i64 c.po], .int .i64 n] w fun e w' => e = .returned (.tuple #[.int .i64 0, .int .i64 er]) ∧ Below w.heap.size w w' := by
  have C := CalIn.new w c 24
  have B := balloc (Below.refl _ w) (.cells #[.string c.nm, .int .i64 c.k, .int .i64 c.d, .int .i64 c.m, .int .i64 c.s, .int .i64 c.sh, .int .i64 c.p0, .int .i64 c.p1, .int .i64 c.p2, .int .i64 c.cy, .int .i64 c.ex, .int .i64 c.fi, .int .i64 c.la, .int .i64 c.po] 24)
  rcases h with rfl | rfl | rfl
  all_goals
    go_enter Tryd.func36, Tryd.ntmps36
    go_upto_region 1 with fail
    generalize w.alloc (.cells #[.string c.nm, .int .i64 c.k, .int .i64 c.d, .int .i64 c.m, .int .i64 c.s, .int .i64 c.sh, .int .i64 c.p0, .int .i64 c.p1, .int .i64 c.p2, .int .i64 c.cy, .int .i64 c.ex, .int .i64 c.fi, .int .i64 c.la, .int .i64 c.po] 24) = W0 at *
    obtain ⟨_, c0, c1, c2, c3, c4, c5, c6, c7, c8, c9, c10, c11, c12, c13⟩ := id C
    go_wp2_with fail
    refine (co _).mono ?_
    rintro e w1 ⟨rfl, hb⟩
    go_wp2
    go_ret2
    exact ⟨rfl, bthen B hb⟩

theorem rNth_any (c : CalZ) (n v er : Int) (w : World) (R : NthA c n v er) (K : ChkSays c) (O : OfSays c) :
    Calls Tryd.prog 36 #[.agg #[.string c.nm, .int .i64 c.k, .int .i64 c.d, .int .i64 c.m, .int .i64 c.s, .int .i64 c.sh, .int .i64 c.p0, .int .i64 c.p1, .int .i64 c.p2, .int .i64 c.cy, .int .i64 c.ex, .int .i64 c.fi, .int .i64 c.la, .int .i64 c.po], .int .i64 n] w fun e w' => e = .returned (.tuple #[.int .i64 v, .int .i64 er]) ∧ Below w.heap.size w w' := by
  obtain ⟨y, R, hv, hv2⟩ := R
  rcases Go.Proofs.YtkpjkdeomoecjaaDoor.Jp.ofa_cases R with ⟨rfl, ok, y0, y1, n0, n1⟩ | h
  · have bd := yend_bd ok.1 (y := y - 1) (by omega) (by omega)
    have e : v = n - (yend c (y - 1) + 1) + 1 := by have := hv rfl; omega
    rw [e]
    exact rnth_ok c n y _ w n0 n1 bd.1 bd.2 (fun w => O n y 0 w R) (fun w => rStart_any c y _ 0 w (.inl ⟨ok, y0, y1, rfl, rfl⟩) K)
  · have h0 : v = 0 := hv2 (by omega)
    rw [h0]
    exact rnth_bad c n y er w (by omega) (fun w => O n y er w R)

set_option maxRecDepth 100000 in
theorem rbounds_ok (c : CalZ) (a b : Int) (w : World)
    (cs : ∀ w, Calls Tryd.prog 19 #[.agg #[.string c.nm, .int .i64 c.k, .int .i64 c.d, .int .i64 c.m, .int .i64 c.s, .int .i64 c.sh, .int .i64 c.p0, .int .i64 c.p1, .int .i64 c.p2, .int .i64 c.cy, .int .i64 c.ex, .int .i64 c.fi, .int .i64 c.la, .int .i64 c.po], .int .i64 c.fi] w fun e w' => e = .returned (.tuple #[.int .i64 a, .int .i64 0]) ∧ Below w.heap.size w w')
    (ce : ∀ w, Calls Tryd.prog 17 #[.agg #[.string c.nm, .int .i64 c.k, .int .i64 c.d, .int .i64 c.m, .int .i64 c.s, .int .i64 c.sh, .int .i64 c.p0, .int .i64 c.p1, .int .i64 c.p2, .int .i64 c.cy, .int .i64 c.ex, .int .i64 c.fi, .int .i64 c.la, .int .i64 c.po], .int .i64 c.la] w fun e w' => e = .returned (.tuple #[.int .i64 b, .int .i64 0]) ∧ Below w.heap.size w w') :
    Calls Tryd.prog 38 #[.agg #[.string c.nm, .int .i64 c.k, .int .i64 c.d, .int .i64 c.m, .int .i64 c.s, .int .i64 c.sh, .int .i64 c.p0, .int .i64 c.p1, .int .i64 c.p2, .int .i64 c.cy, .int .i64 c.ex, .int .i64 c.fi, .int .i64 c.la, .int .i64 c.po]] w fun e w' => e = .returned (.tuple #[.agg #[.int .i64 a, .int .i64 b], .int .i64 0]) ∧ Below w.heap.size w w' := by
  have C := (CalIn.new w c 24).alloc (.cells #[.int .i64 0, .int .i64 0] 44)
  have K := Go.Proofs.YtkpjkdeomoecjaaDoor.Pr.Two.new (w.alloc (.cells #[.string c.nm, .int .i64 c.k, .int .i64 c.d, .int .i64 c.m, .int .i64 c.s, .int .i64 c.sh, .int .i64 c.p0, .int .i64 c.p1, .int .i64 c.p2, .int .i64 c.cy, .int .i64 c.ex, .int .i64 c.fi, .int .i64 c.la, .int .i64 c.po] 24)) (.int .i64 0) (.int .i64 0) 44
  have B := balloc (balloc (Below.refl _ w) (.cells #[.string c.nm, .int .i64 c.k, .int .i64 c.d, .int .i64 c.m, .int .i64 c.s, .int .i64 c.sh, .int .i64 c.p0, .int .i64 c.p1, .int .i64 c.p2, .int .i64 c.cy, .int .i64 c.ex, .int .i64 c.fi, .int .i64 c.la, .int .i64 c.po] 24)) (.cells #[.int .i64 0, .int .i64 0] 44)
  have zz : ((w.alloc (.cells #[.string c.nm, .int .i64 c.k, .int .i64 c.d, .int .i64 c.m, .int .i64 c.s, .int .i64 c.sh, .int .i64 c.p0, .int .i64 c.p1, .int .i64 c.p2, .int .i64 c.cy, .int .i64 c.ex, .int .i64 c.fi, .int .i64 c.la, .int .i64 c.po] 24)).alloc (.cells #[.int .i64 0, .int .i64 0] 44)).heap.size = w.heap.size + 2 := by simp
  simp only [World.size_alloc] at K
  go_enter Tryd.func38, Tryd.ntmps38
  go_upto_region 1 with fail
  generalize (w.alloc (.cells #[.string c.nm, .int .i64 c.k, .int .i64 c.d, .int .i64 c.m, .int .i64 c.s, .int .i64 c.sh, .int .i64 c.p0, .int .i64 c.p1, .int .i64 c.p2, .int .i64 c.cy, .int .i64 c.ex, .int .i64 c.fi, .int .i64 c.la, .int .i64 c.po] 24)).alloc (.cells #[.int .i64 0, .int .i64 0] 44) = W0 at *
  obtain ⟨_, c0, c1, c2, c3, c4, c5, c6, c7, c8, c9, c10, c11, c12, c13⟩ := id C
  go_wp2_with fail
  refine (cs _).mono ?_
  rintro e w1 ⟨rfl, hb⟩
  have zz1 : w.heap.size + 2 ≤ w1.heap.size := by have := hb.size; omega
  replace C := C.kept hb
  replace K := K.kept hb
  have B1 := bthen B hb
  clear hb B c0 c1 c2 c3 c4 c5 c6 c7 c8 c9 c10 c11 c12 c13
  obtain ⟨_, c0, c1, c2, c3, c4, c5, c6, c7, c8, c9, c10, c11, c12, c13⟩ := id C
  go_wp2_with fail
  refine (ce _).mono ?_
  rintro e w2 ⟨rfl, hb⟩
  have zz2 : w.heap.size + 2 ≤ w2.heap.size := by have := hb.size; omega
  replace K := K.kept hb
  obtain ⟨_, k0, k1, g0, g1⟩ := id K
  go_wp2
  refine bodyPost_ret (v := .tuple #[.agg #[.int .i64 a, .int .i64 b], .int .i64 0]) (by simp [results, Tryd.results38, go_sem, k0, k1]) rfl ⟨rfl, ?_⟩
  exact bset (bset (bthen B1 hb) (by omega) _ _) (by omega) _ _

set_option maxRecDepth 100000 in
theorem rbounds_bad (c : CalZ) (w : World)
    (cs : ∀ w, Calls Tryd.prog 19 #[.agg #[.string c.nm, .int .i64 c.k, .int .i64 c.d, .int .i64 c.m, .int .i64 c.s, .int .i64 c.sh, .int .i64 c.p0, .int .i64 c.p1, .int .i64 c.p2, .int .i64 c.cy, .int .i64 c.ex, .int .i64 c.fi, .int .i64 c.la, .int .i64 c.po], .int .i64 c.fi] w fun e w' => e = .returned (.tuple #[.int .i64 0, .int .i64 1]) ∧ Below w.heap.size w w') :
    Calls Tryd.prog 38 #[.agg #[.string c.nm, .int .i64 c.k, .int .i64 c.d, .int .i64 c.m, .int .i64 c.s, .int .i64 c.sh, .int .i64 c.p0, .int .i64 c.p1, .int .i64 c.p2, .int .i64 c.cy, .int .i64 c.ex, .int .i64 c.fi, .int .i64 c.la, .int .i64 c.po]] w fun e w' => e = .returned (.tuple #[.agg #[.int .i64 0, .int .i64 0], .int .i64 1]) ∧ Below w.heap.size w w' := by
  have C := (CalIn.new w c 24).alloc (.cells #[.int .i64 0, .int .i64 0] 44)
  have K := Go.Proofs.YtkpjkdeomoecjaaDoor.Pr.Two.new (w.alloc (.cells #[.string c.nm, .int .i64 c.k, .int .i64 c.d, .int .i64 c.m, .int .i64 c.s, .int .i64 c.sh, .int .i64 c.p0, .int .i64 c.p1, .int .i64 c.p2, .int .i64 c.cy, .int .i64 c.ex, .int .i64 c.fi, .int .i64 c.la, .int .i64 c.po] 24)) (.int .i64 0) (.int .i64 0) 44
  have B := balloc (balloc (Below.refl _ w) (.cells #[.string c.nm, .int .i64 c.k, .int .i64 c.d, .int .i64 c.m, .int .i64 c.s, .int .i64 c.sh, .int .i64 c.p0, .int .i64 c.p1, .int .i64 c.p2, .int .i64 c.cy, .int .i64 c.ex, .int .i64 c.fi, .int .i64 c.la, .int .i64 c.po] 24)) (.cells #[.int .i64 0, .int .i64 0] 44)
  have zz : ((w.alloc (.cells #[.string c.nm, .int .i64 c.k, .int .i64 c.d, .int .i64 c.m, .int .i64 c.s, .int .i64 c.sh, .int .i64 c.p0, .int .i64 c.p1, .int .i64 c.p2, .int .i64 c.cy, .int .i64 c.ex, .int .i64 c.fi, .int .i64 c.la, .int .i64 c.po] 24)).alloc (.cells #[.int .i64 0, .int .i64 0] 44)).heap.size = w.heap.size + 2 := by simp
  simp only [World.size_alloc] at K
  go_enter Tryd.func38, Tryd.ntmps38
  go_upto_region 1 with fail
  generalize (w.alloc (.cells #[.string c.nm, .int .i64 c.k, .int .i64 c.d, .int .i64 c.m, .int .i64 c.s, .int .i64 c.sh, .int .i64 c.p0, .int .i64 c.p1, .int .i64 c.p2, .int .i64 c.cy, .int .i64 c.ex, .int .i64 c.fi, .int .i64 c.la, .int .i64 c.po] 24)).alloc (.cells #[.int .i64 0, .int .i64 0] 44) = W0 at *
  obtain ⟨_, c0, c1, c2, c3, c4, c5, c6, c7, c8, c9, c10, c11, c12, c13⟩ := id C
  go_wp2_with fail
  refine (cs _).mono ?_
  rintro e w1 ⟨rfl, hb⟩
  replace K := K.kept hb
  obtain ⟨_, k0, k1, g0, g1⟩ := id K
  go_wp2
  refine bodyPost_ret (v := .tuple #[.agg #[.int .i64 0, .int .i64 0], .int .i64 1]) (by simp [results, Tryd.results38, go_sem, k0, k1]) rfl ⟨rfl, ?_⟩
  exact bset (bset (bthen B hb) (by omega) _ _) (by omega) _ _

theorem rBounds_any (c : CalZ) (a b er : Int) (w : World) (R : BoundsA c a b er) (K : ChkSays c) :
    Calls Tryd.prog 38 #[.agg #[.string c.nm, .int .i64 c.k, .int .i64 c.d, .int .i64 c.m, .int .i64 c.s, .int .i64 c.sh, .int .i64 c.p0, .int .i64 c.p1, .int .i64 c.p2, .int .i64 c.cy, .int .i64 c.ex, .int .i64 c.fi, .int .i64 c.la, .int .i64 c.po]] w fun e w' => e = .returned (.tuple #[.agg #[.int .i64 a, .int .i64 b], .int .i64 er]) ∧ Below w.heap.size w w' := by
  rcases R with ⟨ok, ha, hb, rfl⟩ | ⟨no, rfl, rfl, rfl⟩
  · have yo := ok.2.2.1
    exact rbounds_ok c a b w (fun w => rStart_any c c.fi a 0 w (.inl ⟨ok, by have := yo.1; omega, by have := yo.2.1; have := yo.2.2.1; omega, ha, rfl⟩) K) (fun w => rEnd_any c c.la b 0 w (.inl ⟨ok, by have := yo.1; have := yo.2.2.1; omega, by have := yo.2.1; omega, hb, rfl⟩) K)
  · exact rbounds_bad c w (fun w => rStart_any c c.fi 0 1 w (.inr (.inr ⟨no, rfl, rfl⟩)) K)

set_option maxRecDepth 100000 in
theorem rserved_bad (c : CalZ) (n : Int) (w : World) (cb : ∀ w, Calls Tryd.prog 38 #[.agg #[.string c.nm, .int .i64 c.k, .int .i64 c.d, .int .i64 c.m, .int .i64 c.s, .int .i64 c.sh, .int .i64 c.p0, .int .i64 c.p1, .int .i64 c.p2, .int .i64 c.cy, .int .i64 c.ex, .int .i64 c.fi, .int .i64 c.la, .int .i64 c.po]] w fun e w' => e = .returned (.tuple #[.agg #[.int .i64 0, .int .i64 0], .int .i64 1]) ∧ Below w.heap.size w w') :
    Calls Tryd.prog 40 #[.agg #[.string c.nm, .int .i64 c.k, .int .i64 c.d, .int .i64 c.m, .int .i64 c.s, .int .i64 c.sh, .int .i64 c.p0, .int .i64 c.p1, .int .i64 c.p2, .int .i64 c.cy, .int .i64 c.ex, .int .i64 c.fi, .int .i64 c.la, .int .i64 c.po], .int .i64 n] w fun e w' => e = .returned (.tuple #[.int .i64 0, .int .i64 1]) ∧ Below w.heap.size w w' := by
  have C := CalIn.new w c 24
  have B := balloc (Below.refl _ w) (.cells #[.string c.nm, .int .i64 c.k, .int .i64 c.d, .int .i64 c.m, .int .i64 c.s, .int .i64 c.sh, .int .i64 c.p0, .int .i64 c.p1, .int .i64 c.p2, .int .i64 c.cy, .int .i64 c.ex, .int .i64 c.fi, .int .i64 c.la, .int .i64 c.po] 24)
  go_enter Tryd.func40, Tryd.ntmps40
  go_upto_region 1 with fail
  generalize w.alloc (.cells #[.string c.nm, .int .i64 c.k, .int .i64 c.d, .int .i64 c.m, .int .i64 c.s, .int .i64 c.sh, .int .i64 c.p0, .int .i64 c.p1, .int .i64 c.p2, .int .i64 c.cy, .int .i64 c.ex, .int .i64 c.fi, .int .i64 c.la, .int .i64 c.po] 24) = W0 at *
  obtain ⟨_, c0, c1, c2, c3, c4, c5, c6, c7, c8, c9, c10, c11, c12, c13⟩ := id C
  go_wp2_with fail
  refine (cb _).mono ?_
  rintro e w1 ⟨rfl, hb⟩
  have C1 := (C.kept hb).alloc (.cells #[.int .i64 0, .int .i64 0] 44)
  have B1 := balloc (bthen B hb) (.cells #[.int .i64 0, .int .i64 0] 44)
  have K := Go.Proofs.YtkpjkdeomoecjaaDoor.Pr.Two.new w1 (.int .i64 0) (.int .i64 0) 44
  clear hb C B c0 c1 c2 c3 c4 c5 c6 c7 c8 c9 c10 c11 c12 c13
  obtain ⟨_, c0, c1, c2, c3, c4, c5, c6, c7, c8, c9, c10, c11, c12, c13⟩ := id C1
  obtain ⟨_, k0, k1, g0, g1⟩ := id K
  go_wp2
  go_ret2
  exact ⟨rfl, B1⟩

set_option maxRecDepth 100000 in
theorem rserved_day (c : CalZ) (n a b p q r : Int) (w : World) (cb : ∀ w, Calls Tryd.prog 38 #[.agg #[.string c.nm, .int .i64 c.k, .int .i64 c.d, .int .i64 c.m, .int .i64 c.s, .int .i64 c.sh, .int .i64 c.p0, .int .i64 c.p1, .int .i64 c.p2, .int .i64 c.cy, .int .i64 c.ex, .int .i64 c.fi, .int .i64 c.la, .int .i64 c.po]] w fun e w' => e = .returned (.tuple #[.agg #[.int .i64 a, .int .i64 b], .int .i64 0]) ∧ Below w.heap.size w w') (cd : ∀ w, Calls Tryd.prog 68 #[.int .i64 n] w fun e w' => e = .returned (.tuple #[.agg #[.int .i64 p, .int .i64 q, .int .i64 r], .int .i64 4]) ∧ Below w.heap.size w w') :
    Calls Tryd.prog 40 #[.agg #[.string c.nm, .int .i64 c.k, .int .i64 c.d, .int .i64 c.m, .int .i64 c.s, .int .i64 c.sh, .int .i64 c.p0, .int .i64 c.p1, .int .i64 c.p2, .int .i64 c.cy, .int .i64 c.ex, .int .i64 c.fi, .int .i64 c.la, .int .i64 c.po], .int .i64 n] w fun e w' => e = .returned (.tuple #[.int .i64 0, .int .i64 4]) ∧ Below w.heap.size w w' := by
  have C := CalIn.new w c 24
  have B := balloc (Below.refl _ w) (.cells #[.string c.nm, .int .i64 c.k, .int .i64 c.d, .int .i64 c.m, .int .i64 c.s, .int .i64 c.sh, .int .i64 c.p0, .int .i64 c.p1, .int .i64 c.p2, .int .i64 c.cy, .int .i64 c.ex, .int .i64 c.fi, .int .i64 c.la, .int .i64 c.po] 24)
  go_enter Tryd.func40, Tryd.ntmps40
  go_upto_region 1 with fail
  generalize w.alloc (.cells #[.string c.nm, .int .i64 c.k, .int .i64 c.d, .int .i64 c.m, .int .i64 c.s, .int .i64 c.sh, .int .i64 c.p0, .int .i64 c.p1, .int .i64 c.p2, .int .i64 c.cy, .int .i64 c.ex, .int .i64 c.fi, .int .i64 c.la, .int .i64 c.po] 24) = W0 at *
  obtain ⟨_, c0, c1, c2, c3, c4, c5, c6, c7, c8, c9, c10, c11, c12, c13⟩ := id C
  go_wp2_with fail
  refine (cb _).mono ?_
  rintro e w1 ⟨rfl, hb⟩
  have C1 := (C.kept hb).alloc (.cells #[.int .i64 a, .int .i64 b] 44)
  have B1 := balloc (bthen B hb) (.cells #[.int .i64 a, .int .i64 b] 44)
  have K := Go.Proofs.YtkpjkdeomoecjaaDoor.Pr.Two.new w1 (.int .i64 a) (.int .i64 b) 44
  clear hb C B c0 c1 c2 c3 c4 c5 c6 c7 c8 c9 c10 c11 c12 c13
  obtain ⟨_, c0, c1, c2, c3, c4, c5, c6, c7, c8, c9, c10, c11, c12, c13⟩ := id C1
  obtain ⟨_, k0, k1, g0, g1⟩ := id K
  go_wp2_with fail
  refine (cd _).mono ?_
  rintro e w2 ⟨rfl, hb⟩
  have C2 := (C1.kept hb).alloc (.cells #[.int .i64 p, .int .i64 q, .int .i64 r] 33)
  have B2 := balloc (bthen B1 hb) (.cells #[.int .i64 p, .int .i64 q, .int .i64 r] 33)
  replace K := (K.kept hb).alloc (.cells #[.int .i64 p, .int .i64 q, .int .i64 r] 33)
  clear hb C1 B1 c0 c1 c2 c3 c4 c5 c6 c7 c8 c9 c10 c11 c12 c13 k0 k1 g0 g1
  obtain ⟨_, c0, c1, c2, c3, c4, c5, c6, c7, c8, c9, c10, c11, c12, c13⟩ := id C2
  obtain ⟨_, k0, k1, g0, g1⟩ := id K
  go_wp2
  go_ret2
  exact ⟨rfl, B2⟩

set_option maxRecDepth 100000 in
theorem rserved_out (c : CalZ) (n a b p q r : Int) (w : World) (h : n < a ∨ (a ≤ n ∧ b < n)) (cb : ∀ w, Calls Tryd.prog 38 #[.agg #[.string c.nm, .int .i64 c.k, .int .i64 c.d, .int .i64 c.m, .int .i64 c.s, .int .i64 c.sh, .int .i64 c.p0, .int .i64 c.p1, .int .i64 c.p2, .int .i64 c.cy, .int .i64 c.ex, .int .i64 c.fi, .int .i64 c.la, .int .i64 c.po]] w fun e w' => e = .returned (.tuple #[.agg #[.int .i64 a, .int .i64 b], .int .i64 0]) ∧ Below w.heap.size w w') (cd : ∀ w, Calls Tryd.prog 68 #[.int .i64 n] w fun e w' => e = .returned (.tuple #[.agg #[.int .i64 p, .int .i64 q, .int .i64 r], .int .i64 0]) ∧ Below w.heap.size w w') :
    Calls Tryd.prog 40 #[.agg #[.string c.nm, .int .i64 c.k, .int .i64 c.d, .int .i64 c.m, .int .i64 c.s, .int .i64 c.sh, .int .i64 c.p0, .int .i64 c.p1, .int .i64 c.p2, .int .i64 c.cy, .int .i64 c.ex, .int .i64 c.fi, .int .i64 c.la, .int .i64 c.po], .int .i64 n] w fun e w' => e = .returned (.tuple #[.int .i64 0, .int .i64 11]) ∧ Below w.heap.size w w' := by
  have C := CalIn.new w c 24
  have B := balloc (Below.refl _ w) (.cells #[.string c.nm, .int .i64 c.k, .int .i64 c.d, .int .i64 c.m, .int .i64 c.s, .int .i64 c.sh, .int .i64 c.p0, .int .i64 c.p1, .int .i64 c.p2, .int .i64 c.cy, .int .i64 c.ex, .int .i64 c.fi, .int .i64 c.la, .int .i64 c.po] 24)
  rcases h with h0 | ⟨h0, h1⟩
  all_goals
    go_enter Tryd.func40, Tryd.ntmps40
    go_upto_region 1 with fail
    generalize w.alloc (.cells #[.string c.nm, .int .i64 c.k, .int .i64 c.d, .int .i64 c.m, .int .i64 c.s, .int .i64 c.sh, .int .i64 c.p0, .int .i64 c.p1, .int .i64 c.p2, .int .i64 c.cy, .int .i64 c.ex, .int .i64 c.fi, .int .i64 c.la, .int .i64 c.po] 24) = W0 at *
    obtain ⟨_, c0, c1, c2, c3, c4, c5, c6, c7, c8, c9, c10, c11, c12, c13⟩ := id C
    go_wp2_with fail
    refine (cb _).mono ?_
    rintro e w1 ⟨rfl, hb⟩
    have C1 := (C.kept hb).alloc (.cells #[.int .i64 a, .int .i64 b] 44)
    have B1 := balloc (bthen B hb) (.cells #[.int .i64 a, .int .i64 b] 44)
    have K := Go.Proofs.YtkpjkdeomoecjaaDoor.Pr.Two.new w1 (.int .i64 a) (.int .i64 b) 44
    clear hb C B c0 c1 c2 c3 c4 c5 c6 c7 c8 c9 c10 c11 c12 c13
    obtain ⟨_, c0, c1, c2, c3, c4, c5, c6, c7, c8, c9, c10, c11, c12, c13⟩ := id C1
    obtain ⟨_, k0, k1, g0, g1⟩ := id K
    go_wp2_with fail
    refine (cd _).mono ?_
    rintro e w2 ⟨rfl, hb⟩
    have C2 := (C1.kept hb).alloc (.cells #[.int .i64 p, .int .i64 q, .int .i64 r] 33)
    have B2 := balloc (bthen B1 hb) (.cells #[.int .i64 p, .int .i64 q, .int .i64 r] 33)
    replace K := (K.kept hb).alloc (.cells #[.int .i64 p, .int .i64 q, .int .i64 r] 33)
    clear hb C1 B1 c0 c1 c2 c3 c4 c5 c6 c7 c8 c9 c10 c11 c12 c13 k0 k1 g0 g1
    obtain ⟨_, c0, c1, c2, c3, c4, c5, c6, c7, c8, c9, c10, c11, c12, c13⟩ := id C2
    obtain ⟨_, k0, k1, g0, g1⟩ := id K
    go_wp2
    go_ret2
    exact ⟨rfl, B2⟩

set_option maxRecDepth 100000 in
theorem rserved_in (c : CalZ) (n y er a b p q r : Int) (w : World) (h0 : a ≤ n) (h1 : n ≤ b) (cb : ∀ w, Calls Tryd.prog 38 #[.agg #[.string c.nm, .int .i64 c.k, .int .i64 c.d, .int .i64 c.m, .int .i64 c.s, .int .i64 c.sh, .int .i64 c.p0, .int .i64 c.p1, .int .i64 c.p2, .int .i64 c.cy, .int .i64 c.ex, .int .i64 c.fi, .int .i64 c.la, .int .i64 c.po]] w fun e w' => e = .returned (.tuple #[.agg #[.int .i64 a, .int .i64 b], .int .i64 0]) ∧ Below w.heap.size w w') (cd : ∀ w, Calls Tryd.prog 68 #[.int .i64 n] w fun e w' => e = .returned (.tuple #[.agg #[.int .i64 p, .int .i64 q, .int .i64 r], .int .i64 0]) ∧ Below w.heap.size w w') (co : ∀ w, Calls Tryd.prog 34 #[.agg #[.string c.nm, .int .i64 c.k, .int .i64 c.d, .int .i64 c.m, .int .i64 c.s, .int .i64 c.sh, .int .i64 c.p0, .int .i64 c.p1, .int .i64 c.p2, .int .i64 c.cy, .int .i64 c.ex, .int .i64 c.fi, .int .i64 c.la, .int .i64 c.po], .int .i64 n] w fun e w' => e = .returned (.tuple #[.int .i64 y, .int .i64 er]) ∧ Below w.heap.size w w') :
    Calls Tryd.prog 40 #[.agg #[.string c.nm, .int .i64 c.k, .int .i64 c.d, .int .i64 c.m, .int .i64 c.s, .int .i64 c.sh, .int .i64 c.p0, .int .i64 c.p1, .int .i64 c.p2, .int .i64 c.cy, .int .i64 c.ex, .int .i64 c.fi, .int .i64 c.la, .int .i64 c.po], .int .i64 n] w fun e w' => e = .returned (.tuple #[.int .i64 y, .int .i64 er]) ∧ Below w.heap.size w w' := by
  have C := CalIn.new w c 24
  have B := balloc (Below.refl _ w) (.cells #[.string c.nm, .int .i64 c.k, .int .i64 c.d, .int .i64 c.m, .int .i64 c.s, .int .i64 c.sh, .int .i64 c.p0, .int .i64 c.p1, .int .i64 c.p2, .int .i64 c.cy, .int .i64 c.ex, .int .i64 c.fi, .int .i64 c.la, .int .i64 c.po] 24)
  go_enter Tryd.func40, Tryd.ntmps40
  go_upto_region 1 with fail
  generalize w.alloc (.cells #[.string c.nm, .int .i64 c.k, .int .i64 c.d, .int .i64 c.m, .int .i64 c.s, .int .i64 c.sh, .int .i64 c.p0, .int .i64 c.p1, .int .i64 c.p2, .int .i64 c.cy, .int .i64 c.ex, .int .i64 c.fi, .int .i64 c.la, .int .i64 c.po] 24) = W0 at *
  obtain ⟨_, c0, c1, c2, c3, c4, c5, c6, c7, c8, c9, c10, c11, c12, c13⟩ := id C
  go_wp2_with fail
  refine (cb _).mono ?_
  rintro e w1 ⟨rfl, hb⟩
  have C1 := (C.kept hb).alloc (.cells #[.int .i64 a, .int .i64 b] 44)
  have B1 := balloc (bthen B hb) (.cells #[.int .i64 a, .int .i64 b] 44)
  have K := Go.Proofs.YtkpjkdeomoecjaaDoor.Pr.Two.new w1 (.int .i64 a) (.int .i64 b) 44
  clear hb C B c0 c1 c2 c3 c4 c5 c6 c7 c8 c9 c10 c11 c12 c13
  obtain ⟨_, c0, c1, c2, c3, c4, c5, c6, c7, c8, c9, c10, c11, c12, c13⟩ := id C1
  obtain ⟨_, k0, k1, g0, g1⟩ := id K
  go_wp2_with fail
  refine (cd _).mono ?_
  rintro e w2 ⟨rfl, hb⟩
  have C2 := (C1.kept hb).alloc (.cells #[.int .i64 p, .int .i64 q, .int .i64 r] 33)
  have B2 := balloc (bthen B1 hb) (.cells #[.int .i64 p, .int .i64 q, .int .i64 r] 33)
  replace K := (K.kept hb).alloc (.cells #[.int .i64 p, .int .i64 q, .int .i64 r] 33)
  clear hb C1 B1 c0 c1 c2 c3 c4 c5 c6 c7 c8 c9 c10 c11 c12 c13 k0 k1 g0 g1
  obtain ⟨_, c0, c1, c2, c3, c4, c5, c6, c7, c8, c9, c10, c11, c12, c13⟩ := id C2
  obtain ⟨_, k0, k1, g0, g1⟩ := id K
  go_wp2_with fail
  refine (co _).mono ?_
  rintro e w3 ⟨rfl, hb⟩
  go_wp2
  go_ret2
  exact ⟨rfl, bthen B2 hb⟩

theorem rServed_any (c : CalZ) (n v er : Int) (w : World) (R : ServedA c n v er) (K : ChkSays c) (O : OfSays c) :
    Calls Tryd.prog 40 #[.agg #[.string c.nm, .int .i64 c.k, .int .i64 c.d, .int .i64 c.m, .int .i64 c.s, .int .i64 c.sh, .int .i64 c.p0, .int .i64 c.p1, .int .i64 c.p2, .int .i64 c.cy, .int .i64 c.ex, .int .i64 c.fi, .int .i64 c.la, .int .i64 c.po], .int .i64 n] w fun e w' => e = .returned (.tuple #[.int .i64 v, .int .i64 er]) ∧ Below w.heap.size w w' := by
  obtain ⟨y, e0, R, S⟩ := R
  by_cases ok : CalOk c
  · have yo := ok.2.2.1
    have yo0 := yo.1
    have yo1 := yo.2.1
    have yo2 := yo.2.2.1
    have cb := fun w => rBounds_any c _ _ 0 w (.inl ⟨ok, rfl, rfl, rfl⟩) K
    by_cases hn : 0 ≤ n ∧ n ≤ 3068036
    · obtain ⟨p, q, r, e1, D⟩ := ofres_ex n
      have cd0 := fun w => Go.Proofs.YtkpjkdeomoecjaaDoor.Cr.rOf_any n p q r e1 w D
      have e1z : e1 = 0 := by rcases D with ⟨_, _, _, _, h⟩ | ⟨h, _⟩; exact h; exact absurd hn h
      subst e1z
      have le : ∀ a b : Int, 1600 ≤ a → a ≤ b → b ≤ 9997 → yend c a ≤ yend c b := fun a b h1 h2 h3 => by
        by_cases k : a = b
        · rw [k]; omega
        · have := yend_lt ok.1 (a := a) (b := b) (by omega) (by omega) (by omega); omega
      by_cases hs : yend c (c.fi - 1) + 1 ≤ n ∧ n ≤ yend c c.la
      · have hv : v = y ∧ er = e0 ∧ (e0 = 0) := by
          rcases R with ⟨_, _, _, y0, y1, ya, yb, h⟩ | ⟨_, _, _, h, _, _⟩ | ⟨_, h, _⟩ | ⟨h, _⟩
          · have a1 : c.fi ≤ y := by
              by_cases k : c.fi ≤ y
              · exact k
              · have := le y (c.fi - 1) (by omega) (by omega) (by omega); omega
            have a2 : y ≤ c.la := by
              by_cases k : y ≤ c.la
              · exact k
              · have := le c.la (y - 1) (by omega) (by omega) (by omega); omega
            rcases S with ⟨k, _⟩ | ⟨_, _, _, k1, k2⟩ | ⟨_, k, _⟩
            · exact absurd h k
            · exact ⟨k1, by omega, h⟩
            · exact absurd ⟨a1, a2⟩ k
          · have l1 := le 1600 (c.fi - 1) (by omega) (by omega) (by omega)
            have l2 := le c.la 9997 (by omega) (by omega) (by omega)
            omega
          · exact absurd hn h
          · exact absurd ok h
        obtain ⟨rfl, rfl, rfl⟩ := hv
        exact rserved_in c n v 0 _ _ p q r w hs.1 hs.2 cb cd0 (fun w => O n v 0 w R)
      · have hv : v = 0 ∧ er = 11 := by
          rcases S with ⟨k, h1, h2⟩ | ⟨k, f1, f2, _⟩ | ⟨_, _, h1, h2⟩
          · rcases R with ⟨_, _, _, _, _, _, _, h⟩ | ⟨_, _, _, _, _, h⟩ | ⟨_, h, _⟩ | ⟨h, _⟩
            · exact absurd h k
            · exact ⟨h1, by omega⟩
            · exact absurd hn h
            · exact absurd ok h
          · exfalso
            rcases R with ⟨_, _, _, y0, y1, ya, yb, h⟩ | ⟨_, _, _, _, _, h⟩ | ⟨_, h, _⟩ | ⟨h, _⟩
            · have l1 := le (c.fi - 1) (y - 1) (by omega) (by omega) (by omega)
              have l2 := le y c.la (by omega) (by omega) (by omega)
              exact hs ⟨by omega, by omega⟩
            · omega
            · exact h hn
            · exact h ok
          · exact ⟨h1, h2⟩
        obtain ⟨rfl, rfl⟩ := hv
        exact rserved_out c n _ _ p q r w (by omega) cb cd0
    · have hv : v = 0 ∧ er = 4 := by
        rcases R with ⟨_, n0, n1, _⟩ | ⟨_, n0, n1, _⟩ | ⟨_, _, _, h⟩ | ⟨h, _⟩
        · exact absurd ⟨n0, n1⟩ hn
        · exact absurd ⟨n0, n1⟩ hn
        · rcases S with ⟨_, h1, h2⟩ | ⟨k, _⟩ | ⟨k, _⟩
          · exact ⟨h1, by omega⟩
          · omega
          · omega
        · exact absurd ok h
      obtain ⟨rfl, rfl⟩ := hv
      exact rserved_day c n _ _ 0 0 0 w cb (fun w => Go.Proofs.YtkpjkdeomoecjaaDoor.Cr.rOf_any n 0 0 0 4 w (.inr ⟨hn, rfl, rfl, rfl, rfl⟩))
  · have hv : v = 0 ∧ er = 1 := by
      rcases R with ⟨h, _⟩ | ⟨h, _⟩ | ⟨h, _⟩ | ⟨_, _, h⟩
      · exact absurd h ok
      · exact absurd h ok
      · exact absurd h ok
      · rcases S with ⟨_, h1, h2⟩ | ⟨k, _⟩ | ⟨k, _⟩
        · exact ⟨h1, by omega⟩
        · omega
        · omega
    obtain ⟨rfl, rfl⟩ := hv
    exact rserved_bad c n w (fun w => rBounds_any c 0 0 1 w (.inr ⟨ok, rfl, rfl, rfl⟩) K)

end Go.Proofs.YtkpjkdeomoecjaaDoor.Jr

namespace Go.Proofs.YtkpjkdeomoecjaaDoor.Jr
set_option linter.unusedSimpArgs false
set_option linter.unusedVariables false
open Go.RowKit Go.Proofs.YtkpjkdeomoecjaaDoor.Bn Go.Proofs.YtkpjkdeomoecjaaDoor.Am Go.Proofs.YtkpjkdeomoecjaaDoor.Fp Go.Proofs.YtkpjkdeomoecjaaDoor.Cm Go.Proofs.YtkpjkdeomoecjaaDoor.Em Go.Proofs.YtkpjkdeomoecjaaDoor.Ar Go.Proofs.YtkpjkdeomoecjaaDoor.Bx

set_option maxHeartbeats 4000000

set_option maxRecDepth 100000 in
theorem rOf_any (c : CalZ) (n y er : Int) (w : World) (R : OfA c n y er) (K : ChkSays c) :
    Calls Tryd.prog 34 #[.agg #[.string c.nm, .int .i64 c.k, .int .i64 c.d, .int .i64 c.m, .int .i64 c.s, .int .i64 c.sh, .int .i64 c.p0, .int .i64 c.p1, .int .i64 c.p2, .int .i64 c.cy, .int .i64 c.ex, .int .i64 c.fi, .int .i64 c.la, .int .i64 c.po], .int .i64 n] w fun e w' => e = .returned (.tuple #[.int .i64 y, .int .i64 er]) ∧ Below w.heap.size w w' := by
  have C := CalIn.new w c 24
  have B := balloc (Below.refl _ w) (.cells #[.string c.nm, .int .i64 c.k, .int .i64 c.d, .int .i64 c.m, .int .i64 c.s, .int .i64 c.sh, .int .i64 c.p0, .int .i64 c.p1, .int .i64 c.p2, .int .i64 c.cy, .int .i64 c.ex, .int .i64 c.fi, .int .i64 c.la, .int .i64 c.po] 24)
  have O : (∃ h, h = 1 ∧ ChkA c h ∧ y = 0 ∧ er = 1) ∨ (CalOk c ∧ ¬ (0 ≤ n ∧ n ≤ 3068036) ∧ y = 0 ∧ er = 4) ∨ (CalOk c ∧ 0 ≤ n ∧ n ≤ 3068036) := by
    rcases R with ⟨ok, h0, h1, _⟩ | ⟨ok, h0, h1, _⟩ | ⟨ok, h, h2, h3⟩ | ⟨no, h2, h3⟩
    · exact .inr (.inr ⟨ok, h0, h1⟩)
    · exact .inr (.inr ⟨ok, h0, h1⟩)
    · exact .inr (.inl ⟨ok, h, h2, h3⟩)
    · exact .inl ⟨1, rfl, .inr ⟨no, rfl⟩, h2, h3⟩
  rcases O with ⟨h, rfl, ch, rfl, rfl⟩ | ⟨ok, hn, rfl, rfl⟩ | ⟨ok, n0, n1⟩
  · have ck := fun w => K 1 w ch
    clear ch R
    go_enter Tryd.func34, Tryd.ntmps34
    go_upto_region 1 with fail
    generalize w.alloc (.cells #[.string c.nm, .int .i64 c.k, .int .i64 c.d, .int .i64 c.m, .int .i64 c.s, .int .i64 c.sh, .int .i64 c.p0, .int .i64 c.p1, .int .i64 c.p2, .int .i64 c.cy, .int .i64 c.ex, .int .i64 c.fi, .int .i64 c.la, .int .i64 c.po] 24) = W0 at *
    obtain ⟨_, c0, c1, c2, c3, c4, c5, c6, c7, c8, c9, c10, c11, c12, c13⟩ := id C
    go_wp2_with fail
    refine (ck _).mono ?_
    rintro e w1 ⟨rfl, hb⟩
    go_wp2
    go_ret2
    exact ⟨rfl, bthen B hb⟩
  · have ck := fun w => K 0 w (.inl ⟨ok, rfl⟩)
    have co := fun w => Go.Proofs.YtkpjkdeomoecjaaDoor.Cr.rOf_any n 0 0 0 4 w (.inr ⟨hn, rfl, rfl, rfl, rfl⟩)
    clear ok hn R
    go_enter Tryd.func34, Tryd.ntmps34
    go_upto_region 1 with fail
    generalize w.alloc (.cells #[.string c.nm, .int .i64 c.k, .int .i64 c.d, .int .i64 c.m, .int .i64 c.s, .int .i64 c.sh, .int .i64 c.p0, .int .i64 c.p1, .int .i64 c.p2, .int .i64 c.cy, .int .i64 c.ex, .int .i64 c.fi, .int .i64 c.la, .int .i64 c.po] 24) = W0 at *
    obtain ⟨_, c0, c1, c2, c3, c4, c5, c6, c7, c8, c9, c10, c11, c12, c13⟩ := id C
    go_wp2_with fail
    refine (ck _).mono ?_
    rintro e w1 ⟨rfl, hb⟩
    have C1 := C.kept hb
    have B1 := bthen B hb
    clear hb c0 c1 c2 c3 c4 c5 c6 c7 c8 c9 c10 c11 c12 c13 C B
    obtain ⟨_, c0, c1, c2, c3, c4, c5, c6, c7, c8, c9, c10, c11, c12, c13⟩ := id C1
    go_wp2_with fail
    refine (co _).mono ?_
    rintro e w2 ⟨rfl, hb2⟩
    go_wp2
    go_ret2
    exact ⟨rfl, balloc (bthen B1 hb2) _⟩
  · have ck := fun w => K 0 w (.inl ⟨ok, rfl⟩)
    obtain ⟨Y, M, D, od, on⟩ := num_ex n0 n1
    have co := fun w => Go.Proofs.YtkpjkdeomoecjaaDoor.Cr.rOf_any n Y M D 0 w (.inl ⟨n0, n1, od, on, rfl⟩)
    have nb := num_bd od
    rw [on] at nb
    have kb := kind_bd ok.1
    have Y0 := od.1.1
    have Y1 := od.1.2.1
    have NR : Hid (er = 0 → Y - 2 ≤ y ∧ y ≤ Y + 1 ∧ 1601 ≤ y ∧ y ≤ 9997 ∧ yend c (y - 1) < n ∧ n ≤ yend c y) := Lib.hid (fun e => by
      rcases R with ⟨_, _, _, y0, y1, ya, yb, _⟩ | ⟨_, _, _, _, _, h⟩ | ⟨_, _, _, h⟩ | ⟨_, _, h⟩
      · have := year_near ok.1 nb.1 nb.2 y0 y1 ya yb
        exact ⟨by omega, by omega, y0, y1, ya, yb⟩
      · omega
      · omega
      · omega)
    have NO : Hid (∀ k : Int, 1601 ≤ k → k ≤ 9997 → yend c (k - 1) < n → n ≤ yend c k → y = k ∧ er = 0) := Lib.hid (fun k h0 h1 h2 h3 => by
      rcases R with ⟨_, _, _, y0, y1, ya, yb, h⟩ | ⟨_, _, _, h, _, _⟩ | ⟨_, h, _⟩ | ⟨no, _⟩
      · exact ⟨year_uniq ok.1 y0 y1 ya yb h0 h1 h2 h3, h⟩
      · exfalso
        rcases h with h | h
        · by_cases e : k - 1 = 1600
          · rw [e] at h2; omega
          · have := yend_lt ok.1 (a := 1600) (b := k - 1) (by omega) (by omega) (by omega); omega
        · by_cases e : k = 9997
          · rw [e] at h3; omega
          · have := yend_lt ok.1 (a := k) (b := 9997) (by omega) (by omega) (by omega); omega
      · exact absurd ⟨n0, n1⟩ h
      · exact absurd ok no)
    have N1 : Hid (er ≠ 0 → y = 0 ∧ er = 11) := Lib.hid (fun e => by
      rcases R with ⟨_, _, _, _, _, _, _, h⟩ | ⟨_, _, _, _, h1, h2⟩ | ⟨_, h, _⟩ | ⟨no, _⟩
      · exact absurd h e
      · exact ⟨h1, h2⟩
      · exact absurd ⟨n0, n1⟩ h
      · exact absurd ok no)
    have OK := Lib.hid ok
    clear od on nb kb R ok
    go_enter Tryd.func34, Tryd.ntmps34
    go_upto_region 1 with fail
    generalize w.alloc (.cells #[.string c.nm, .int .i64 c.k, .int .i64 c.d, .int .i64 c.m, .int .i64 c.s, .int .i64 c.sh, .int .i64 c.p0, .int .i64 c.p1, .int .i64 c.p2, .int .i64 c.cy, .int .i64 c.ex, .int .i64 c.fi, .int .i64 c.la, .int .i64 c.po] 24) = W0 at *
    obtain ⟨_, c0, c1, c2, c3, c4, c5, c6, c7, c8, c9, c10, c11, c12, c13⟩ := id C
    go_wp2_with fail
    refine (ck _).mono ?_
    rintro e w1 ⟨rfl, hb⟩
    have C1 := C.kept hb
    have B1 := bthen B hb
    clear hb c0 c1 c2 c3 c4 c5 c6 c7 c8 c9 c10 c11 c12 c13 C B
    obtain ⟨_, c0, c1, c2, c3, c4, c5, c6, c7, c8, c9, c10, c11, c12, c13⟩ := id C1
    go_wp2_with fail
    refine (co _).mono ?_
    rintro e w2 ⟨rfl, hb⟩
    replace C1 := (C1.kept hb).alloc (.cells #[.int .i64 Y, .int .i64 M, .int .i64 D] 33)
    have B2 := balloc (bthen B1 hb) (.cells #[.int .i64 Y, .int .i64 M, .int .i64 D] 33)
    have Q := Tri.new w2 (.int .i64 Y) (.int .i64 M) (.int .i64 D) 33
    clear hb B1 co c0 c1 c2 c3 c4 c5 c6 c7 c8 c9 c10 c11 c12 c13
    obtain ⟨_, c0, c1, c2, c3, c4, c5, c6, c7, c8, c9, c10, c11, c12, c13⟩ := id C1
    obtain ⟨_, q0, q1, q2, _, _, _⟩ := id Q
    go_wp2
    all_goals
      go_loopw [9] (fun Mk wr => ∃ k : Int, Y - 2 ≤ k ∧ k ≤ Y + 3 ∧ Hid (er = 0 → k ≤ y) ∧ Mk = .int .i64 k ∧ Below w.heap.size w wr ∧ CalIn wr w.heap.size c ∧ Tri wr w2.heap.size (.int .i64 Y) (.int .i64 M) (.int .i64 D)) (fun Mk _ => (Y + 4 - intOf Mk).toNat)
      case atStart => exact ⟨Y - 2, by omega, by omega, Lib.hid (fun e => (NR.out e).1), by first | rfl | (congr 1; omega), B2, C1, Q⟩
      case round =>
        clear B2 C1 Q c0 c1 c2 c3 c4 c5 c6 c7 c8 c9 c10 c11 c12 c13 q0 q1 q2
        obtain ⟨k, k0, k1, HK, rfl, B3, C3, Q3⟩ := hrel
        obtain ⟨_, c0, c1, c2, c3, c4, c5, c6, c7, c8, c9, c10, c11, c12, c13⟩ := id C3
        obtain ⟨_, q0, q1, q2, _, _, _⟩ := id Q3
        by_cases k9 : k = Y + 3
        · subst k9
          have E : Hid (y = 0 ∧ er = 11) := Lib.hid (N1.out (fun e => by have h1 := NR.out e; have h2 := HK.out e; omega))
          clear HK NR NO N1
          obtain ⟨e1, e2⟩ := E.out
          subst e1 e2
          go_wp2_with fail
          go_ret2
          exact ⟨rfl, B3⟩
        · have k2 : k ≤ Y + 2 := by omega
          clear k9
          obtain ⟨sv, se, HS⟩ := starta_ex c k
          obtain ⟨ev, ee, HE⟩ := enda_ex c k
          have cs := fun w => rStart_any c k sv se w HS K
          have ce := fun w => rEnd_any c k ev ee w HE K
          have O : (se = 0 ∧ sv ≤ n ∧ n ≤ ev ∧ Hid (y = k ∧ er = 0)) ∨ (se = 0 ∧ sv ≤ n ∧ ev < n ∧ Hid (er = 0 → k + 1 ≤ y)) ∨ (se = 0 ∧ n < sv ∧ Hid (er = 0 → k + 1 ≤ y)) ∨ (se = 11 ∧ Hid (er = 0 → k + 1 ≤ y)) := by
            rcases HS with ⟨_, h1, h2, hv, hs⟩ | ⟨_, h, _, hs⟩ | ⟨no, _⟩
            · have hev : ev = yend c k := by
                rcases HE with ⟨_, _, _, h, _⟩ | ⟨_, h, _⟩ | ⟨no, _⟩
                · exact h
                · omega
                · exact absurd OK.out no
              by_cases a : sv ≤ n
              · by_cases b : n ≤ ev
                · exact .inl ⟨hs, a, b, Lib.hid (NO.out k h1 h2 (by omega) (by omega))⟩
                · refine .inr (.inl ⟨hs, a, by omega, Lib.hid (fun e => ?_)⟩)
                  have u := NR.out e
                  have v := HK.out e
                  by_cases q : k = y
                  · subst q; omega
                  · omega
              · refine .inr (.inr (.inl ⟨hs, by omega, Lib.hid (fun e => ?_)⟩))
                have u := NR.out e
                have v := HK.out e
                by_cases q : k = y
                · subst q; omega
                · omega
            · refine .inr (.inr (.inr ⟨hs, Lib.hid (fun e => ?_)⟩))
              have u := NR.out e
              have v := HK.out e
              omega
            · exact absurd OK.out no
          clear HS HE NR NO N1 HK
          rcases O with ⟨rfl, a0, a1, H⟩ | ⟨rfl, a0, a1, H⟩ | ⟨rfl, a0, H⟩ | ⟨rfl, H⟩
          all_goals
            go_wp2_with fail
            refine (cs _).mono ?_
            rintro e w4 ⟨rfl, hb⟩
            have B4 := bthen B3 hb
            have C4 := C3.kept hb
            have Q4 := Q3.kept hb
            clear hb B3 C3 Q3 cs c0 c1 c2 c3 c4 c5 c6 c7 c8 c9 c10 c11 c12 c13 q0 q1 q2
            obtain ⟨_, c0, c1, c2, c3, c4, c5, c6, c7, c8, c9, c10, c11, c12, c13⟩ := id C4
            go_wp2_with fail
            refine (ce _).mono ?_
            rintro e w5 ⟨rfl, hb⟩
            have B5 := bthen B4 hb
            have C5 := C4.kept hb
            have Q5 := Q4.kept hb
            clear hb B4 C4 Q4 ce c0 c1 c2 c3 c4 c5 c6 c7 c8 c9 c10 c11 c12 c13
          · obtain ⟨e1, e2⟩ := H.out
            subst e1 e2
            go_wp2_with fail
            go_ret2
            exact ⟨rfl, B5⟩
          all_goals
            go_wp2_with fail
            go_roundw
            case rel => exact ⟨k + 1, by omega, by omega, H, by go_num, B5, C5, Q5⟩
            case measure => simp [intOf]; omega

end Go.Proofs.YtkpjkdeomoecjaaDoor.Jr

namespace Go.Proofs.YtkpjkdeomoecjaaDoor.Fr
set_option linter.unusedSimpArgs false
set_option linter.unusedVariables false
open Go.RowKit Go.Proofs.YtkpjkdeomoecjaaDoor.Bn Go.Proofs.YtkpjkdeomoecjaaDoor.Am Go.Proofs.YtkpjkdeomoecjaaDoor.Fp
open Go.Proofs.YtkpjkdeomoecjaaDoor.Zm (name)
open Go.Proofs.YtkpjkdeomoecjaaDoor.Zr (by_)

set_option maxHeartbeats 4000000

theorem rCheck_any (c : CalZ) (er : Int) (w : World) (R : ChkA c er) (hm : c.nm.size ≤ maxLen) :
    Calls Tryd.prog 43 #[.agg #[.string c.nm, .int .i64 c.k, .int .i64 c.d, .int .i64 c.m, .int .i64 c.s, .int .i64 c.sh, .int .i64 c.p0, .int .i64 c.p1, .int .i64 c.p2, .int .i64 c.cy, .int .i64 c.ex, .int .i64 c.fi, .int .i64 c.la, .int .i64 c.po]] w fun e w' => e = .returned (.int .i64 er) ∧ Below w.heap.size w w' := by
  have cN := fun w => Go.Proofs.YtkpjkdeomoecjaaDoor.Zr.rName c.nm w hm
  have no : ¬ CalOk c → er = 1 := fun h => by rcases R with ⟨ok, _⟩ | ⟨_, h2⟩; exact absurd ok h; exact h2
  have yes : CalOk c → er = 0 := fun h => by rcases R with ⟨_, h2⟩ | ⟨h1, _⟩; exact h2; exact absurd h h1
  cases hn : name (by_ c.nm) with
  | false =>
    rw [hn] at cN
    obtain rfl := no (fun h => by have := h.2.1; rw [show c.nm.data.toList = by_ c.nm from rfl, hn] at this; cases this)
    exact rbad_name c w cN
  | true =>
  rw [hn] at cN
  by_cases h1 : 1602 ≤ c.fi
  case neg => obtain rfl := no (fun h => h1 h.2.2.1.1); exact rbad_y1 c w (by omega) cN
  by_cases h2 : c.la ≤ 9996
  case neg => obtain rfl := no (fun h => h2 h.2.2.1.2.1); exact rbad_y2 c w h1 (by omega) cN
  by_cases h3 : c.fi ≤ c.la
  case neg => obtain rfl := no (fun h => h3 h.2.2.1.2.2.1); exact rbad_y3 c w h1 h2 (by omega) cN
  by_cases h4 : c.la - c.fi < 400
  case neg => obtain rfl := no (fun h => h4 h.2.2.1.2.2.2); exact rbad_y4 c w h1 h2 h3 (decide_eq_true (by omega)) cN
  have h4d : decide (400 ≤ c.la - c.fi) = false := decide_eq_false (by omega)
  by_cases g1 : 1 ≤ c.po
  case neg => obtain rfl := no (fun h => g1 h.2.2.2.1); exact rbad_p1 c w h1 h2 h3 h4d (by omega) cN
  by_cases g2 : c.po ≤ 4
  case neg => obtain rfl := no (fun h => g2 h.2.2.2.2.1); exact rbad_p2 c w h1 h2 h3 h4d g1 (by omega) cN
  by_cases g3 : c.po = 4
  case pos =>
    have g3d : (c.po == 4) = true := by rw [g3]; rfl
    by_cases k6 : c.k = 6
    case neg => obtain rfl := no (fun h => k6 (h.2.2.2.2.2.1 g3)); exact rbad_p3 c w h1 h2 h3 h4d g1 g2 g3d (beq_eq_false_iff_ne.2 k6) cN
    have fin : ∀ b : Bool, (KindOk c ↔ b = true) → er = if b = true then 0 else 1 := fun b h => by
      by_cases k : KindOk c
      · rw [if_pos (h.1 k)]; exact yes ⟨k, hn, ⟨h1, h2, h3, h4⟩, g1, g2, ⟨fun _ => k6, fun _ => g3⟩⟩
      · rw [if_neg (fun x => k (h.2 x))]; exact no (fun x => k x.1)
    refine rkind_k6 c er w (beq_eq_false_iff_ne.2 (by omega)) (beq_eq_false_iff_ne.2 (by omega)) (beq_eq_false_iff_ne.2 (by omega)) (beq_eq_false_iff_ne.2 (by omega)) (beq_eq_false_iff_ne.2 (by omega)) (by rw [k6]; rfl) h1 h2 h3 h4d g1 g2 g3d (fin _ ?_) cN
    simp [KindOk, CalSame, k6]; omega
  have g3d : (c.po == 4) = false := beq_eq_false_iff_ne.2 g3
  by_cases k6 : c.k = 6
  case pos => obtain rfl := no (fun h => g3 (h.2.2.2.2.2.2 k6)); exact rbad_p4 c w h1 h2 h3 h4d g1 g2 g3d (by rw [k6]; rfl) cN
  have k6d : (c.k == 6) = false := beq_eq_false_iff_ne.2 k6
  have fin : ∀ b : Bool, (KindOk c ↔ b = true) → er = if b = true then 0 else 1 := fun b h => by
    by_cases k : KindOk c
    · rw [if_pos (h.1 k)]; exact yes ⟨k, hn, ⟨h1, h2, h3, h4⟩, g1, g2, ⟨fun x => absurd x g3, fun x => absurd x k6⟩⟩
    · rw [if_neg (fun x => k (h.2 x))]; exact no (fun x => k x.1)
  by_cases k1 : c.k = 1
  · refine rkind_k1 c (decide (ShapeR c)) (manyR c) er w (by rw [k1]; rfl) h1 h2 h3 h4d g1 g2 g3d k6d (fun w => shaped_any c _ w rfl) (fun w => many_any c _ w rfl) (fin _ ?_) cN
    by_cases hS : ShapeR c <;> simp [KindOk, k1, cut_shape, hS] <;> omega
  have k1d : (c.k == 1) = false := beq_eq_false_iff_ne.2 k1
  by_cases k2 : c.k = 2
  · refine rkind_k2 c (decide (ShapeR c)) (manyR c) er w k1d (by rw [k2]; rfl) h1 h2 h3 h4d g1 g2 g3d k6d (fun w => shaped_any c _ w rfl) (fun w => many_any c _ w rfl) (fin _ ?_) cN
    by_cases hS : ShapeR c <;> simp [KindOk, k2, cut_shape, hS] <;> omega
  have k2d : (c.k == 2) = false := beq_eq_false_iff_ne.2 k2
  by_cases k5 : c.k = 5
  · refine rkind_k5 c (decide (ShapeR c)) (manyR c) er w k1d k2d (by rw [k5]; rfl) h1 h2 h3 h4d g1 g2 g3d k6d (fun w => shaped_any c _ w rfl) (fun w => many_any c _ w rfl) (fin _ ?_) cN
    by_cases hS : ShapeR c <;> simp [KindOk, k5, cut_shape, hS]
  have k5d : (c.k == 5) = false := beq_eq_false_iff_ne.2 k5
  by_cases k3 : c.k = 3
  · refine rkind_k3 c er w k1d k2d k5d (by rw [k3]; rfl) h1 h2 h3 h4d g1 g2 g3d k6d (fin _ ?_) cN
    simp [KindOk, CalSame, k3]
  have k3d : (c.k == 3) = false := beq_eq_false_iff_ne.2 k3
  by_cases k4 : c.k = 4
  · refine rkind_k4 c er w k1d k2d k5d k3d (by rw [k4]; rfl) h1 h2 h3 h4d g1 g2 g3d k6d (fin _ ?_) cN
    simp [KindOk, CalSame, k4]
  have k4d : (c.k == 4) = false := beq_eq_false_iff_ne.2 k4
  have e1 : er = 1 := no (fun h => by have := kind_bd h.1; omega)
  exact rkind_no c er w k1d k2d k5d k3d k4d k6d h1 h2 h3 h4d g1 g2 g3d e1 cN

end Go.Proofs.YtkpjkdeomoecjaaDoor.Fr

namespace Go.Proofs.YtkpjkdeomoecjaaDoor.Jl
set_option linter.unusedSimpArgs false
set_option linter.unusedVariables false
open Go.RowKit Go.Proofs.YtkpjkdeomoecjaaDoor.Bn Go.Proofs.YtkpjkdeomoecjaaDoor.Am Go.Proofs.YtkpjkdeomoecjaaDoor.Fp Go.Proofs.YtkpjkdeomoecjaaDoor.Ap Go.Proofs.YtkpjkdeomoecjaaDoor.Bx Go.Proofs.YtkpjkdeomoecjaaDoor.Pr Go.Proofs.YtkpjkdeomoecjaaDoor.Jp Go.Proofs.YtkpjkdeomoecjaaDoor.Ar Go.Proofs.YtkpjkdeomoecjaaDoor.Jr

set_option maxHeartbeats 4000000

theorem span_same (a b : Int) (w : World) :
    (binOp .eql 44 (.agg #[.int .i64 a, .int .i64 b]) (.agg #[.int .i64 a, .int .i64 b])).run Tryd.prog w = .ok (.bool true) w := by
  have hS : Tryd.prog.underlying 44 = some (.struct (Tryd.prog.fieldsOf 44)) := by kernel_rfl
  have hp : Tryd.prog.stoodInHeld 44 = false := by kernel_rfl
  have u3 := Tryd.underlying3
  rw [run_eql_struct, show (10000 : Nat) = 9999 + 1 from rfl, run_equalIn_agg w 9999 44 _ _ hS hp]
  simp only [Program.fieldsOf, Tryd.underlying44]
  go_simp

set_option maxRecDepth 100000 in
theorem ydoes_core (c : CalZ) (n : Int) (w : World) (wf : CalWf c) (K : ChkSays c) (tb : FTab w) :
    Calls Tryd.prog 9 #[.agg #[.string c.nm, .int .i64 c.k, .int .i64 c.d, .int .i64 c.m, .int .i64 c.s, .int .i64 c.sh, .int .i64 c.p0, .int .i64 c.p1, .int .i64 c.p2, .int .i64 c.cy, .int .i64 c.ex, .int .i64 c.fi, .int .i64 c.la, .int .i64 c.po], .int .i64 n] w fun e w' => e = .returned (.bool true) ∧ Below w.heap.size w w' := by
  have hm := wf.1
  by_cases hl : 100 < c.nm.size
  · have dl : decide ((100 : Int) < (c.nm.size : Int)) = true := decide_eq_true (by omega)
    clear hl
    go_enter Tryd.func9, Tryd.ntmps9
    go_wp2_with fail
    refine (jlive_ok _ ((tb).alloc (.cells #[.string c.nm, .int .i64 c.k, .int .i64 c.d, .int .i64 c.m, .int .i64 c.s, .int .i64 c.sh, .int .i64 c.p0, .int .i64 c.p1, .int .i64 c.p2, .int .i64 c.cy, .int .i64 c.ex, .int .i64 c.fi, .int .i64 c.la, .int .i64 c.po] 24))).mono ?_
    rintro e w1 ⟨rfl, hb⟩
    have C := (CalIn.new w c 24).kept hb
    have T1 := ((tb).alloc (.cells #[.string c.nm, .int .i64 c.k, .int .i64 c.d, .int .i64 c.m, .int .i64 c.s, .int .i64 c.sh, .int .i64 c.p0, .int .i64 c.p1, .int .i64 c.p2, .int .i64 c.cy, .int .i64 c.ex, .int .i64 c.fi, .int .i64 c.la, .int .i64 c.po] 24)).kept hb
    have B1 := bthen (balloc (Below.refl _ w) (.cells #[.string c.nm, .int .i64 c.k, .int .i64 c.d, .int .i64 c.m, .int .i64 c.s, .int .i64 c.sh, .int .i64 c.p0, .int .i64 c.p1, .int .i64 c.p2, .int .i64 c.cy, .int .i64 c.ex, .int .i64 c.fi, .int .i64 c.la, .int .i64 c.po] 24)) hb
    try simp only [World.size_alloc] at C
    clear hb
    obtain ⟨z0, C_0, C_1, C_2, C_3, C_4, C_5, C_6, C_7, C_8, C_9, C_10, C_11, C_12, C_13⟩ := id C
    go_wp2
    go_ret
    exact ⟨by simp, B1⟩
  · have dl : decide ((100 : Int) < (c.nm.size : Int)) = false := decide_eq_false (by omega)
    clear hl
    have O : OfSays c := fun n y er w R => rOf_any c n y er w R K
    obtain ⟨v1, e1, R1⟩ := ofa_ex c n
    obtain ⟨v2, e2, R2⟩ := ntha_ex c n
    obtain ⟨a, b, e3, R3⟩ := boundsa_ex c
    obtain ⟨v4, e4, R4⟩ := serveda_ex c n
    have cO := fun w T => Of_any c n v1 e1 w R1 hm T
    have rO := fun w => rOf_any c n v1 e1 w R1 K
    have cN := fun w T => Nth_any c n v2 e2 w R2 hm T
    have rN := fun w => rNth_any c n v2 e2 w R2 K O
    have cB := fun w T => Bounds_any c a b e3 w R3 hm T
    have rB := fun w => rBounds_any c a b e3 w R3 K
    have cS := fun w T => Served_any c n v4 e4 w R4 hm T
    have rS := fun w => rServed_any c n v4 e4 w R4 K O
    have q := fun w => span_same a b w
    clear R1 R2 R3 R4 K O wf hm
    go_enter Tryd.func9, Tryd.ntmps9
    go_wp2_with fail
    refine (jlive_ok _ ((tb).alloc (.cells #[.string c.nm, .int .i64 c.k, .int .i64 c.d, .int .i64 c.m, .int .i64 c.s, .int .i64 c.sh, .int .i64 c.p0, .int .i64 c.p1, .int .i64 c.p2, .int .i64 c.cy, .int .i64 c.ex, .int .i64 c.fi, .int .i64 c.la, .int .i64 c.po] 24))).mono ?_
    rintro e w1 ⟨rfl, hb⟩
    have C := (CalIn.new w c 24).kept hb
    have T1 := ((tb).alloc (.cells #[.string c.nm, .int .i64 c.k, .int .i64 c.d, .int .i64 c.m, .int .i64 c.s, .int .i64 c.sh, .int .i64 c.p0, .int .i64 c.p1, .int .i64 c.p2, .int .i64 c.cy, .int .i64 c.ex, .int .i64 c.fi, .int .i64 c.la, .int .i64 c.po] 24)).kept hb
    have B1 := bthen (balloc (Below.refl _ w) (.cells #[.string c.nm, .int .i64 c.k, .int .i64 c.d, .int .i64 c.m, .int .i64 c.s, .int .i64 c.sh, .int .i64 c.p0, .int .i64 c.p1, .int .i64 c.p2, .int .i64 c.cy, .int .i64 c.ex, .int .i64 c.fi, .int .i64 c.la, .int .i64 c.po] 24)) hb
    try simp only [World.size_alloc] at C
    clear hb
    obtain ⟨z0, C_0, C_1, C_2, C_3, C_4, C_5, C_6, C_7, C_8, C_9, C_10, C_11, C_12, C_13⟩ := id C
    go_wp2_with fail
    refine (cO _ (T1)).mono ?_
    rintro e w2 ⟨rfl, hb⟩
    replace C := (C).kept hb
    have T2 := (T1).kept hb
    replace B1 := bthen B1 hb
    clear hb z0 C_0 C_1 C_2 C_3 C_4 C_5 C_6 C_7 C_8 C_9 C_10 C_11 C_12 C_13 T1
    obtain ⟨z0, C_0, C_1, C_2, C_3, C_4, C_5, C_6, C_7, C_8, C_9, C_10, C_11, C_12, C_13⟩ := id C
    go_wp2_with fail
    refine (rO _).mono ?_
    rintro e w3 ⟨rfl, hb⟩
    replace C := (C).kept hb
    have T3 := (T2).kept hb
    replace B1 := bthen B1 hb
    clear hb z0 C_0 C_1 C_2 C_3 C_4 C_5 C_6 C_7 C_8 C_9 C_10 C_11 C_12 C_13 T2
    obtain ⟨z0, C_0, C_1, C_2, C_3, C_4, C_5, C_6, C_7, C_8, C_9, C_10, C_11, C_12, C_13⟩ := id C
    go_wp2_with fail
    refine (cN _ (T3)).mono ?_
    rintro e w4 ⟨rfl, hb⟩
    replace C := (C).kept hb
    have T4 := (T3).kept hb
    replace B1 := bthen B1 hb
    clear hb z0 C_0 C_1 C_2 C_3 C_4 C_5 C_6 C_7 C_8 C_9 C_10 C_11 C_12 C_13 T3
    obtain ⟨z0, C_0, C_1, C_2, C_3, C_4, C_5, C_6, C_7, C_8, C_9, C_10, C_11, C_12, C_13⟩ := id C
    go_wp2_with fail
    refine (rN _).mono ?_
    rintro e w5 ⟨rfl, hb⟩
    replace C := (C).kept hb
    have T5 := (T4).kept hb
    replace B1 := bthen B1 hb
    clear hb z0 C_0 C_1 C_2 C_3 C_4 C_5 C_6 C_7 C_8 C_9 C_10 C_11 C_12 C_13 T4
    obtain ⟨z0, C_0, C_1, C_2, C_3, C_4, C_5, C_6, C_7, C_8, C_9, C_10, C_11, C_12, C_13⟩ := id C
    go_wp2_with fail
    refine (cB _ (T5)).mono ?_
    rintro e w6 ⟨rfl, hb⟩
    replace C := (C).kept hb
    have T6 := (T5).kept hb
    replace B1 := bthen B1 hb
    clear hb z0 C_0 C_1 C_2 C_3 C_4 C_5 C_6 C_7 C_8 C_9 C_10 C_11 C_12 C_13 T5
    obtain ⟨z0, C_0, C_1, C_2, C_3, C_4, C_5, C_6, C_7, C_8, C_9, C_10, C_11, C_12, C_13⟩ := id C
    go_wp2_with fail
    refine (rB _).mono ?_
    rintro e w7 ⟨rfl, hb⟩
    replace C := ((C).alloc (.cells #[.int .i64 a, .int .i64 b] 44)).kept hb
    have S := (Two.new w6 (.int .i64 a) (.int .i64 b) 44).kept hb
    have T7 := ((T6).alloc (.cells #[.int .i64 a, .int .i64 b] 44)).kept hb
    replace B1 := bthen (balloc B1 (.cells #[.int .i64 a, .int .i64 b] 44)) hb
    try simp only [World.size_alloc] at C S
    clear hb z0 C_0 C_1 C_2 C_3 C_4 C_5 C_6 C_7 C_8 C_9 C_10 C_11 C_12 C_13 T6
    obtain ⟨z0, C_0, C_1, C_2, C_3, C_4, C_5, C_6, C_7, C_8, C_9, C_10, C_11, C_12, C_13⟩ := id C
    obtain ⟨z1, S_0, S_1, _, _⟩ := id S
    go_wp2_with fail
    refine (cS _ ((T7).alloc (.cells #[.int .i64 a, .int .i64 b] 44))).mono ?_
    rintro e w8 ⟨rfl, hb⟩
    replace C := ((C).alloc (.cells #[.int .i64 a, .int .i64 b] 44)).kept hb
    replace S := ((S).alloc (.cells #[.int .i64 a, .int .i64 b] 44)).kept hb
    have U := (Two.new w7 (.int .i64 a) (.int .i64 b) 44).kept hb
    have T8 := ((T7).alloc (.cells #[.int .i64 a, .int .i64 b] 44)).kept hb
    replace B1 := bthen (balloc B1 (.cells #[.int .i64 a, .int .i64 b] 44)) hb
    try simp only [World.size_alloc] at C S U
    clear hb z0 C_0 C_1 C_2 C_3 C_4 C_5 C_6 C_7 C_8 C_9 C_10 C_11 C_12 C_13 z1 S_0 S_1 T7
    obtain ⟨z0, C_0, C_1, C_2, C_3, C_4, C_5, C_6, C_7, C_8, C_9, C_10, C_11, C_12, C_13⟩ := id C
    obtain ⟨z1, S_0, S_1, _, _⟩ := id S
    obtain ⟨z2, U_0, U_1, _, _⟩ := id U
    go_wp2_with fail
    refine (rS _).mono ?_
    rintro e w9 ⟨rfl, hb⟩
    replace C := (C).kept hb
    replace S := (S).kept hb
    replace U := (U).kept hb
    have T9 := (T8).kept hb
    replace B1 := bthen B1 hb
    clear hb z0 C_0 C_1 C_2 C_3 C_4 C_5 C_6 C_7 C_8 C_9 C_10 C_11 C_12 C_13 z1 S_0 S_1 z2 U_0 U_1 T8
    obtain ⟨z0, C_0, C_1, C_2, C_3, C_4, C_5, C_6, C_7, C_8, C_9, C_10, C_11, C_12, C_13⟩ := id C
    obtain ⟨z1, S_0, S_1, _, _⟩ := id S
    obtain ⟨z2, U_0, U_1, _, _⟩ := id U
    go_wp2
    go_ret
    exact ⟨by simp, B1⟩

theorem ydoes_walk (c : CalZ) (n : Int) (w : World) (wf : CalWf c) (wy : (Lit.int .i64 n).wf = true) (tb : FTab w) :
    Calls Tryd.prog 9 #[.agg #[.string c.nm, .int .i64 c.k, .int .i64 c.d, .int .i64 c.m, .int .i64 c.s, .int .i64 c.sh, .int .i64 c.p0, .int .i64 c.p1, .int .i64 c.p2, .int .i64 c.cy, .int .i64 c.ex, .int .i64 c.fi, .int .i64 c.la, .int .i64 c.po], .int .i64 n] w fun e w' => e = .returned (.bool true) ∧ Below w.heap.size w w' :=
  ydoes_core c n w wf (fun h w R => Go.Proofs.YtkpjkdeomoecjaaDoor.Fr.rCheck_any c h w R wf.1) tb

end Go.Proofs.YtkpjkdeomoecjaaDoor.Jl
