/- What the functions of the reference of layer 6 come to. -/
import Derived.Test.YtodpmdmfdnbehaaDoorCref2
import Derived.Test.YtodpmdmfdnbehaaDoorElaw
namespace Go.Proofs.YtodpmdmfdnbehaaDoor.Er
set_option linter.unusedSimpArgs false
set_option linter.unusedVariables false
open Go.RowKit Go.Proofs.YtodpmdmfdnbehaaDoor.Bx Go.Proofs.YtodpmdmfdnbehaaDoor.Cm Go.Proofs.YtodpmdmfdnbehaaDoor.Cr Go.Proofs.YtodpmdmfdnbehaaDoor.Em

set_option maxHeartbeats 1000000

theorem rIso_any (n y k d er : Int) (w : World) (R : IsoRes n y k d er) :
    Calls Tryd.prog 17 #[.int .i64 n] w fun e w' => e = .returned (.tuple #[.agg #[.int .i64 y, .int .i64 k, .int .i64 d], .int .i64 er]) ∧ Below w.heap.size w w' := by
  rcases R with ⟨h0, h1, ok, hn, rfl⟩ | ⟨h, rfl, rfl, rfl, rfl⟩
  · obtain ⟨ya, hk, fl, hd⟩ := iso_year ok hn
    have fb := fm_bd ok.1 ok.2.1
    have d0 := ok.2.2.2.2.1
    have d1 := ok.2.2.2.2.2.1
    have m2 := (inum_monday ok).2.2
    rw [hn] at m2
    have cw := fun w => rWeekday_any n d 0 w (.inl ⟨h0, h1, hd, rfl⟩)
    rcases ya with ⟨t0, rfl⟩ | ⟨t0, t1, m', d', ok', e'⟩
    · rw [fm_0] at hk
      obtain rfl : k = 52 := by omega
      have t0' : n + 4 - d < 0 := by omega
      clear hk fl hd ok hn fb m2 t0
      go_enter Tryd.func17, Tryd.ntmps17
      go_wp2_with fail
      refine (cw _).mono ?_
      rintro e w1 ⟨rfl, hb⟩
      have P := (Tri.new w (.int .i64 0) (.int .i64 0) (.int .i64 0) 23).kept hb
      have B1 := bthen (balloc (Below.refl _ w) _) hb
      clear hb
      obtain ⟨z, c0, c1, c2, g0, g1, g2⟩ := id P
      go_wp2
      refine bodyPost_ret (v := .tuple #[.agg #[.int .i64 1599, .int .i64 52, .int .i64 d], .int .i64 0]) (by simp [results, Tryd.results17, go_sem, c0, c1, c2]) rfl ⟨rfl, ?_⟩
      exact bset (bset (bset B1 (Nat.le_refl _) _ _) (Nat.le_refl _) _ _) (Nat.le_refl _) _ _
    · have y0 : 1600 ≤ y := ok'.1.1
      obtain ⟨t, ht⟩ : ∃ t, n + 4 - d = t := ⟨_, rfl⟩
      have t2 : n - (d - 1) + 3 = t := by omega
      rw [t2] at e' t0 t1
      have co := fun w => rOf_any t y m' d' 0 w (.inl ⟨t0, t1, ok', e', rfl⟩)
      obtain ⟨f, hf⟩ : ∃ f, f = dby y := ⟨_, rfl⟩
      have yf := year_first y0 ok'.1.2.1
      have cd := fun w => rDay_any y 1 1 f 0 w (.inl ⟨yf.1, by rw [yf.2]; exact hf, rfl⟩)
      have ftl := (num_bd ok').1
      rw [e', ← hf] at ftl
      have f0 := (dby_bd (t := y) y0 (by have := ok'.1.2.1; omega)).1
      rw [← hf] at f0
      have hk' : (t - f) / 7 + 1 = k := by rw [hk, hf]; unfold fm; unfold fm at fl; omega
      clear hk fl hd ok hn fb m2 t2 ok' e' hf yf
      go_enter Tryd.func17, Tryd.ntmps17
      go_wp2_with fail
      refine (cw _).mono ?_
      rintro e w1 ⟨rfl, hb⟩
      have P := (Tri.new w (.int .i64 0) (.int .i64 0) (.int .i64 0) 23).kept hb
      have B1 := bthen (balloc (Below.refl _ w) _) hb
      clear hb
      have HK := Lib.hid hk'
      clear hk'
      go_wp2_with fail
      refine (co _).mono ?_
      rintro e w2 ⟨rfl, hb⟩
      replace P := P.kept hb
      replace B1 := bthen B1 hb
      clear hb ht
      go_wp2_with fail
      refine (cd _).mono ?_
      rintro e w3 ⟨rfl, hb⟩
      replace P := (P.alloc (.cells #[.int .i64 y, .int .i64 m', .int .i64 d'] 38)).kept hb
      have Q := (Tri.new w2 (.int .i64 y) (.int .i64 m') (.int .i64 d') 38).kept hb
      replace B1 := bthen (balloc B1 _) hb
      clear hb
      obtain ⟨z, c0, c1, c2, g0, g1, g2⟩ := id P
      obtain ⟨z2, q0, q1, q2, _, _, _⟩ := id Q
      obtain rfl := HK.out
      go_wp2
      refine bodyPost_ret (v := .tuple #[.agg #[.int .i64 y, .int .i64 ((t - f) / 7 + 1), .int .i64 d], .int .i64 0]) (by simp [results, Tryd.results17, go_sem, c0, c1, c2]) rfl ⟨rfl, ?_⟩
      exact bset (bset (bset B1 (Nat.le_refl _) _ _) (Nat.le_refl _) _ _) (Nat.le_refl _) _ _
  · have cw := fun w => rWeekday_any n 0 4 w (.inr ⟨h, rfl, rfl⟩)
    clear h
    go_enter Tryd.func17, Tryd.ntmps17
    go_wp2_with fail
    refine (cw _).mono ?_
    rintro e w1 ⟨rfl, hb⟩
    have P := (Tri.new w (.int .i64 0) (.int .i64 0) (.int .i64 0) 23).kept hb
    have B1 := bthen (balloc (Below.refl _ w) _) hb
    clear hb
    obtain ⟨z, c0, c1, c2, g0, g1, g2⟩ := id P
    go_wp2
    refine bodyPost_ret (v := .tuple #[.agg #[.int .i64 0, .int .i64 0, .int .i64 0], .int .i64 4]) (by simp [results, Tryd.results17, go_sem, c0, c1, c2]) rfl ⟨rfl, ?_⟩
    exact bset (bset (bset B1 (Nat.le_refl _) _ _) (Nat.le_refl _) _ _) (Nat.le_refl _) _ _

/-- Iso at a day that nothing is known of but that it is not the one of (y, k, d) -/
def RIsoed (n y k d : Int) (w : World) (e : Ending) (w' : World) : Prop :=
  ∃ a b c er : Int, (er = 4 ∨ (er = 0 ∧ ((a == y) = false ∨ (a = y ∧ (b == k) = false) ∨ (a = y ∧ b = k ∧ (c == d) = false)))) ∧ e = .returned (.tuple #[.agg #[.int .i64 a, .int .i64 b, .int .i64 c], .int .i64 er]) ∧ Below w.heap.size w w'
theorem rIso_not (n y k d : Int) (w : World) (h : ¬ (IsoOk y k d ∧ inum y k d = n)) : Calls Tryd.prog 17 #[.int .i64 n] w (RIsoed n y k d w) := by
  obtain ⟨a, b, c, er, R⟩ := isores_ex n
  refine (rIso_any n a b c er w R).mono fun e w' ⟨h1, h2⟩ => ⟨a, b, c, er, ?_, h1, h2⟩
  rcases R with ⟨_, _, ok, hn, rfl⟩ | ⟨_, _, _, _, rfl⟩
  · refine .inr ⟨rfl, ?_⟩
    by_cases p : a = y
    · by_cases q : b = k
      · by_cases r : c = d
        · subst p q r; exact absurd ⟨ok, hn⟩ h
        · exact .inr (.inr ⟨p, q, beq_eq_false_iff_ne.2 r⟩)
      · exact .inr (.inl ⟨p, beq_eq_false_iff_ne.2 q⟩)
    · exact .inl (beq_eq_false_iff_ne.2 p)
  · exact .inl rfl

set_option maxRecDepth 100000 in
theorem rIDay_any (y k d v er : Int) (w : World) (R : IDayRes y k d v er) :
    Calls Tryd.prog 19 #[.agg #[.int .i64 y, .int .i64 k, .int .i64 d]] w fun e w' => e = .returned (.tuple #[.int .i64 v, .int .i64 er]) ∧ Below w.heap.size w w' := by
  by_cases g : 1599 ≤ y ∧ y ≤ 9999 ∧ 1 ≤ k ∧ k ≤ 53 ∧ 1 ≤ d ∧ d ≤ 7
  · obtain ⟨y0, y1, k0, k1, d0, d1⟩ := g
    obtain ⟨f, hf⟩ : ∃ f, f = dby y := ⟨_, rfl⟩
    have near := fm_near y
    rw [← hf] at near
    have S : (y = 1599 ∧ f = -365 ∧ ∃ p q : Int, p = 0 ∧ q = 4 ∧ DayRes y 1 1 p q) ∨ (1600 ≤ y ∧ 0 ≤ f ∧ f ≤ 3068036 ∧ ∃ p q : Int, p = f ∧ q = 0 ∧ DayRes y 1 1 p q) := by
      by_cases c : y = 1599
      · exact .inl ⟨c, by rw [hf, c, dby_0], 0, 4, rfl, rfl, .inr ⟨fun h => by have := h.1.1; omega, rfl, rfl⟩⟩
      · have yf := year_first (y := y) (by omega) y1
        have b := dby_step (a := y) (b := 10000) (by omega)
        have b0 := dby_bd (t := y) (by omega) (by omega)
        have l := lp_01 y
        rw [dby_last] at b
        exact .inr ⟨by omega, by rw [hf]; exact b0.1, by rw [hf]; omega, f, 0, rfl, rfl, .inl ⟨yf.1, by rw [yf.2]; exact hf, rfl⟩⟩
    clear hf
    rcases R with ⟨ok, hv, rfl⟩ | ⟨no, rfl, rfl⟩
    · have v0 : f + 7 * k - 11 ≤ v := by rw [hv]; unfold inum; omega
      have v1 : v ≤ f + 7 * k + 4 := by rw [hv]; unfold inum; omega
      have v2 : 0 ≤ v ∧ v ≤ 3068036 := by rw [hv]; exact ok.2.2.2.2.2.2
      have ci := fun w => rIso_any v y k d 0 w (.inl ⟨v2.1, v2.2, ok, hv.symm, rfl⟩)
      have cn : Hid (∀ j w, j ≠ v → Calls Tryd.prog 17 #[.int .i64 j] w (RIsoed j y k d w)) := Lib.hid (fun j w h => rIso_not j y k d w (fun e => h (e.2.symm.trans hv.symm)))
      clear ok hv v2 near
      rcases S with ⟨rfl, rfl, p, q, rfl, rfl, r⟩ | ⟨y2, f0, f1, p, q, hp, rfl, r⟩
      all_goals try subst hp
      all_goals
        have cd := fun w => rDay_any _ 1 1 _ _ w r
        clear r
        go_enter Tryd.func19, Tryd.ntmps19
        go_wp2_with fail
        refine (cd _).mono ?_
        rintro e w1 ⟨rfl, hb⟩
        have P := (Tri.new w (.int .i64 _) (.int .i64 k) (.int .i64 d) 23).kept hb
        have B1 := bthen (balloc (Below.refl _ w) _) hb
        clear hb cd
        obtain ⟨z, c0, c1, c2, g0, g1, g2⟩ := id P
        go_wp2
        go_loopw [6] (fun D wr => ∃ j : Int, -400 ≤ j ∧ j ≤ v ∧ D = .int .i64 j ∧ Below w.heap.size w wr ∧ Tri wr w.heap.size (.int .i64 _) (.int .i64 k) (.int .i64 d)) (fun D _ => (v + 1 - intOf D).toNat)
        case atStart => exact ⟨_, by omega, v0, rfl, B1, P⟩
        case round =>
          clear z c0 c1 c2 g0 g1 g2 P B1 v0
          obtain ⟨j, j0, j1, rfl, B1, P⟩ := hrel
          obtain ⟨z, c0, c1, c2, g0, g1, g2⟩ := id P
          by_cases hj : j = v
          · subst hj
            go_wp2_with fail
            refine (ci _).mono ?_
            rintro e w2 ⟨rfl, hb⟩
            replace P := P.kept hb
            replace B1 := bthen B1 hb
            clear hb z c0 c1 c2 g0 g1 g2
            obtain ⟨z, c0, c1, c2, g0, g1, g2⟩ := id P
            go_wp2
            go_ret2
            exact ⟨rfl, balloc B1 _⟩
          · have cj := cn.out j
            have j2 : j < v := by omega
            have cj := fun w => cj w hj
            clear hj
            go_wp2_with fail
            refine (cj _).mono ?_
            rintro e w2 ⟨a, b, c, er, O, rfl, hb⟩
            replace P := P.kept hb
            replace B1 := bthen B1 hb
            clear hb z c0 c1 c2 g0 g1 g2 cj
            obtain ⟨z, c0, c1, c2, g0, g1, g2⟩ := id P
            rcases O with rfl | ⟨rfl, O | ⟨rfl, O⟩ | ⟨rfl, rfl, O⟩⟩
            all_goals
              go_wp2
              go_roundw
              case rel => exact ⟨j + 1, by omega, by omega, rfl, balloc B1 _, P.alloc _⟩
              case measure => simp [intOf]; omega
    · have cn : Hid (∀ j w, Calls Tryd.prog 17 #[.int .i64 j] w (RIsoed j y k d w)) := Lib.hid (fun j w => rIso_not j y k d w (fun e => no e.1))
      obtain ⟨h, hh⟩ : ∃ h, f + 7 * k + 4 = h := ⟨_, rfl⟩
      clear no near
      rcases S with ⟨rfl, rfl, p, q, rfl, rfl, r⟩ | ⟨y2, f0, f1, p, q, hp, rfl, r⟩
      all_goals try subst hp
      all_goals
        have cd := fun w => rDay_any _ 1 1 _ _ w r
        clear r
        go_enter Tryd.func19, Tryd.ntmps19
        go_wp2_with fail
        refine (cd _).mono ?_
        rintro e w1 ⟨rfl, hb⟩
        have P := (Tri.new w (.int .i64 _) (.int .i64 k) (.int .i64 d) 23).kept hb
        have B1 := bthen (balloc (Below.refl _ w) _) hb
        clear hb cd
        obtain ⟨z, c0, c1, c2, g0, g1, g2⟩ := id P
        go_wp2
        go_loopw [6] (fun D wr => ∃ j : Int, -400 ≤ j ∧ j ≤ h + 1 ∧ D = .int .i64 j ∧ Below w.heap.size w wr ∧ Tri wr w.heap.size (.int .i64 _) (.int .i64 k) (.int .i64 d)) (fun D _ => (h + 1 - intOf D).toNat)
        case atStart => exact ⟨_, by omega, by omega, rfl, B1, P⟩
        case round =>
          clear z c0 c1 c2 g0 g1 g2 P B1
          obtain ⟨j, j0, j1, rfl, B1, P⟩ := hrel
          obtain ⟨z, c0, c1, c2, g0, g1, g2⟩ := id P
          have cj := cn.out j
          have HH := Lib.hid hh
          by_cases hj : j ≤ h
          · clear j1
            rw [← hh] at hj
            clear hh
            go_wp2_with fail
            refine (cj _).mono ?_
            rintro e w2 ⟨a, b, c, er, O, rfl, hb⟩
            replace P := P.kept hb
            replace B1 := bthen B1 hb
            clear hb z c0 c1 c2 g0 g1 g2 cj
            obtain ⟨z, c0, c1, c2, g0, g1, g2⟩ := id P
            rcases O with rfl | ⟨rfl, O | ⟨rfl, O⟩ | ⟨rfl, rfl, O⟩⟩
            all_goals
              go_wp2
              go_roundw
              case rel => exact ⟨j + 1, by omega, by have := HH.out; omega, rfl, balloc B1 _, P.alloc _⟩
              case measure => have := HH.out; simp [intOf]; omega
          · rw [← hh] at hj
            clear hh cj j1
            have hj' : decide (j ≤ _) = false := decide_eq_false hj
            go_wp2
            go_ret2
            exact ⟨rfl, B1⟩
  · obtain ⟨rfl, rfl⟩ : v = 0 ∧ er = 4 := by
      rcases R with ⟨ok, _⟩ | ⟨_, h1, h2⟩
      · exact absurd ⟨ok.1, ok.2.1, ok.2.2.1, weeks_le ok, ok.2.2.2.2.1, ok.2.2.2.2.2.1⟩ g
      · exact ⟨h1, h2⟩
    have O : y < 1599 ∨ (1599 ≤ y ∧ 9999 < y) ∨ (1599 ≤ y ∧ y ≤ 9999 ∧ k < 1) ∨ (1599 ≤ y ∧ y ≤ 9999 ∧ 1 ≤ k ∧ 53 < k) ∨ (1599 ≤ y ∧ y ≤ 9999 ∧ 1 ≤ k ∧ k ≤ 53 ∧ d < 1) ∨ (1599 ≤ y ∧ y ≤ 9999 ∧ 1 ≤ k ∧ k ≤ 53 ∧ 1 ≤ d ∧ 7 < d) := by omega
    clear g R
    rcases O with h | ⟨h, h1⟩ | ⟨h, h1, h2⟩ | ⟨h, h1, h2, h3⟩ | ⟨h, h1, h2, h3, h4⟩ | ⟨h, h1, h2, h3, h4, h5⟩
    all_goals
      go_enter Tryd.func19, Tryd.ntmps19
      go_wp2
      go_ret2
      exact ⟨rfl, balloc (Below.refl _ w) _⟩

theorem rMany_any (y v er : Int) (w : World) (R : ManyRes y v er) :
    Calls Tryd.prog 21 #[.int .i64 y] w fun e w' => e = .returned (.tuple #[.int .i64 v, .int .i64 er]) ∧ Below w.heap.size w w' := by
  rcases R with ⟨h0, h1, hv, rfl⟩ | ⟨h, rfl, rfl⟩
  · obtain ⟨l1, l2, l3⟩ := last_ok h0 h1
    rw [← hv] at l3
    have cd := fun w => rDay_any y 12 28 (dby (y + 1) - 4) 0 w (.inl ⟨l1, l2.symm, rfl⟩)
    have ci := fun w => rIso_any _ y v _ 0 w l3
    generalize dby (y + 1) - 4 = j at cd ci
    generalize wday j = u at ci
    clear hv l1 l2 l3 h0 h1
    go_enter Tryd.func21, Tryd.ntmps21
    go_wp2_with fail
    refine (cd _).mono ?_
    rintro e w1 ⟨rfl, hb⟩
    go_wp2_with fail
    refine (ci _).mono ?_
    rintro e w2 ⟨rfl, hb2⟩
    have B1 := bthen hb hb2
    clear hb hb2
    go_wp2
    go_ret2
    exact ⟨rfl, balloc B1 _⟩
  · have cd := fun w => rDay_any y 12 28 0 4 w (.inr ⟨fun k => h ⟨k.1.1, k.1.2.1⟩, rfl, rfl⟩)
    clear h
    go_enter Tryd.func21, Tryd.ntmps21
    go_wp2_with fail
    refine (cd _).mono ?_
    rintro e w1 ⟨rfl, hb⟩
    go_wp2
    go_ret2
    exact ⟨rfl, hb⟩

end Go.Proofs.YtodpmdmfdnbehaaDoor.Er
