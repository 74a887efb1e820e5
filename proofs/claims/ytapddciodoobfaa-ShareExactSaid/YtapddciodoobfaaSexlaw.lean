/- ShareExact's walk. -/
import Derived.Test.YtapddciodoobfaaSlaw
import Derived.Test.YtapddciodoobfaaSexact
import Derived.Test.YtapddciodoobfaaQcmp
import Derived.Test.YtapddciodoobfaaQops2
namespace Go.Proofs.Ytapddciodoobfaa.Sl
set_option linter.unusedSimpArgs false
set_option linter.unusedVariables false
open Go.RowKit Go.Proofs.Ytapddciodoobfaa.Vm Go.Proofs.Ytapddciodoobfaa.Vc Go.Proofs.Ytapddciodoobfaa.Pr Go.Proofs.Ytapddciodoobfaa.Rk Go.Proofs.Ytapddciodoobfaa.Sm Go.Proofs.Ytapddciodoobfaa.Om Go.Proofs.Ytapddciodoobfaa.Os Go.Proofs.Ytapddciodoobfaa.Sr Go.Proofs.Ytapddciodoobfaa.Qm

set_option maxHeartbeats 2000000

/-- a part is the whole number below its exact share, or the one above -/
theorem part_near {N D y t c : Int} (tp : 0 < t) (L : Low N D) (e : N * t = y * D) (h : (c = y / t) ∨ (c = y / t + 1 ∧ 0 < y % t)) :
    (c = N / D) ∨ (c = N / D + 1 ∧ N % D ≠ 0) := by
  have d0 := L.1
  have f : N / D = y / t := by
    have h1 : N * t / (D * t) = N / D := Int.mul_ediv_mul_of_pos_left _ _ tp
    have h2 : D * y / (D * t) = y / t := Int.mul_ediv_mul_of_pos _ _ d0
    rw [← h1, e, Int.mul_comm y D, h2]
  rcases h with h | ⟨h, h'⟩
  · exact .inl (by rw [f]; exact h)
  · refine .inr ⟨by rw [f]; exact h, fun z => ?_⟩
    have k := Int.mul_ediv_add_emod N D
    rw [z, Int.add_zero, f] at k
    have k2 := Int.mul_ediv_add_emod y t
    have k3 : D * (t * (y / t)) = D * y := by
      have : N * t = D * (t * (y / t)) := by rw [← k]; ac_rfl
      rw [← this, e]; ac_rfl
    have k4 : t * (y / t) = y := Int.eq_of_mul_eq_mul_left (show D ≠ 0 by omega) k3
    omega
/-- one share more -/
theorem sum_more {S T N D M E t a u v : Int} (tp : 0 < t) (L : Low S T) (L' : Low N D) (e : S * t = a * u * T) (e' : N * t = a * v * D) (r : M * (T * D) = (S * D + N * T) * E) : M * t = a * (u + v) * E := by
  have T0 := L.1
  have D0 := L'.1
  apply Int.eq_of_mul_eq_mul_right (show T * D ≠ 0 from Int.mul_ne_zero (by omega) (by omega))
  have h1 : M * t * (T * D) = (S * t * D + N * t * T) * E := by
    have : M * t * (T * D) = M * (T * D) * t := by ac_rfl
    rw [this, r, Int.mul_comm _ t, ← Int.mul_assoc, Int.mul_add]
    congr 1
    congr 1 <;> ac_rfl
  rw [h1, e, e', Int.mul_add, Int.add_mul, Int.add_mul, Int.add_mul]
  congr 1 <;> ac_rfl
/-- a whole number's ratio -/
theorem whole_low {S T a t : Int} (tp : 0 < t) (L : Low S T) (e : S * t = a * t * T) : S = a ∧ T = 1 := by
  have h : S = a * T := Int.eq_of_mul_eq_mul_right (show t ≠ 0 by omega) (by rw [e]; ac_rfl)
  have g := L.2
  have T0 := L.1
  rw [h, Int.gcd_comm] at g
  have h2 : Int.gcd T (a * T) = T.natAbs := by
    show Nat.gcd _ _ = _
    rw [Int.natAbs_mul, Nat.gcd_mul_left_right]
  have h1 : T = 1 := by omega
  exact ⟨by rw [h, h1, Int.mul_one], h1⟩

set_option maxRecDepth 100000 in
theorem exact_walk (a : Int) (A : Option Addr) (n cap : Nat) (zs : List Int) (w : World) (wa : (Lit.int .i64 a).wf = true) (w0 : SliceOf .i64 w A n cap zs) :
    Calls Try.prog 6 #[.int .i64 a, .slice A n cap] w fun e w' => e = .returned (.bool true) ∧ Below w.heap.size w w' := by
  have fa : Fit1 a := bounds_i64 wa
  obtain ⟨hn, hcap, hmax, hwf, hr⟩ := w0
  have fz : ∀ z ∈ zs, Fit1 z := fun z hz => bounds_i64 (hwf z hz)
  have R0 : Rd w w.heap.size A zs := by
    rcases hr with h | ⟨b, off, h1, h2, h3⟩
    · exact .inl h
    · exact .inr ⟨b, off, h1, h2, fun i hi => h3 i (by omega)⟩
  unfold maxLen at hmax
  have hn9 : (n : Int) ≤ 9223372036854775807 := by omega
  clear hwf hr wa
  by_cases big : 30 < n
  · have d1 : decide ((30 : Int) < (n : Int)) = true := decide_eq_true (by omega)
    clear fz R0 hn fa
    go_enter Try.func6, Try.ntmps6
    go_wp2_with fail
    refine (slive_ok _).mono ?_
    rintro e w1 ⟨rfl, hb1⟩
    go_wp2
    go_ret
    exact ⟨rfl, hb1⟩
  · have d1 : decide ((30 : Int) < (n : Int)) = false := decide_eq_false (by omega)
    obtain ⟨v, er, R⟩ := allres_ex zs
    rcases all_err R with ⟨rfl, h1, hp, hs, fs, rfl⟩ | ⟨he, rfl⟩
    · have n0 : 0 < n := by
        rcases Nat.eq_zero_or_pos n with h | h
        · rw [h] at hn; rw [List.length_eq_zero_iff.1 hn] at hs; simp at hs
        · exact h
      have c2 := fun w h => split_go A n cap zs a w hn n0 (by omega) fa fz h hp hs fs
      have RX : ∀ i, ∃ N D er, Rat1 (a * wt zs i) zs.sum N D er := fun i => rat1_ex _ (by omega)
      by_cases over : ∃ i, i < n ∧ ∃ N D er, Rat1 (a * wt zs i) zs.sum N D er ∧ er ≠ 0
      · -- the first that does not fit
        have first : ∀ m, (∃ i, i < m ∧ i < n ∧ ∃ N D er, Rat1 (a * wt zs i) zs.sum N D er ∧ er ≠ 0) → ∃ k, k < n ∧ Rat1 (a * wt zs k) zs.sum 0 0 2 ∧ ∀ i, i < k → ∃ N D, Rat1 (a * wt zs i) zs.sum N D 0 := by
          intro m
          induction m with
          | zero => rintro ⟨i, h, _⟩; omega
          | succ m ih =>
            intro ⟨i, h, hin, N, D, er, r, h0⟩
            by_cases c : ∃ i, i < m ∧ i < n ∧ ∃ N D er, Rat1 (a * wt zs i) zs.sum N D er ∧ er ≠ 0
            · exact ih c
            · have e : i = m := by
                by_cases q : i < m
                · exact absurd ⟨i, q, hin, N, D, er, r, h0⟩ c
                · omega
              subst e
              rcases rat1_er r with h1 | ⟨h1, h2, h3⟩
              · exact absurd h1 h0
              · subst h1 h2 h3
                refine ⟨i, hin, r, fun j hj => ?_⟩
                obtain ⟨N', D', er', r'⟩ := RX j
                by_cases z : er' = 0
                · subst z; exact ⟨N', D', r'⟩
                · exact absurd ⟨j, hj, by omega, N', D', er', r', z⟩ c
        obtain ⟨i, hi, o⟩ := over
        obtain ⟨k0, hk0, RE, RF⟩ := first n ⟨i, hi, hi, o⟩
        have CH : ∃ N D : Nat → Int, ∀ i, i < k0 → Rat1 (a * wt zs i) zs.sum (N i) (D i) 0 := by
          classical
          refine ⟨fun i => if h : i < k0 then (RF i h).choose else 0, fun i => if h : i < k0 then (RF i h).choose_spec.choose else 0, fun i h => ?_⟩
          simp only [h, dif_pos]
          exact (RF i h).choose_spec.choose_spec
        obtain ⟨N, D, RN⟩ := CH
        have c1 := fun w h => exact_over A n cap zs a N D k0 hk0 w hn n0 (by omega) fa fz h hp hs fs RN RE
        have HR := Lib.hid R0
        clear fz hn R R0 h1 hp hs fs fa RX RN RE RF first o
        go_enter Try.func6, Try.ntmps6
        go_wp2_with fail
        refine (slive_ok _).mono ?_
        rintro e w1 ⟨rfl, hb1⟩
        go_wp2_with fail
        refine (c1 _ (rdk HR.out hb1)).mono ?_
        rintro e w2 ⟨rfl, hb2⟩
        replace hb1 := bthen hb1 hb2
        clear hb2
        go_wp2_with fail
        refine (c2 _ (rdk HR.out hb1)).mono ?_
        rintro e w3 ⟨g, o, rfl, ro, gl, ho, hb2⟩
        replace hb1 := bthen hb1 hb2
        clear hb2 ro ho gl
        go_wp2
        go_ret
        exact ⟨rfl, hb1⟩
      · have CH : ∃ N D : Nat → Int, ∀ i, i < n → Rat1 (a * wt zs i) zs.sum (N i) (D i) 0 := by
          classical
          have RF : ∀ i, i < n → ∃ N D, Rat1 (a * wt zs i) zs.sum N D 0 := fun i hi => by
            obtain ⟨N, D, er, r⟩ := RX i
            by_cases z : er = 0
            · subst z; exact ⟨N, D, r⟩
            · exact absurd ⟨i, hi, N, D, er, r, z⟩ over
          refine ⟨fun i => if h : i < n then (RF i h).choose else 0, fun i => if h : i < n then (RF i h).choose_spec.choose else 0, fun i h => ?_⟩
          simp only [h, dif_pos]
          exact (RF i h).choose_spec.choose_spec
        obtain ⟨N, D, RN⟩ := CH
        have c1 := fun w h => exact_go A n cap zs a N D w hn n0 (by omega) fa fz h hp hs fs RN
        have M : MayBe (wt zs) n := by rw [← hn]; exact may_list hp hs
        have te : tot (wt zs) n = zs.sum := by rw [← hn]; exact sm_list zs
        obtain ⟨x, hx⟩ : ∃ x, x = wt zs := ⟨_, rfl⟩
        obtain ⟨t, ht⟩ : ∃ t, t = zs.sum := ⟨_, rfl⟩
        rw [← hx] at M te c2 RN
        rw [← ht] at te hs RN
        have HR := Lib.hid R0
        have HT := Lib.hid (And.intro M (And.intro te hs))
        have HN : Hid (∀ i, i < n → Low (N i) (D i) ∧ N i * t = a * x i * D i ∧ Fit1 (N i) ∧ Fit1 (D i)) := Lib.hid (fun i hi => rat1_low (RN i hi))
        clear fz hn R R0 h1 hp hs fs fa RX RN over M te hx ht
        go_enter Try.func6, Try.ntmps6
        go_wp2_with fail
        refine (slive_ok _).mono ?_
        rintro e w1 ⟨rfl, hb1⟩
        go_wp2_with fail
        refine (c1 _ (rdk HR.out hb1)).mono ?_
        rintro e w2 ⟨G, rfl, rg, gl, hb2⟩
        replace hb1 := bthen hb1 hb2
        clear hb2 gl c1
        go_wp2_with fail
        refine (c2 _ (rdk HR.out hb1)).mono ?_
        rintro e w3 ⟨g, o, rfl, ro, gl, ho, hb2⟩
        replace hb1 := bthen hb1 hb2
        replace rg := rg.kept hb2
        have HO := Lib.hid ho
        clear hb2 ho gl c2
        have A3 : Below w3.heap.size w3 (w3.alloc (.cells #[.int .i64 0, .int .i64 1] 38)) := balloc (Below.refl _ _) _
        have SB := Two.new w3 (.int .i64 0) (.int .i64 1) 38
        have Gs : G ≠ w3.heap.size := Nat.ne_of_lt rg.lt
        have gs : g ≠ w3.heap.size := Nat.ne_of_lt ro.lt
        replace rg := rg.kept A3
        replace ro := ro.kept A3
        have B1 := bthen hb1 A3
        have sbl : w.heap.size ≤ w3.heap.size := hb1.size
        clear A3 hb1
        go_wp2_with fail
        generalize w3.alloc (.cells #[.int .i64 0, .int .i64 1] 38) = W3 at SB rg ro B1 ⊢
        generalize w3.heap.size = sb at SB sbl Gs gs ⊢
        go_loopw [68] (fun Y wr => ∃ (k : Nat) (S T : Int), k ≤ n ∧ Y = .int .i64 k ∧ Below w.heap.size w wr ∧ Rowp wr G n N D ∧ Row wr g n o ∧ Two wr sb (.int .i64 S) (.int .i64 T) ∧ Hid (Low S T ∧ S * t = a * sm x k * T ∧ Fit1 S ∧ Fit1 T)) (fun Y _ => n - (intOf Y).toNat)
        case atStart => exact ⟨0, 0, 1, by omega, rfl, B1, rg, ro, SB, Lib.hid ⟨⟨by omega, by simp⟩, by simp [sm], by unfold Fit1; omega, by unfold Fit1; omega⟩⟩
        case round =>
          clear B1 rg ro SB
          obtain ⟨k, S, T, hk, rfl, B1, rg, ro, SB, HS⟩ := hrel
          by_cases hlt : k < n
          · obtain ⟨LN, eN, fN, fD⟩ := HN.out k hlt
            have near := part_near (c := o k) HT.out.2.2 LN eN (by
              obtain ⟨C, hC, e⟩ := HO.out
              have e2 := e k hlt
              have q : quo a x n k = a * x k / t := by unfold quo; rw [HT.out.2.1]
              have r : rem a x n k = a * x k % t := by unfold rem; rw [HT.out.2.1]
              rw [q] at e2
              cases ck : C k
              · rw [ck] at e2; exact .inl (by rw [e2]; simp [one])
              · rw [ck] at e2; exact .inr ⟨by rw [e2]; simp [one], by rw [← r]; exact more_pos HT.out.1 hC hlt ck⟩)
            obtain ⟨N2, D2, e2, R2⟩ := opres_ex (a := S) (b := T) (c := N k) (d := D k) (n := S * D k + N k * T) (m := T * D k) (fun h1 h2 => low_ne h1 h2)
            have E2 : e2 = 0 ∨ e2 ≠ 0 := by omega
            have cF := fun W => Qc.Floor_any (N k) (D k) (N k / D k) 0 W fN fD (.inl ⟨LN, rfl, rfl⟩)
            have cC := fun W => Qc.Ceil_any (N k) (D k) (if N k % D k = 0 then N k / D k else N k / D k + 1) 0 W fN fD (.inl ⟨LN, rfl, rfl⟩)
            have cA := fun W => Qc.Add_op S T (N k) (D k) N2 D2 e2 W HS.out.2.2.1 HS.out.2.2.2 fN fD R2
            have HR2 := Lib.hid R2
            have OK : (o k = N k / D k) ∨ (o k = N k / D k + 1 ∧ (if N k % D k = 0 then N k / D k else N k / D k + 1) = N k / D k + 1) := by
              rcases near with h | ⟨h, h'⟩
              · exact .inl h
              · exact .inr ⟨h, if_neg h'⟩
            have p0 := rg.c0 k hlt
            have p1 := rg.c1 k hlt
            generalize (if N k % D k = 0 then N k / D k else N k / D k + 1) = cv at cC OK
            generalize N k / D k = fv at cF OK
            obtain ⟨Nk, hNk⟩ : ∃ y, N k = y := ⟨_, rfl⟩
            obtain ⟨Dk, hDk⟩ : ∃ y, D k = y := ⟨_, rfl⟩
            rw [hNk] at p0 cF cC cA
            rw [hDk] at p1 cF cC cA
            have HK := Lib.hid (And.intro hNk hDk)
            have pp : (0 : Int) ≤ (k : Int) := by omega
            have bp : (k : Int) < (n : Int) := by omega
            clear LN eN fN fD near R2 hNk hDk
            go_wp2_with fail
            refine (cF _).mono ?_
            rintro e w5 ⟨rfl, hb2⟩
            have A4 := balloc (Below.refl wr.heap.size wr) (.cells #[.int .i64 Nk, .int .i64 Dk] 38)
            have P := (Two.new wr (.int .i64 Nk) (.int .i64 Dk) 38).kept hb2
            replace B1 := bthen (bthen B1 A4) hb2
            replace rg := (rg.kept A4).kept hb2
            replace ro := (ro.kept A4).kept hb2
            replace SB := (SB.kept A4).kept hb2
            clear hb2 A4 cF p0 p1
            generalize wr.heap.size = rb at P ⊢
            obtain ⟨z0, q0, q1, _, _⟩ := id P
            go_wp2_with fail
            refine (cC _).mono ?_
            rintro e w6 ⟨rfl, hb2⟩
            replace P := P.kept hb2
            replace B1 := bthen B1 hb2
            replace rg := rg.kept hb2
            replace ro := ro.kept hb2
            replace SB := SB.kept hb2
            clear hb2 cC z0 q0 q1
            obtain ⟨z0, q0, q1, _, _⟩ := id P
            obtain ⟨z1, s0, s1, _, _⟩ := id SB
            have oc := ro.c k hlt
            rcases OK with h | ⟨h, h'⟩
            all_goals
              rw [h] at oc
              clear h
            case' inr =>
              subst h'
              have d7 : (fv + 1 != fv) = true := bne_iff_ne.2 (by omega)
            all_goals
              go_wp2_with fail
              refine (cA _).mono ?_
              rintro e w7 ⟨rfl, hb2⟩
              replace B1 := bthen B1 hb2
              replace rg := rg.kept hb2
              replace ro := ro.kept hb2
              replace SB := SB.kept hb2
              clear hb2 cA z0 q0 q1 z1 s0 s1 P oc
              rcases E2 with rfl | er
              · have A5 := fun W : World => balloc (Below.refl W.heap.size W) (.cells #[.int .i64 N2, .int .i64 D2] 38)
                have NW : Hid (Low N2 D2 ∧ N2 * t = a * sm x (k + 1) * D2 ∧ Fit1 N2 ∧ Fit1 D2) := Lib.hid (by
                  obtain ⟨l1, l2, l3, e3, f1, f2⟩ := opres_ok HR2.out
                  refine ⟨l3, ?_, f1, f2⟩
                  have := sum_more HT.out.2.2 l1 l2 HS.out.2.1 (HN.out k hlt).2.1 e3
                  rw [this]; rfl)
                have B2 := bthen (bset (bset B1 sbl 0 (.int .i64 N2)) sbl 1 (.int .i64 D2)) (A5 _)
                have rg2 := ((rg.other 0 (.int .i64 N2) Gs).other 1 (.int .i64 D2) Gs).kept (A5 _)
                have ro2 := ((ro.other 0 (.int .i64 N2) gs).other 1 (.int .i64 D2) gs).kept (A5 _)
                have SB2 := ((SB.set0 (.int .i64 N2)).set1 (.int .i64 D2)).kept (A5 _)
                obtain ⟨z1, s0, s1, f0, f1⟩ := id SB
                clear B1 rg ro SB A5
                go_wp2
                go_roundw
                case rel => exact ⟨k + 1, N2, D2, by omega, by go_num, B2, rg2, ro2, SB2, NW⟩
                case measure => simp [intOf] <;> omega
              · have d8 : (e2 != 0) = true := bne_iff_ne.2 er
                clear er
                go_wp2
                go_ret
                exact ⟨rfl, balloc B1 _⟩
          · obtain rfl : k = n := by omega
            obtain ⟨hl, he, _, _⟩ := HS.out
            rw [show sm x k = t from HT.out.2.1] at he
            obtain ⟨rfl, rfl⟩ := whole_low HT.out.2.2 hl he
            obtain ⟨sz, s0, s1, _, _⟩ := id SB
            clear hl he
            go_wp2
            go_ret
            exact ⟨by simp, B1⟩
    · have c1 := fun w h => exact_no A n cap zs a 0 er w hn hn9 fz h R he
      have c2 := fun w h => split_no A n cap zs a 0 er w hn hn9 fz h R he
      have d2 : (er != 0) = true := bne_iff_ne.2 he
      have HR := Lib.hid R0
      clear fz hn R R0 he fa
      go_enter Try.func6, Try.ntmps6
      go_wp2_with fail
      refine (slive_ok _).mono ?_
      rintro e w1 ⟨rfl, hb1⟩
      go_wp2_with fail
      refine (c1 _ (rdk HR.out hb1)).mono ?_
      rintro e w2 ⟨rfl, hb2⟩
      replace hb1 := bthen hb1 hb2
      clear hb2
      go_wp2_with fail
      refine (c2 _ (rdk HR.out hb1)).mono ?_
      rintro e w3 ⟨rfl, hb2⟩
      replace hb1 := bthen hb1 hb2
      clear hb2
      go_wp2
      go_ret
      exact ⟨by simp, hb1⟩

end Go.Proofs.Ytapddciodoobfaa.Sl
