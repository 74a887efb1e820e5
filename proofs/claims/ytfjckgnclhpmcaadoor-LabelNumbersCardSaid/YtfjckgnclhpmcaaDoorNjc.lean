/- Joined: Namt, Nunit, Nunit2, Nlive. -/
import Derived.Test.YtfjckgnclhpmcaaDoorNlev2
import Derived.Test.YtfjckgnclhpmcaaDoorNdig
import Derived.Test.YtfjckgnclhpmcaaDoorBoxn
import Derived.Lib.QuietBelow
/- What Amount and Small of package label come to. -/
namespace Go.Proofs.YtfjckgnclhpmcaaDoor.Np
set_option linter.unusedSimpArgs false
set_option linter.unusedVariables false
open Go.RowKit Go.Proofs.YtfjckgnclhpmcaaDoor.Pr Go.Proofs.YtfjckgnclhpmcaaDoor.Nm Go.Proofs.YtfjckgnclhpmcaaDoor.Wm Go.Proofs.YtfjckgnclhpmcaaDoor.Wc Go.Proofs.YtfjckgnclhpmcaaDoor.Bx

set_option maxHeartbeats 2000000

theorem neg_true {s : ByteArray} (h : neg s = true) : 0 < s.size ∧ s = ⟨#[45]⟩ ++ rest s := by
  unfold neg at h
  simp only [Bool.and_eq_true, decide_eq_true_eq, beq_iff_eq] at h
  have hn : neg s = true := by unfold neg; simp [h.1, h.2]
  refine ⟨h.1, ?_⟩
  unfold rest
  rw [if_pos hn]
  have e : s.extract 0 1 = ⟨#[45]⟩ := by
    have h2 := h.2
    rw [byt_at h.1] at h2
    obtain ⟨⟨l⟩⟩ := s
    match l, h.1, h2 with
    | a :: l, _, h2 =>
      have ha : a = 45 := UInt8.toNat_inj.1 (by show a.toNat = 45; have : ((a.toNat : Nat) : Int) = 45 := h2; omega)
      subst ha
      exact ByteArray.extract_mk _ 0 1
  rw [← e, ByteArray.extract_append_extract, Nat.min_eq_left (by omega), Nat.max_eq_right (by omega)]
  exact ByteArray.extract_zero_size.symm
theorem neg_false {s : ByteArray} (h : neg s = false) : rest s = s ∧ ∀ u, s ≠ ⟨#[45]⟩ ++ u := by
  refine ⟨by unfold rest; rw [h]; rfl, fun u e => ?_⟩
  have hz : 0 < s.size := by rw [e, ByteArray.size_append]; show 0 < 1 + _; omega
  have hb : byt s 0 = 45 := by rw [e, byt_app_left (by show 0 < 1; omega)]; rfl
  unfold neg at h
  rw [hb, decide_eq_true hz] at h
  exact absurd h (by decide)
theorem cut_minus (s : ByteArray) : CutA s ⟨#[45]⟩ (rest s) (neg s) := by
  rcases hn : neg s with _ | _
  · exact .inr ⟨rfl, (neg_false hn).1, (neg_false hn).2⟩
  · exact .inl ⟨rfl, (neg_true hn).2⟩
theorem rest_size (s : ByteArray) : (rest s).size ≤ s.size := by
  rcases hn : neg s with _ | _
  · rw [(neg_false hn).1]; exact Nat.le_refl _
  · have := congrArg ByteArray.size (neg_true hn).2
    rw [ByteArray.size_append] at this
    omega

theorem same_48 (s : ByteArray) : (s.toList == [48]) = decide (s = zeroT) := by
  rw [show ([48] : List UInt8) = (⟨#[48]⟩ : ByteArray).toList from (ByteArray.toList_mk [48]).symm]
  exact same_list s ⟨#[48]⟩

set_option maxRecDepth 100000 in
theorem Amount_any (s : ByteArray) (v er : Int) (w : World) (hm : s.size ≤ maxLen) (R : AmountA s v er) :
    Calls Tryd.prog 16 #[.string s] w fun e w' => e = .returned (.tuple #[.int .i64 v, .int .i64 er]) ∧ Below w.heap.size w w' := by
  have cp := fun w => cut_any s ⟨#[45]⟩ (rest s) (neg s) w hm (cut_minus s)
  have rs := rest_size s
  have hr : (rest s).size ≤ maxLen := Nat.le_trans rs hm
  have P : ∃ b : Bool, b = neg s := ⟨_, rfl⟩
  by_cases ad : AllDig (rest s)
  · have ca := fun w => areDigits_any (rest s) true w hr (.inl ⟨rfl, ad⟩)
    by_cases z : 0 < (rest s).size
    · have d1 : ¬ (rest s).toList = [] := fun e => by
        have : (rest s).size = 0 := by
          rw [ByteArray.toList_eq] at e
          have := congrArg List.length e
          simpa using this
        omega
      have d2 : (rest s).toList.isEmpty = false := by
        rcases h : (rest s).toList with _ | ⟨x, l⟩
        · exact absurd h d1
        · rfl
      by_cases q : byt (rest s) 0 = 48 ∧ s ≠ zeroT
      · have R' : v = 0 ∧ er = 5 := by
          rcases R with ⟨h, _⟩ | ⟨h, _⟩ | ⟨_, h⟩
          · exact absurd (h.2.2 q.1) q.2
          · exact absurd (h.2.2 q.1) q.2
          · exact h
        obtain ⟨rfl, rfl⟩ := R'
        have e0 : (((rest s)[0]'z).toNat : Int) = 48 := by rw [← byt_at z]; exact q.1
        have e1 : (s.toList == [48]) = false := (same_48 s).trans (decide_eq_false q.2)
        have z' : (0 : Int) < ((rest s).size : Int) := by omega
        have e2 : ((((rest s)[0]'z).toNat : Int) == 48) = true := by rw [e0]; rfl
        generalize rest s = r at *
        generalize neg s = ng at *
        clear R q ad hm hr rs P e0
        go_enter Tryd.func16, Tryd.ntmps16
        go_wp2_with fail
        refine (cp _).mono ?_
        rintro e w1 ⟨rfl, hb⟩
        go_wp2_with fail
        refine (ca _).mono ?_
        rintro e w2 ⟨rfl, hb2⟩
        go_wp2
        go_ret2
        exact ⟨rfl, bthen hb hb2⟩
      · have dk : DecOk s := ⟨z, ad, fun e => by
          by_cases h : s = zeroT
          · exact h
          · exact absurd ⟨e, h⟩ q⟩
        have Q : ((((rest s)[0]'z).toNat : Int) == 48) = false ∨ (((((rest s)[0]'z).toNat : Int) == 48) = true ∧ (s.toList == [48]) = true) := by
          by_cases h : byt (rest s) 0 = 48
          · have := dk.2.2 h
            refine .inr ⟨?_, ?_⟩
            · rw [byt_at z] at h; exact beq_iff_eq.2 h
            · exact (same_48 s).trans (decide_eq_true this)
          · refine .inl ?_
            rw [byt_at z] at h; exact beq_eq_false_iff_ne.2 h
        have z' : (0 : Int) < ((rest s).size : Int) := by omega
        have vn := val_nonneg ad (rest s).size (Nat.le_refl _)
        have E : ∃ n, n = val (rest s) (rest s).size := ⟨_, rfl⟩
        obtain ⟨n, hn⟩ := E
        have X : (Low n ∧ ((neg s = true ∧ v = -n ∧ er = 0) ∨ (neg s = false ∧ n ≠ 9223372036854775808 ∧ v = n ∧ er = 0) ∨ (neg s = false ∧ n = 9223372036854775808 ∧ v = 0 ∧ er = 2))) ∨ (¬ Low n ∧ v = 0 ∧ er = 2) := by
          unfold AmountA dval Fit64 at R
          rw [← hn] at R vn
          unfold Low
          rcases hg : neg s with _ | _
          · rw [hg] at R
            simp only [Bool.false_eq_true, if_false] at R
            rcases R with ⟨_, a, b, d⟩ | ⟨_, a, b, d⟩ | ⟨h, _⟩
            · exact .inl ⟨by omega, .inr (.inl ⟨rfl, by omega, b, d⟩)⟩
            · by_cases h : n = 9223372036854775808
              · exact .inl ⟨by omega, .inr (.inr ⟨rfl, h, b, d⟩)⟩
              · exact .inr ⟨by omega, b, d⟩
            · exact absurd dk h
          · rw [hg] at R
            simp only [if_true] at R
            rcases R with ⟨_, a, b, d⟩ | ⟨_, a, b, d⟩ | ⟨h, _⟩
            · exact .inl ⟨by omega, .inl ⟨rfl, b, d⟩⟩
            · exact .inr ⟨by omega, b, d⟩
            · exact absurd dk h
        rcases X with ⟨lo, X⟩ | ⟨hi, rfl, rfl⟩
        · have co := fun w => opposite_yes (rest s) (-n) w hr ad (by rw [← hn]; exact lo) (by rw [hn])
          unfold Low at lo
          rw [← hn] at vn
          clear R q ad hm hr rs P dk hn
          have cy : n ≠ 9223372036854775808 → ∀ w, Calls Tryd.prog 31 #[.int .i64 (-n)] w fun e w' => e = .returned (.tuple #[.int .i64 n, .int .i64 0]) ∧ w = w' := fun h w => by
            have := neg_yes (-n) w (by unfold Fit; omega) (by omega)
            rwa [Int.neg_neg] at this
          have cn : n = 9223372036854775808 → ∀ w, Calls Tryd.prog 31 #[.int .i64 (-n)] w fun e w' => e = .returned (.tuple #[.int .i64 0, .int .i64 2]) ∧ w = w' := fun h w => by
            rw [h]; exact neg_no w
          generalize -n = nn at *
          generalize rest s = r at *
          generalize neg s = ng at *
          rcases X with ⟨rfl, rfl, rfl⟩ | ⟨rfl, h, rfl, rfl⟩ | ⟨rfl, h, rfl, rfl⟩
          · clear cy cn
            rcases Q with q0 | ⟨q0, q1⟩
            all_goals
              go_enter Tryd.func16, Tryd.ntmps16
              go_wp2_with fail
              refine (cp _).mono ?_
              rintro e w1 ⟨rfl, hb⟩
              go_wp2_with fail
              refine (ca _).mono ?_
              rintro e w2 ⟨rfl, hb2⟩
              go_wp2_with fail
              refine (co _).mono ?_
              rintro e w3 ⟨rfl, hb3⟩
              go_wp2
              go_ret2
              exact ⟨rfl, bthen (bthen hb hb2) hb3⟩
          · have cg := cy h
            clear cy cn h
            rcases Q with q0 | ⟨q0, q1⟩
            all_goals
              go_enter Tryd.func16, Tryd.ntmps16
              go_wp2_with fail
              refine (cp _).mono ?_
              rintro e w1 ⟨rfl, hb⟩
              go_wp2_with fail
              refine (ca _).mono ?_
              rintro e w2 ⟨rfl, hb2⟩
              go_wp2_with fail
              refine (co _).mono ?_
              rintro e w3 ⟨rfl, hb3⟩
              go_wp2_with fail
              refine (cg _).mono ?_
              rintro e w4 ⟨rfl, rfl⟩
              go_wp2
              go_ret2
              exact ⟨rfl, bthen (bthen hb hb2) hb3⟩
          · have cg := cn h
            clear cy cn h
            rcases Q with q0 | ⟨q0, q1⟩
            all_goals
              go_enter Tryd.func16, Tryd.ntmps16
              go_wp2_with fail
              refine (cp _).mono ?_
              rintro e w1 ⟨rfl, hb⟩
              go_wp2_with fail
              refine (ca _).mono ?_
              rintro e w2 ⟨rfl, hb2⟩
              go_wp2_with fail
              refine (co _).mono ?_
              rintro e w3 ⟨rfl, hb3⟩
              go_wp2_with fail
              refine (cg _).mono ?_
              rintro e w4 ⟨rfl, rfl⟩
              go_wp2
              go_ret2
              exact ⟨rfl, bthen (bthen hb hb2) hb3⟩
        · have co := fun w => opposite_no (rest s) w hr ad (by rw [← hn]; exact hi)
          clear R q ad hm hr rs P dk hn hi vn
          generalize rest s = r at *
          generalize neg s = ng at *
          rcases Q with q0 | ⟨q0, q1⟩
          all_goals
            go_enter Tryd.func16, Tryd.ntmps16
            go_wp2_with fail
            refine (cp _).mono ?_
            rintro e w1 ⟨rfl, hb⟩
            go_wp2_with fail
            refine (ca _).mono ?_
            rintro e w2 ⟨rfl, hb2⟩
            go_wp2_with fail
            refine (co _).mono ?_
            rintro e w3 ⟨rfl, hb3⟩
            go_wp2
            go_ret2
            exact ⟨rfl, bthen (bthen hb hb2) hb3⟩
    · have R' : v = 0 ∧ er = 5 := by
        rcases R with ⟨h, _⟩ | ⟨h, _⟩ | ⟨_, h⟩
        · exact absurd h.1 z
        · exact absurd h.1 z
        · exact h
      obtain ⟨rfl, rfl⟩ := R'
      have d1 : (rest s).toList = [] := by
        rw [ByteArray.toList_eq]
        have : (rest s).size = 0 := by omega
        exact List.eq_nil_of_length_eq_zero (by simpa using this)
      generalize rest s = r at *
      generalize neg s = ng at *
      clear R ad hm hr rs P z
      go_enter Tryd.func16, Tryd.ntmps16
      go_wp2_with fail
      refine (cp _).mono ?_
      rintro e w1 ⟨rfl, hb⟩
      go_wp2_with fail
      refine (ca _).mono ?_
      rintro e w2 ⟨rfl, hb2⟩
      go_wp2
      go_ret2
      exact ⟨rfl, bthen hb hb2⟩
  · have R' : v = 0 ∧ er = 5 := by
      rcases R with ⟨h, _⟩ | ⟨h, _⟩ | ⟨_, h⟩
      · exact absurd h.2.1 ad
      · exact absurd h.2.1 ad
      · exact h
    obtain ⟨rfl, rfl⟩ := R'
    have ca := fun w => areDigits_any (rest s) false w hr (.inr ⟨rfl, ad⟩)
    generalize rest s = r at *
    generalize neg s = ng at *
    clear R ad hm hr rs P
    go_enter Tryd.func16, Tryd.ntmps16
    go_wp2_with fail
    refine (cp _).mono ?_
    rintro e w1 ⟨rfl, hb⟩
    go_wp2_with fail
    refine (ca _).mono ?_
    rintro e w2 ⟨rfl, hb2⟩
    go_wp2
    go_ret2
    exact ⟨rfl, bthen hb hb2⟩

theorem amount_er {s : ByteArray} {v er : Int} (h : AmountA s v er) : (er = 0 ∧ Fit64 v) ∨ (v = 0 ∧ (er = 2 ∨ er = 5)) := by
  rcases h with ⟨_, f, rfl, rfl⟩ | ⟨_, _, rfl, rfl⟩ | ⟨_, rfl, rfl⟩
  · exact .inl ⟨rfl, f⟩
  · exact .inr ⟨rfl, .inl rfl⟩
  · exact .inr ⟨rfl, .inr rfl⟩

set_option maxRecDepth 100000 in
theorem Small_any (s : ByteArray) (v er : Int) (w : World) (hm : s.size ≤ maxLen) (R : SmallA s v er) :
    Calls Tryd.prog 18 #[.string s] w fun e w' => e = .returned (.tuple #[.int .i64 v, .int .i64 er]) ∧ Below w.heap.size w w' := by
  obtain ⟨n, e, A, O⟩ := R
  have ca := fun w => Amount_any s n e w hm A
  have ae := amount_er A
  unfold Fit64 at ae
  have O2 : ((e = 2 ∨ e = 5) ∧ v = 0 ∧ er = e) ∨ (e = 0 ∧ n < -999999999 ∧ v = 0 ∧ er = 2) ∨ (e = 0 ∧ -999999999 ≤ n ∧ 999999999 < n ∧ n ≤ 9223372036854775807 ∧ v = 0 ∧ er = 2) ∨ (e = 0 ∧ -999999999 ≤ n ∧ n ≤ 999999999 ∧ v = n ∧ er = 0) := by omega
  clear O ae A
  rcases O2 with ⟨rfl | rfl, rfl, rfl⟩ | ⟨rfl, n0, rfl, rfl⟩ | ⟨rfl, n0, n1, n2, rfl, rfl⟩ | ⟨rfl, n0, n1, rfl, rfl⟩
  all_goals
    go_enter Tryd.func18, Tryd.ntmps18
    go_wp2_with fail
    refine (ca _).mono ?_
    rintro e w1 ⟨rfl, hb⟩
    go_wp2
    go_ret2
    exact ⟨rfl, hb⟩

end Go.Proofs.YtfjckgnclhpmcaaDoor.Np

/- What Print, unitOf and Parse of package label come to. -/
namespace Go.Proofs.YtfjckgnclhpmcaaDoor.Np
set_option linter.unusedSimpArgs false
set_option linter.unusedVariables false
open Go.RowKit Go.Proofs.YtfjckgnclhpmcaaDoor.Pr Go.Proofs.YtfjckgnclhpmcaaDoor.Nm Go.Proofs.YtfjckgnclhpmcaaDoor.Wm Go.Proofs.YtfjckgnclhpmcaaDoor.Wc Go.Proofs.YtfjckgnclhpmcaaDoor.Bx Go.Proofs.YtfjckgnclhpmcaaDoor.Fs Go.Proofs.YtfjckgnclhpmcaaDoor.Bn
open Go.Proofs.YtfjckgnclhpmcaaDoor.Tm (s4 s2 s1 s4_size)

set_option maxHeartbeats 600000

theorem ldigL (L i : Int) (w : World) (h : NumOk L i) : Calls Tryd.prog 21 #[.int .i64 i, .int .i64 (dgc L : Nat)] w fun e w' => e = .returned (.string (sd L i)) ∧ Below w.heap.size w w' := by
  rcases h with ⟨rfl, rfl⟩ | ⟨O, z, t⟩ | ⟨O, z, t⟩
  · exact ldig0 1 w (by omega) (by omega)
  · rcases O with rfl | rfl
    · exact ldig1 i w z t
    · exact ldig1 i w z t
  · rcases O with rfl | rfl
    · exact ldig2 i w z t
    · exact ldig2 i w z t
theorem dgc_bd (L : Int) : dgc L ≤ 2 := by unfold dgc; repeat' split
                                           all_goals omega
theorem sgn_bd {L : Int} (h : 1 ≤ L ∧ L ≤ 5) : (sgn L).size ≤ 2 := by rw [sgn_size h]; split <;> omega

set_option maxRecDepth 100000 in
theorem LPrint_any (L y i : Int) (s : ByteArray) (er : Int) (w : World) (R : PrintA L y i s er) (T : Lev w) :
    Calls Tryd.prog 10 #[.agg #[.int .i64 L, .int .i64 y, .int .i64 i]] w fun e w' => e = .returned (.tuple #[.string s, .int .i64 er]) ∧ Below w.heap.size w w' := by
  have U := Tri.new w (.int .i64 L) (.int .i64 y) (.int .i64 i) 23
  replace T := T.alloc (.cells #[.int .i64 L, .int .i64 y, .int .i64 i] 23)
  have B := balloc (Below.refl _ w) (.cells #[.int .i64 L, .int .i64 y, .int .i64 i] 23)
  rcases R with ⟨wo, hs, rfl⟩ | ⟨no, rfl, rfl⟩
  · have cc := fun w T => can_any L y i true w (decide_eq_true wo).symm T
    have ll : 1 ≤ L ∧ L ≤ 5 := ⟨wo.2.2.1, wo.2.2.2.1⟩
    have cA := fun w => ldig4 y w (by have := wo.1; omega) (by have := wo.2.1; omega)
    have cB := fun w => ldigL L i w (form_of wo).2.2.1
    obtain ⟨k, hk⟩ : ∃ k : Nat, L = (k : Int) + 1 := ⟨(L - 1).toNat, by omega⟩
    have k5 : k < 5 := by omega
    have p0 : (0 : Int) ≤ (k : Int) := by omega
    have p1 : (k : Int) < 5 := by omega
    have kk : L - 1 = (k : Int) := by omega
    have z1 := s4_size y
    have z2 := sgn_bd ll
    have z3 := sd_size L i
    have z4 := dgc_bd L
    have E : Hid (s4 y ++ sgn L ++ sd L i = s) := Lib.hid hs.symm
    have HK := Lib.hid hk
    clear wo hs ll hk
    go_enter Tryd.func10, Tryd.ntmps10
    go_upto_region 1 with fail
    generalize w.alloc (.cells #[.int .i64 L, .int .i64 y, .int .i64 i] 23) = W0 at *
    obtain ⟨_, u0, u1, u2, _, _, _⟩ := id U
    go_wp2_with fail
    refine (cc _ T).mono ?_
    rintro e w1 ⟨rfl, hb⟩
    replace U := U.kept hb
    replace T := T.kept hb
    replace B := bthen B hb
    clear hb cc u0 u1 u2
    obtain ⟨_, u0, u1, u2, _, _, _⟩ := id U
    obtain ⟨r0, r1, r2, r3⟩ := T.row k k5
    rw [← HK.out] at r0 r1 r2 r3
    clear HK
    generalize lname L = nm at *
    generalize sgn L = sg at *
    generalize dgc L = dd at *
    generalize most L = mo at *
    generalize s4 y = a at *
    generalize sd L i = d at *
    go_wp2
    have X := Box.new w1 #[.string nm, .string sg, .int .i64 (dd : Int), .int .i64 mo] 41
    replace U := U.alloc (.cells #[.string nm, .string sg, .int .i64 (dd : Int), .int .i64 mo] 41)
    replace B := balloc B (.cells #[.string nm, .string sg, .int .i64 (dd : Int), .int .i64 mo] 41)
    generalize w1.alloc (.cells #[.string nm, .string sg, .int .i64 (dd : Int), .int .i64 mo] 41) = W1 at *
    clear u0 u1 u2 r0 r1 r2 r3 T
    obtain ⟨_, u0, u1, u2, _, _, _⟩ := id U
    have x1 := X.cell 1 _ rfl
    have x2 := X.cell 2 _ rfl
    have E1 := E.out
    obtain ⟨t, ht⟩ : ∃ t, t = a ++ sg := ⟨_, rfl⟩
    rw [← ht] at E1
    have zt : t.size = a.size + sg.size := by rw [ht, ByteArray.size_append]
    have a1 : ∀ w, (Op.stringOp .add a sg).run Tryd.prog w = .ok (.string t) w := fun w => by rw [ht]; exact run_string_add_sum w _ _ (by omega)
    have a2 : ∀ w, (Op.stringOp .add t d).run Tryd.prog w = .ok (.string s) w := fun w => by rw [← E1]; exact run_string_add_sum w _ _ (by omega)
    clear ht E1 E zt
    have qA := fun d os => Calls.regrown_of (cA (Go.Sort.grow (redrawn W1 d) os))
    have qB := fun d os => Calls.regrown_of (cB (Go.Sort.grow (redrawn W1 d) os))
    have k1 := cell_regrown u1
    have k2 := cell_regrown u2
    have k3 := cell_regrown x1
    have k4 := cell_regrown x2
    refine wp_region_quiet_below (by kernel_rfl) (by kernel_rfl) ?_
    repeat (quiet_step (first | (with_reducible exact qA _ _) | (with_reducible exact qB _ _)))
    refine wpQuiet_nil ?_
    intro _ hw'
    obtain ⟨⟨dq, osq⟩, hw''⟩ := hw'
    subst hw''
    have hb := below_regrown W1 dq osq
    generalize Go.Sort.grow (redrawn W1 dq) osq = w9 at hb ⊢
    go_wp2
    go_ret2
    exact ⟨rfl, bthen B hb⟩
  · have cc := fun w T => can_any L y i false w (decide_eq_false no).symm T
    clear no
    go_enter Tryd.func10, Tryd.ntmps10
    go_upto_region 1 with fail
    generalize w.alloc (.cells #[.int .i64 L, .int .i64 y, .int .i64 i] 23) = W0 at *
    obtain ⟨_, u0, u1, u2, _, _, _⟩ := id U
    go_wp2_with fail
    refine (cc _ T).mono ?_
    rintro e w1 ⟨rfl, hb⟩
    go_wp2
    go_ret2
    exact ⟨rfl, bthen B hb⟩

end Go.Proofs.YtfjckgnclhpmcaaDoor.Np

/- What unitOf and Parse of package label come to. -/
namespace Go.Proofs.YtfjckgnclhpmcaaDoor.Np
set_option linter.unusedSimpArgs false
set_option linter.unusedVariables false
open Go.RowKit Go.Proofs.YtfjckgnclhpmcaaDoor.Pr Go.Proofs.YtfjckgnclhpmcaaDoor.Nm Go.Proofs.YtfjckgnclhpmcaaDoor.Wm Go.Proofs.YtfjckgnclhpmcaaDoor.Wc Go.Proofs.YtfjckgnclhpmcaaDoor.Bx Go.Proofs.YtfjckgnclhpmcaaDoor.Fs Go.Proofs.YtfjckgnclhpmcaaDoor.Bn
open Go.Proofs.YtfjckgnclhpmcaaDoor.Tm (s4 s2 s1 s4_size)

set_option maxHeartbeats 1000000

/-- a unit's text, or none -/
def UnitA (s : ByteArray) (L y i : Int) (b : Bool) : Prop := (b = true ∧ Go.Proofs.YtfjckgnclhpmcaaDoor.Nm.Form s L y i) ∨ (b = false ∧ (∀ M z j, ¬ Go.Proofs.YtfjckgnclhpmcaaDoor.Nm.Form s M z j) ∧ L = 0 ∧ y = 0 ∧ i = 0)
/-- why a level's round goes on: what is cut off, whether it was there, and what does not fit -/
theorem no_match {t : ByteArray} {L : Int} (h : ¬ Match t L) : ∃ r b, CutA t (sgn L) r b ∧ (b = false ∨ (b = true ∧ ((r.size : Int) != (dgc L : Nat)) = true) ∨ (b = true ∧ ((r.size : Int) != (dgc L : Nat)) = false ∧ ¬ AllDig r)) := by
  obtain ⟨r, b, R⟩ := cuta_ex t (sgn L)
  refine ⟨r, b, R, ?_⟩
  rcases R with ⟨rfl, e⟩ | ⟨rfl, _⟩
  · by_cases z : r.size = dgc L
    · refine .inr (.inr ⟨rfl, by rw [z]; simp, fun d => h ⟨r, e, z, d⟩⟩)
    · exact .inr (.inl ⟨rfl, bne_iff_ne.2 (by omega)⟩)
  · exact .inl rfl
theorem cut_size {t p r : ByteArray} {b : Bool} (h : CutA t p r b) : r.size ≤ t.size := by
  rcases h with ⟨_, rfl⟩ | ⟨_, rfl, _⟩
  · rw [ByteArray.size_append]; omega
  · exact Nat.le_refl _

set_option maxRecDepth 100000 in
theorem unitOf_none (s : ByteArray) (w : World) (hm : s.size ≤ maxLen) (h : s.size < 4 ∨ (4 ≤ s.size ∧ ¬ AllDig (hd4 s))) :
    Calls Tryd.prog 26 #[.string s] w fun e w' => e = .returned (.tuple #[.agg #[.int .i64 0, .int .i64 0, .int .i64 0], .bool false]) ∧ Below w.heap.size w w' := by
  have K := Tri.new w (.int .i64 0) (.int .i64 0) (.int .i64 0) 23
  have B := balloc (Below.refl _ w) (.cells #[.int .i64 0, .int .i64 0, .int .i64 0] 23)
  unfold maxLen at hm
  rcases h with h | ⟨h, nd⟩
  · go_enter Tryd.func26, Tryd.ntmps26
    go_upto_region 1 with fail
    generalize w.alloc (.cells #[.int .i64 0, .int .i64 0, .int .i64 0] 23) = W0 at *
    obtain ⟨_, k0, k1, k2, f0, f1, f2⟩ := id K
    go_wp2
    refine bodyPost_ret (v := .tuple #[.agg #[.int .i64 0, .int .i64 0, .int .i64 0], .bool false]) (by simp [results, Tryd.results26, go_sem, *]) rfl ⟨rfl, ?_⟩
    exact bset (bset (bset B (Nat.le_refl _) _ _) (Nat.le_refl _) _ _) (Nat.le_refl _) _ _
  · have z := hd_size h
    have ca := fun w => areDigits_any (hd4 s) false w (by rw [z]; unfold maxLen; omega) (.inr ⟨rfl, nd⟩)
    have e1 : ∀ w, (Instr.slice 9 (.string s) none (some (.int .i64 4)) none).run Tryd.prog w = .ok (.string (hd4 s)) w := fun w => by
      rw [run_slice_string_to_if _ _ _ _ _ Tryd.underlying9, if_pos ⟨by omega, by omega⟩]; rfl
    clear z nd
    generalize hd4 s = r at *
    go_enter Tryd.func26, Tryd.ntmps26
    go_upto_region 1 with fail
    generalize w.alloc (.cells #[.int .i64 0, .int .i64 0, .int .i64 0] 23) = W0 at *
    go_wp2_with fail
    refine (ca _).mono ?_
    rintro e w1 ⟨rfl, hb⟩
    replace K := K.kept hb
    obtain ⟨_, k0, k1, k2, f0, f1, f2⟩ := id K
    go_wp2
    refine bodyPost_ret (v := .tuple #[.agg #[.int .i64 0, .int .i64 0, .int .i64 0], .bool false]) (by simp [results, Tryd.results26, go_sem, *]) rfl ⟨rfl, ?_⟩
    exact bset (bset (bset (bthen B hb) (Nat.le_refl _) _ _) (Nat.le_refl _) _ _) (Nat.le_refl _) _ _

set_option maxRecDepth 100000 in
theorem unitOf_some (s : ByteArray) (L y i : Int) (b : Bool) (w : World) (hm : s.size ≤ maxLen) (h4 : 4 ≤ s.size) (ad : AllDig (hd4 s)) (R : UnitA s L y i b) (T : Lev w) :
    Calls Tryd.prog 26 #[.string s] w fun e w' => e = .returned (.tuple #[.agg #[.int .i64 L, .int .i64 y, .int .i64 i], .bool b]) ∧ Below w.heap.size w w' := by
  have K := Tri.new w (.int .i64 0) (.int .i64 0) (.int .i64 0) 23
  have B := balloc (Below.refl _ w) (.cells #[.int .i64 0, .int .i64 0, .int .i64 0] 23)
  replace T := T.alloc (.cells #[.int .i64 0, .int .i64 0, .int .i64 0] 23)
  have z := hd_size h4
  have ca := fun w => areDigits_any (hd4 s) true w (by rw [z]; unfold maxLen; omega) (.inl ⟨rfl, ad⟩)
  obtain ⟨yy, hyy⟩ : ∃ yy, yy = val (hd4 s) 4 := ⟨_, rfl⟩
  have cn := fun w => number_any (hd4 s) yy w (by omega) ad (by rw [z]; exact hyy)
  have zt : (tl4 s).size ≤ maxLen := by unfold tl4; rw [ByteArray.size_extract]; omega
  have e1 : ∀ w, (Instr.slice 9 (.string s) none (some (.int .i64 4)) none).run Tryd.prog w = .ok (.string (hd4 s)) w := fun w => by
    rw [run_slice_string_to_if _ _ _ _ _ Tryd.underlying9, if_pos ⟨by omega, by omega⟩]; rfl
  have e2 : ∀ w, (Instr.slice 9 (.string s) (some (.int .i64 4)) none none).run Tryd.prog w = .ok (.string (tl4 s)) w := fun w => by
    rw [run_slice_string_from_if _ _ _ _ _ Tryd.underlying9, if_pos ⟨by omega, by omega⟩]; rfl
  have H : ∃ n : Nat, n ≤ 5 ∧ (∀ k : Nat, k < n → ¬ Match (tl4 s) ((k : Int) + 1)) ∧ ((n < 5 ∧ b = true ∧ L = (n : Int) + 1 ∧ y = yy ∧ ∃ r, CutA (tl4 s) (sgn ((n : Int) + 1)) r true ∧ r.size = dgc ((n : Int) + 1) ∧ AllDig r ∧ ((dgc ((n : Int) + 1) = 0 ∧ i = 1) ∨ (0 < dgc ((n : Int) + 1) ∧ i = val r r.size))) ∨ (n = 5 ∧ b = false ∧ L = 0 ∧ y = 0 ∧ i = 0)) := by
    rcases R with ⟨rfl, f⟩ | ⟨rfl, no, rfl, rfl, rfl⟩
    · have fl := form_level f
      obtain ⟨_, p2, p3, p4, p5, p6, p7, p8⟩ := form_parts f
      refine ⟨(L - 1).toNat, by omega, fun k hk m => ?_, .inl ⟨by omega, rfl, by omega, by rw [hyy]; exact p4.symm, ?_⟩⟩
      · obtain ⟨y', i', f'⟩ := (form_iff ((k : Int) + 1) (by omega)).2 ⟨h4, ad, m⟩
        have := (form_uniq f f').1
        omega
      · rw [show (((L - 1).toNat : Nat) : Int) + 1 = L by omega]
        refine ⟨sd L i, .inl ⟨rfl, p3⟩, sd_size L i, p6, ?_⟩
        by_cases q : L = 1
        · exact .inl ⟨by rw [q]; rfl, p8 q⟩
        · refine .inr ⟨?_, by rw [sd_size]; exact (p7 q).symm⟩
          unfold dgc; rw [if_neg q]; split
          · omega
          · split <;> omega
    · refine ⟨5, by omega, fun k hk m => ?_, .inr ⟨rfl, rfl, rfl, rfl, rfl⟩⟩
      obtain ⟨y', i', f'⟩ := (form_iff ((k : Int) + 1) (by omega)).2 ⟨h4, ad, m⟩
      exact no _ _ _ f'
  obtain ⟨n, n5, nm, O⟩ := H
  have NO := Lib.hid nm
  have OO := Lib.hid O
  have LR := lev_range T
  have lt0 := T.lt
  have h4' : (4 : Int) ≤ (s.size : Int) := by omega
  unfold maxLen at hm
  clear R nm O z ad hyy T h4
  generalize hd4 s = r4 at *
  generalize tl4 s = t4 at *
  go_enter Tryd.func26, Tryd.ntmps26
  go_upto_region 1 with fail
  generalize w.alloc (.cells #[.int .i64 0, .int .i64 0, .int .i64 0] 23) = W0 at *
  go_wp2_with fail
  refine (ca _).mono ?_
  rintro e w1 ⟨rfl, hb⟩
  replace LR : w1.rangeAt 0 0 LV := fun j v h => (hb.cell (p := ⟨0, 0 + j, none⟩) lt0).trans (LR j v h)
  replace K := K.kept hb
  replace B := bthen B hb
  clear hb ca lt0
  go_upto_region 3 with fail
  apply wp_region_lit
  refine wpList_load_midG (by go_simp) _ _ rfl 0 0 rfl _ _ LR Tryd.underlying42 rfl infoLev ?_
  simp only [Act.put]
  have IX := Lib.hid lev_at
  generalize Value.agg LV.toArray = TV at *
  clear LR
  go_wp2
  have kl : w.heap.size < w1.heap.size := K.lt
  go_loopw [20] (fun X wr => ∃ k : Nat, k ≤ n ∧ X = .int .i64 (k : Int) ∧ Below w1.heap.size w1 wr) (fun X _ => 6 - (intOf X).toNat)
  case atStart => exact ⟨0, by omega, rfl, Below.refl _ _⟩
  case round =>
    obtain ⟨k, hk, rfl, B2⟩ := hrel
    have pp : (0 : Int) ≤ (k : Int) := by omega
    by_cases hlt : k < n
    · have k5 : k < 5 := by omega
      have bp : (k : Int) < 5 := by omega
      have ix := IX.out k k5
      obtain ⟨r, bb, RC, Q⟩ := no_match (NO.out k hlt)
      have rz := cut_size RC
      have cc := fun w => cut_any t4 (sgn ((k : Int) + 1)) r bb w zt RC
      have cd : ¬ AllDig r → ∀ w, Calls Tryd.prog 29 #[.string r] w fun e w' => e = .returned (.bool false) ∧ Below w.heap.size w w' := fun h w => areDigits_any r false w (by omega) (.inr ⟨rfl, h⟩)
      clear RC IX cn
      generalize lname ((k : Int) + 1) = nm at *
      generalize sgn ((k : Int) + 1) = sg at *
      generalize (dgc ((k : Int) + 1) : Nat) = dd at *
      generalize most ((k : Int) + 1) = mo at *
      go_wp2
      have X := Box.new wr #[.string nm, .string sg, .int .i64 (dd : Int), .int .i64 mo] 41
      replace B2 := balloc B2 (.cells #[.string nm, .string sg, .int .i64 (dd : Int), .int .i64 mo] 41)
      generalize wr.alloc (.cells #[.string nm, .string sg, .int .i64 (dd : Int), .int .i64 mo] 41) = W1 at *
      have x1 := X.cell 1 _ rfl
      have qC := fun d os => Calls.regrown_of (cc (Go.Sort.grow (redrawn W1 d) os))
      have k3 := cell_regrown x1
      refine wp_region_quiet_below (by kernel_rfl) (by kernel_rfl) ?_
      repeat (quiet_step (exact qC _ _))
      refine wpQuiet_nil ?_
      intro _ hw'
      obtain ⟨⟨dq, osq⟩, hw''⟩ := hw'
      subst hw''
      have hb := below_regrown W1 dq osq
      generalize Go.Sort.grow (redrawn W1 dq) osq = w9 at hb ⊢
      replace X := X.kept hb
      replace B2 := bthen B2 hb
      clear hb x1 k3 qC cc
      have x2 := X.cell 2 _ rfl
      rcases Q with rfl | ⟨rfl, z1⟩ | ⟨rfl, z1, nd⟩
      · go_wp2
        go_roundw
        case rel => exact ⟨k + 1, by omega, by go_num, B2⟩
        case measure => show 6 - ((k : Int) + 1).toNat < 6 - ((k : Int)).toNat; omega
      · go_wp2
        go_roundw
        case rel => exact ⟨k + 1, by omega, by go_num, B2⟩
        case measure => show 6 - ((k : Int) + 1).toNat < 6 - ((k : Int)).toNat; omega
      · have ce := cd nd
        clear cd nd
        go_wp2_with fail
        refine (ce _).mono ?_
        rintro e w8 ⟨rfl, hb⟩
        replace B2 := bthen B2 hb
        clear hb x2 X
        go_wp2
        go_roundw
        case rel => exact ⟨k + 1, by omega, by go_num, B2⟩
        case measure => show 6 - ((k : Int) + 1).toNat < 6 - ((k : Int)).toNat; omega
    · obtain rfl : k = n := by omega
      rcases OO.out with ⟨k5, rfl, hL, rfl, r, RC, rd, ra, ri⟩ | ⟨rfl, rfl, rfl, rfl, rfl⟩
      · have bp : (k : Int) < 5 := by omega
        have ix := IX.out k k5
        have rz := cut_size RC
        have cc := fun w => cut_any t4 (sgn ((k : Int) + 1)) r true w zt RC
        have cd := fun w => areDigits_any r true w (by omega) (.inl ⟨rfl, ra⟩)
        have db := dgc_bd ((k : Int) + 1)
        have ce : 0 < dgc ((k : Int) + 1) → i = val r r.size → ∀ w, Calls Tryd.prog 37 #[.string r] w fun e w' => e = .returned (.int .i64 i) ∧ Below w.heap.size w w' := fun _ e w => number_any r i w (by omega) ra e
        have zz : ((r.size : Int) != (dgc ((k : Int) + 1) : Nat)) = false := by rw [rd]; simp
        have HL : Hid (L = (k : Int) + 1) := Lib.hid hL
        clear RC rz IX hlt ra rd hL NO OO
        generalize lname ((k : Int) + 1) = nm at *
        generalize sgn ((k : Int) + 1) = sg at *
        generalize (dgc ((k : Int) + 1) : Nat) = dd at *
        generalize most ((k : Int) + 1) = mo at *
        go_wp2
        have X := Box.new wr #[.string nm, .string sg, .int .i64 (dd : Int), .int .i64 mo] 41
        replace B2 := balloc B2 (.cells #[.string nm, .string sg, .int .i64 (dd : Int), .int .i64 mo] 41)
        generalize wr.alloc (.cells #[.string nm, .string sg, .int .i64 (dd : Int), .int .i64 mo] 41) = W1 at *
        have x1 := X.cell 1 _ rfl
        have qC := fun d os => Calls.regrown_of (cc (Go.Sort.grow (redrawn W1 d) os))
        have k3 := cell_regrown x1
        refine wp_region_quiet_below (by kernel_rfl) (by kernel_rfl) ?_
        repeat (quiet_step (exact qC _ _))
        refine wpQuiet_nil ?_
        intro _ hw'
        obtain ⟨⟨dq, osq⟩, hw''⟩ := hw'
        subst hw''
        have hb := below_regrown W1 dq osq
        generalize Go.Sort.grow (redrawn W1 dq) osq = w9 at hb ⊢
        replace X := X.kept hb
        replace B2 := bthen B2 hb
        clear hb x1 k3 qC cc
        have x2 := X.cell 2 _ rfl
        go_wp2_with fail
        refine (cd _).mono ?_
        rintro e w8 ⟨rfl, hb⟩
        replace B2 := bthen B2 hb
        replace X := X.kept hb
        clear hb x2 cd
        have x2 := X.cell 2 _ rfl
        go_wp2_with fail
        refine (cn _).mono ?_
        rintro e w7 ⟨rfl, hb⟩
        replace B2 := bthen B2 hb
        replace X := X.kept hb
        replace K := K.kept B2
        clear hb x2 cn
        have N := Tri.new w7 (.int .i64 ((k : Int) + 1)) (.int .i64 y) (.int .i64 1) 23
        replace K := K.alloc (.cells #[.int .i64 ((k : Int) + 1), .int .i64 y, .int .i64 1] 23)
        replace X := X.alloc (.cells #[.int .i64 ((k : Int) + 1), .int .i64 y, .int .i64 1] 23)
        have x2 := X.cell 2 _ rfl
        have BA := balloc (bthen B B2) (.cells #[.int .i64 ((k : Int) + 1), .int .i64 y, .int .i64 1] 23)
        have ls : w.heap.size < w7.heap.size := by have := B2.size; omega
        rcases ri with ⟨rfl, rfl⟩ | ⟨d0, e⟩
        · go_upto_region 9 with fail
          generalize w7.alloc (.cells #[.int .i64 ((k : Int) + 1), .int .i64 y, .int .i64 1] 23) = W9 at *
          obtain ⟨_, k0, k1, k2, f0, f1, f2⟩ := id K
          obtain ⟨_, n0, n1, n2, _, _, _⟩ := id N
          go_wp2
          refine bodyPost_ret (v := .tuple #[.agg #[.int .i64 L, .int .i64 y, .int .i64 1], .bool true]) (by rw [HL.out]; simp [results, Tryd.results26, go_sem, *]) rfl ⟨rfl, ?_⟩
          exact bset (bset (bset BA (Nat.le_refl _) _ _) (Nat.le_refl _) _ _) (Nat.le_refl _) _ _
        · have cf := ce d0 e
          clear ce e
          have dp : (0 : Int) < (dd : Int) := by omega
          go_upto_region 9 with fail
          generalize w7.alloc (.cells #[.int .i64 ((k : Int) + 1), .int .i64 y, .int .i64 1] 23) = W9 at *
          go_wp2_with fail
          refine (cf _).mono ?_
          rintro e w6 ⟨rfl, hb⟩
          replace K := K.kept hb
          replace N := N.kept hb
          replace BA := bthen BA hb
          have ls2 : ¬ w7.heap.size = w.heap.size := by omega
          have ls3 : ¬ w.heap.size = w7.heap.size := by omega
          have ls4 : w.heap.size ≤ w7.heap.size := by omega
          obtain ⟨_, k0, k1, k2, f0, f1, f2⟩ := id K
          obtain ⟨_, n0, n1, n2, g0, g1, g2⟩ := id N
          go_wp2
          refine bodyPost_ret (v := .tuple #[.agg #[.int .i64 L, .int .i64 y, .int .i64 i], .bool true]) (by rw [HL.out]; simp [results, Tryd.results26, go_sem, *]) rfl ⟨rfl, ?_⟩
          exact bset (bset (bset (bset BA ls4 _ _) (Nat.le_refl _) _ _) (Nat.le_refl _) _ _) (Nat.le_refl _) _ _
      · replace K := K.kept B2
        replace B := bthen B B2
        obtain ⟨_, k0, k1, k2, f0, f1, f2⟩ := id K
        go_wp2
        refine bodyPost_ret (v := .tuple #[.agg #[.int .i64 0, .int .i64 0, .int .i64 0], .bool false]) (by simp [results, Tryd.results26, go_sem, *]) rfl ⟨rfl, ?_⟩
        exact bset (bset (bset B (Nat.le_refl _) _ _) (Nat.le_refl _) _ _) (Nat.le_refl _) _ _

theorem unita_ex (s : ByteArray) : ∃ L y i b, UnitA s L y i b := by
  by_cases h : ∃ M z j, Go.Proofs.YtfjckgnclhpmcaaDoor.Nm.Form s M z j
  · obtain ⟨M, z, j, h⟩ := h
    exact ⟨M, z, j, true, .inl ⟨rfl, h⟩⟩
  · exact ⟨0, 0, 0, false, .inr ⟨rfl, fun M z j q => h ⟨M, z, j, q⟩, rfl, rfl, rfl⟩⟩
theorem unitOf_any (s : ByteArray) (L y i : Int) (b : Bool) (w : World) (hm : s.size ≤ maxLen) (R : UnitA s L y i b) (T : Lev w) :
    Calls Tryd.prog 26 #[.string s] w fun e w' => e = .returned (.tuple #[.agg #[.int .i64 L, .int .i64 y, .int .i64 i], .bool b]) ∧ Below w.heap.size w w' := by
  by_cases h4 : 4 ≤ s.size
  · by_cases ad : AllDig (hd4 s)
    · exact unitOf_some s L y i b w hm h4 ad R T
    · rcases R with ⟨rfl, f⟩ | ⟨rfl, _, rfl, rfl, rfl⟩
      · exact absurd (form_parts f).2.2.2.2.1 ad
      · exact unitOf_none s w hm (.inr ⟨h4, ad⟩)
  · rcases R with ⟨rfl, f⟩ | ⟨rfl, _, rfl, rfl, rfl⟩
    · exact absurd (form_parts f).1 h4
    · exact unitOf_none s w hm (.inl (by omega))

set_option maxRecDepth 100000 in
theorem LParse_any (s : ByteArray) (L y i er : Int) (w : World) (hm : s.size ≤ maxLen) (R : ParseA s L y i er) (T : Lev w) :
    Calls Tryd.prog 12 #[.string s] w fun e w' => e = .returned (.tuple #[.agg #[.int .i64 L, .int .i64 y, .int .i64 i], .int .i64 er]) ∧ Below w.heap.size w w' := by
  have K := Tri.new w (.int .i64 0) (.int .i64 0) (.int .i64 0) 23
  have B := balloc (Below.refl _ w) (.cells #[.int .i64 0, .int .i64 0, .int .i64 0] 23)
  replace T := T.alloc (.cells #[.int .i64 0, .int .i64 0, .int .i64 0] 23)
  have X : ∃ M z j b, UnitA s M z j b ∧ ((b = true ∧ ((WrOk M z j ∧ L = M ∧ y = z ∧ i = j ∧ er = 0) ∨ (¬ WrOk M z j ∧ L = 0 ∧ y = 0 ∧ i = 0 ∧ er = 13))) ∨ (b = false ∧ M = 0 ∧ z = 0 ∧ j = 0 ∧ L = 0 ∧ y = 0 ∧ i = 0 ∧ er = 5)) := by
    rcases R with ⟨f, wo, rfl⟩ | ⟨M, z, j, f, no, rfl, rfl, rfl, rfl⟩ | ⟨no, rfl, rfl, rfl, rfl⟩
    · exact ⟨L, y, i, true, .inl ⟨rfl, f⟩, .inl ⟨rfl, .inl ⟨wo, rfl, rfl, rfl, rfl⟩⟩⟩
    · exact ⟨M, z, j, true, .inl ⟨rfl, f⟩, .inl ⟨rfl, .inr ⟨no, rfl, rfl, rfl, rfl⟩⟩⟩
    · exact ⟨0, 0, 0, false, .inr ⟨rfl, no, rfl, rfl, rfl⟩, .inr ⟨rfl, rfl, rfl, rfl, rfl, rfl, rfl, rfl⟩⟩
  obtain ⟨M, z, j, b, A, O⟩ := X
  have cu := fun w T => unitOf_any s M z j b w hm A T
  clear R A
  rcases O with ⟨rfl, O⟩ | ⟨rfl, rfl, rfl, rfl, rfl, rfl, rfl, rfl⟩
  · rcases O with ⟨wo, rfl, rfl, rfl, rfl⟩ | ⟨wo, rfl, rfl, rfl, rfl⟩
    · have cc := fun w T => can_any L y i true w (decide_eq_true wo).symm T
      clear wo
      go_enter Tryd.func12, Tryd.ntmps12
      go_upto_region 1 with fail
      generalize w.alloc (.cells #[.int .i64 0, .int .i64 0, .int .i64 0] 23) = W0 at *
      go_wp2_with fail
      refine (cu _ T).mono ?_
      rintro e w1 ⟨rfl, hb⟩
      have N := Tri.new w1 (.int .i64 L) (.int .i64 y) (.int .i64 i) 23
      replace K := (K.kept hb).alloc (.cells #[.int .i64 L, .int .i64 y, .int .i64 i] 23)
      replace T := (T.kept hb).alloc (.cells #[.int .i64 L, .int .i64 y, .int .i64 i] 23)
      replace B := balloc (bthen B hb) (.cells #[.int .i64 L, .int .i64 y, .int .i64 i] 23)
      clear hb cu
      go_upto_region 2 with fail
      generalize w1.alloc (.cells #[.int .i64 L, .int .i64 y, .int .i64 i] 23) = W1 at *
      obtain ⟨_, n0, n1, n2, _, _, _⟩ := id N
      go_wp2_with fail
      refine (cc _ T).mono ?_
      rintro e w2 ⟨rfl, hb⟩
      replace N := N.kept hb
      replace K := K.kept hb
      replace B := bthen B hb
      clear hb cc n0 n1 n2
      obtain ⟨_, n0, n1, n2, _, _, _⟩ := id N
      obtain ⟨_, k0, k1, k2, f0, f1, f2⟩ := id K
      go_wp2
      refine bodyPost_ret (v := .tuple #[.agg #[.int .i64 L, .int .i64 y, .int .i64 i], .int .i64 0]) (by simp [results, Tryd.results12, go_sem, *]) rfl ⟨rfl, ?_⟩
      exact bset (bset (bset B (Nat.le_refl _) _ _) (Nat.le_refl _) _ _) (Nat.le_refl _) _ _
    · have cc := fun w T => can_any M z j false w (decide_eq_false wo).symm T
      clear wo
      go_enter Tryd.func12, Tryd.ntmps12
      go_upto_region 1 with fail
      generalize w.alloc (.cells #[.int .i64 0, .int .i64 0, .int .i64 0] 23) = W0 at *
      go_wp2_with fail
      refine (cu _ T).mono ?_
      rintro e w1 ⟨rfl, hb⟩
      have N := Tri.new w1 (.int .i64 M) (.int .i64 z) (.int .i64 j) 23
      replace K := (K.kept hb).alloc (.cells #[.int .i64 M, .int .i64 z, .int .i64 j] 23)
      replace T := (T.kept hb).alloc (.cells #[.int .i64 M, .int .i64 z, .int .i64 j] 23)
      replace B := balloc (bthen B hb) (.cells #[.int .i64 M, .int .i64 z, .int .i64 j] 23)
      clear hb cu
      go_upto_region 2 with fail
      generalize w1.alloc (.cells #[.int .i64 M, .int .i64 z, .int .i64 j] 23) = W1 at *
      obtain ⟨_, n0, n1, n2, _, _, _⟩ := id N
      go_wp2_with fail
      refine (cc _ T).mono ?_
      rintro e w2 ⟨rfl, hb⟩
      replace K := K.kept hb
      replace B := bthen B hb
      clear hb cc n0 n1 n2
      obtain ⟨_, k0, k1, k2, f0, f1, f2⟩ := id K
      go_wp2
      refine bodyPost_ret (v := .tuple #[.agg #[.int .i64 0, .int .i64 0, .int .i64 0], .int .i64 13]) (by simp [results, Tryd.results12, go_sem, *]) rfl ⟨rfl, ?_⟩
      exact bset (bset (bset B (Nat.le_refl _) _ _) (Nat.le_refl _) _ _) (Nat.le_refl _) _ _
  · go_enter Tryd.func12, Tryd.ntmps12
    go_upto_region 1 with fail
    generalize w.alloc (.cells #[.int .i64 0, .int .i64 0, .int .i64 0] 23) = W0 at *
    go_wp2_with fail
    refine (cu _ T).mono ?_
    rintro e w1 ⟨rfl, hb⟩
    replace K := K.kept hb
    replace B := bthen B hb
    clear hb cu
    obtain ⟨_, k0, k1, k2, f0, f1, f2⟩ := id K
    go_wp2
    refine bodyPost_ret (v := .tuple #[.agg #[.int .i64 0, .int .i64 0, .int .i64 0], .int .i64 5]) (by simp [results, Tryd.results12, go_sem, *]) rfl ⟨rfl, ?_⟩
    exact balloc (bset (bset (bset B (Nat.le_refl _) _ _) (Nat.le_refl _) _ _) (Nat.le_refl _) _ _) _

end Go.Proofs.YtfjckgnclhpmcaaDoor.Np

/- live of layer 18, and LabelBack's and LabelOrder's walks. -/
namespace Go.Proofs.YtfjckgnclhpmcaaDoor.Nl
set_option linter.unusedSimpArgs false
set_option linter.unusedVariables false
open Go.RowKit Go.Proofs.YtfjckgnclhpmcaaDoor.Pr Go.Proofs.YtfjckgnclhpmcaaDoor.Nm Go.Proofs.YtfjckgnclhpmcaaDoor.Wm Go.Proofs.YtfjckgnclhpmcaaDoor.Wc Go.Proofs.YtfjckgnclhpmcaaDoor.Bx Go.Proofs.YtfjckgnclhpmcaaDoor.Fs Go.Proofs.YtfjckgnclhpmcaaDoor.Bn Go.Proofs.YtfjckgnclhpmcaaDoor.Np
open Go.Op (bytesLess)

set_option maxHeartbeats 1000000

def w53 : ByteArray := ⟨#[50, 48, 50, 51, 45, 87, 53, 51]⟩
theorem w53_is : w53 = ustr 5 2023 53 := by rw [ustr5]; rfl
theorem w53_ok : WrOk 5 2023 53 := by unfold WrOk; exact ⟨by decide, by decide, by decide, by decide, by decide, by decide⟩

theorem nlive_ok (w : World) (T : Lev w) : Calls Tryd.prog 9 #[] w fun e w' => e = .returned (.bool true) ∧ Below w.heap.size w w' := by
  have c1 : ∀ w, Lev w → Calls Tryd.prog 10 #[.agg #[.int .i64 5, .int .i64 2023, .int .i64 53]] w fun e w' => e = .returned (.tuple #[.string ⟨#[50, 48, 50, 51, 45, 87, 53, 51]⟩, .int .i64 0]) ∧ Below w.heap.size w w' :=
    fun w T => LPrint_any 5 2023 53 w53 0 w (.inl ⟨w53_ok, w53_is, rfl⟩) T
  have c2 : ∀ w, Lev w → Calls Tryd.prog 12 #[.string ⟨#[50, 48, 50, 51, 45, 87, 53, 51]⟩] w fun e w' => e = .returned (.tuple #[.agg #[.int .i64 5, .int .i64 2023, .int .i64 53], .int .i64 0]) ∧ Below w.heap.size w w' :=
    fun w T => LParse_any w53 5 2023 53 0 w (by unfold maxLen; decide) (.inl ⟨by rw [w53_is]; exact form_of w53_ok, w53_ok, rfl⟩) T
  go_enter Tryd.func9, Tryd.ntmps9
  go_wp2_with fail
  refine (c1 _ T).mono ?_
  rintro e w1 ⟨rfl, hb⟩
  replace T := T.kept hb
  go_wp2_with fail
  refine (c2 _ T).mono ?_
  rintro e w2 ⟨rfl, hb2⟩
  go_wp2
  go_ret
  exact ⟨by simp, balloc (bthen hb hb2) _⟩

set_option maxRecDepth 100000 in
theorem back_walk (L y i : Int) (s : ByteArray) (w : World) (wL : (Lit.int .i64 L).wf = true) (wy : (Lit.int .i64 y).wf = true) (wi : (Lit.int .i64 i).wf = true) (ws : s.size ≤ maxLen) (tb : Lev w) :
    Calls Tryd.prog 5 #[.agg #[.int .i64 L, .int .i64 y, .int .i64 i], .string s] w fun e w' => e = .returned (.bool true) ∧ Below w.heap.size w w' := by
  have T := tb
  have U := Tri.new w (.int .i64 L) (.int .i64 y) (.int .i64 i) 23
  replace T := T.alloc (.cells #[.int .i64 L, .int .i64 y, .int .i64 i] 23)
  have B := balloc (Below.refl _ w) (.cells #[.int .i64 L, .int .i64 y, .int .i64 i] 23)
  obtain ⟨t, e1, P1⟩ := printa_ex L y i
  obtain ⟨M, z, j, e2, P2⟩ := parsea_ex s
  have c1 := fun w T => LPrint_any L y i t e1 w P1 T
  have c3 := fun w T => LParse_any s M z j e2 w ws P2 T
  have tz : t.size ≤ maxLen := by
    rcases P1 with ⟨wo, rfl, _⟩ | ⟨_, rfl, _⟩
    · unfold ustr
      rw [ByteArray.size_append, ByteArray.size_append, sd_size, sgn_size ⟨wo.2.2.1, wo.2.2.2.1⟩]
      have := dgc_bd L
      have h4 : (Go.Proofs.YtfjckgnclhpmcaaDoor.Tm.s4 y).size = 4 := rfl
      rw [h4]; unfold maxLen; split <;> omega
    · unfold maxLen; decide
  have X : (e1 = 0 ∧ ∀ w, Lev w → Calls Tryd.prog 12 #[.string t] w fun e w' => e = .returned (.tuple #[.agg #[.int .i64 L, .int .i64 y, .int .i64 i], .int .i64 0]) ∧ Below w.heap.size w w') ∨ (e1 = 1 ∧ t = ⟨#[]⟩) := by
    rcases P1 with ⟨wo, rfl, rfl⟩ | ⟨_, rfl, rfl⟩
    · exact .inl ⟨rfl, fun w T => LParse_any _ L y i 0 w tz (.inl ⟨form_of wo, wo, rfl⟩) T⟩
    · exact .inr ⟨rfl, rfl⟩
  have Y : (e2 = 0 ∧ ∀ w, Lev w → Calls Tryd.prog 10 #[.agg #[.int .i64 M, .int .i64 z, .int .i64 j]] w fun e w' => e = .returned (.tuple #[.string s, .int .i64 0]) ∧ Below w.heap.size w w') ∨ ((e2 = 5 ∨ e2 = 13) ∧ M = 0 ∧ z = 0 ∧ j = 0) := by
    rcases P2 with ⟨f, wo, rfl⟩ | ⟨_, _, _, _, _, rfl, rfl, rfl, rfl⟩ | ⟨_, rfl, rfl, rfl, rfl⟩
    · exact .inl ⟨rfl, fun w T => LPrint_any M z j s 0 w (.inl ⟨wo, f.2.2.2, rfl⟩) T⟩
    · exact .inr ⟨.inr rfl, rfl, rfl, rfl⟩
    · exact .inr ⟨.inl rfl, rfl, rfl, rfl⟩
  clear P1 P2 tz ws
  rcases X with ⟨rfl, c2⟩ | ⟨rfl, rfl⟩
  · rcases Y with ⟨rfl, c4⟩ | ⟨rfl | rfl, rfl, rfl, rfl⟩
    all_goals
      go_enter Tryd.func5, Tryd.ntmps5
      go_upto_region 1 with fail
      generalize w.alloc (.cells #[.int .i64 L, .int .i64 y, .int .i64 i] 23) = W0 at *
      go_wp2_with fail
      refine (nlive_ok _ T).mono ?_
      rintro e w1 ⟨rfl, hb⟩
      replace U := U.kept hb
      replace B := bthen B hb
      replace T := T.kept hb
      clear hb
      obtain ⟨_, u0, u1, u2, _, _, _⟩ := id U
      go_wp2_with fail
      refine (c1 _ T).mono ?_
      rintro e w2 ⟨rfl, hb⟩
      replace U := U.kept hb
      replace B := bthen B hb
      replace T := T.kept hb
      clear hb u0 u1 u2
      go_wp2_with fail
      refine (c2 _ T).mono ?_
      rintro e w3 ⟨rfl, hb⟩
      replace U := (U.kept hb).alloc (.cells #[.int .i64 L, .int .i64 y, .int .i64 i] 23)
      replace B := balloc (bthen B hb) (.cells #[.int .i64 L, .int .i64 y, .int .i64 i] 23)
      replace T := (T.kept hb).alloc (.cells #[.int .i64 L, .int .i64 y, .int .i64 i] 23)
      clear hb
      obtain ⟨_, u0, u1, u2, _, _, _⟩ := id U
      go_wp2_with fail
      refine (c3 _ T).mono ?_
      rintro e w4 ⟨rfl, hb⟩
      clear u0 u1 u2
      replace B := bthen B hb
      replace T := T.kept hb
      clear hb
      first
        | (go_wp2_with fail
           refine (c4 _ (T.alloc _)).mono ?_
           rintro e w5 ⟨rfl, hb⟩
           replace B := bthen (balloc B _) hb
           go_wp2
           go_ret
           exact ⟨by simp, B⟩)
        | (go_wp2
           go_ret
           exact ⟨by simp, balloc B _⟩)
  · rcases Y with ⟨rfl, c4⟩ | ⟨rfl | rfl, rfl, rfl, rfl⟩
    all_goals
      go_enter Tryd.func5, Tryd.ntmps5
      go_upto_region 1 with fail
      generalize w.alloc (.cells #[.int .i64 L, .int .i64 y, .int .i64 i] 23) = W0 at *
      go_wp2_with fail
      refine (nlive_ok _ T).mono ?_
      rintro e w1 ⟨rfl, hb⟩
      replace U := U.kept hb
      replace B := bthen B hb
      replace T := T.kept hb
      clear hb
      obtain ⟨_, u0, u1, u2, _, _, _⟩ := id U
      go_wp2_with fail
      refine (c1 _ T).mono ?_
      rintro e w2 ⟨rfl, hb⟩
      replace B := bthen B hb
      replace T := T.kept hb
      clear hb u0 u1 u2
      go_wp2_with fail
      refine (c3 _ T).mono ?_
      rintro e w4 ⟨rfl, hb⟩
      replace B := bthen B hb
      replace T := T.kept hb
      clear hb
      first
        | (go_wp2_with fail
           refine (c4 _ (T.alloc _)).mono ?_
           rintro e w5 ⟨rfl, hb⟩
           replace B := bthen (balloc B _) hb
           go_wp2
           go_ret
           exact ⟨by simp, B⟩)
        | (go_wp2
           go_ret
           exact ⟨by simp, balloc B _⟩)

end Go.Proofs.YtfjckgnclhpmcaaDoor.Nl

