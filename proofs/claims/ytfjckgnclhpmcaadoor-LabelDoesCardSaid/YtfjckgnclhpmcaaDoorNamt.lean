/- What Amount and Small of package label come to. -/
import Derived.Test.YtfjckgnclhpmcaaDoorNlev2
namespace Go.Proofs.YtfjckgnclhpmcaaDoor.Np
set_option linter.unusedSimpArgs false
set_option linter.unusedVariables false
open Go.RowKit Go.Proofs.YtfjckgnclhpmcaaDoor.Pr Go.Proofs.YtfjckgnclhpmcaaDoor.Nm Go.Proofs.YtfjckgnclhpmcaaDoor.Wm Go.Proofs.YtfjckgnclhpmcaaDoor.Wc Go.Proofs.YtfjckgnclhpmcaaDoor.Bx

set_option maxHeartbeats 2000000

theorem neg_true {s : ByteArray} (h : neg s = true) : 0 < s.size ∧ s = ⟨#[45]⟩ ++ rest s := by
  unfold neg at h
  simp only [Bool.and_eq_true, decide_eq_true_eq, beq_iff_eq] at h
  have hn : neg s = true := by unfold neg; simp [h.1, h.2]
  refine ⟨h.1, ?_⟩
  unfold rest
  rw [if_pos hn]
  have e : s.extract 0 1 = ⟨#[45]⟩ := by
    have h2 := h.2
    rw [byt_at h.1] at h2
    obtain ⟨⟨l⟩⟩ := s
    match l, h.1, h2 with
    | a :: l, _, h2 =>
      have ha : a = 45 := UInt8.toNat_inj.1 (by show a.toNat = 45; have : ((a.toNat : Nat) : Int) = 45 := h2; omega)
      subst ha
      exact ByteArray.extract_mk _ 0 1
  rw [← e, ByteArray.extract_append_extract, Nat.min_eq_left (by omega), Nat.max_eq_right (by omega)]
  exact ByteArray.extract_zero_size.symm
theorem neg_false {s : ByteArray} (h : neg s = false) : rest s = s ∧ ∀ u, s ≠ ⟨#[45]⟩ ++ u := by
  refine ⟨by unfold rest; rw [h]; rfl, fun u e => ?_⟩
  have hz : 0 < s.size := by rw [e, ByteArray.size_append]; show 0 < 1 + _; omega
  have hb : byt s 0 = 45 := by rw [e, byt_app_left (by show 0 < 1; omega)]; rfl
  unfold neg at h
  rw [hb, decide_eq_true hz] at h
  exact absurd h (by decide)
theorem cut_minus (s : ByteArray) : CutA s ⟨#[45]⟩ (rest s) (neg s) := by
  rcases hn : neg s with _ | _
  · exact .inr ⟨rfl, (neg_false hn).1, (neg_false hn).2⟩
  · exact .inl ⟨rfl, (neg_true hn).2⟩
theorem rest_size (s : ByteArray) : (rest s).size ≤ s.size := by
  rcases hn : neg s with _ | _
  · rw [(neg_false hn).1]; exact Nat.le_refl _
  · have := congrArg ByteArray.size (neg_true hn).2
    rw [ByteArray.size_append] at this
    omega

theorem same_48 (s : ByteArray) : (s.toList == [48]) = decide (s = zeroT) := by
  rw [show ([48] : List UInt8) = (⟨#[48]⟩ : ByteArray).toList from (ByteArray.toList_mk [48]).symm]
  exact same_list s ⟨#[48]⟩

set_option maxRecDepth 100000 in
theorem Amount_any (s : ByteArray) (v er : Int) (w : World) (hm : s.size ≤ maxLen) (R : AmountA s v er) :
    Calls Tryd.prog 16 #[.string s] w fun e w' => e = .returned (.tuple #[.int .i64 v, .int .i64 er]) ∧ Below w.heap.size w w' := by
  have cp := fun w => cut_any s ⟨#[45]⟩ (rest s) (neg s) w hm (cut_minus s)
  have rs := rest_size s
  have hr : (rest s).size ≤ maxLen := Nat.le_trans rs hm
  have P : ∃ b : Bool, b = neg s := ⟨_, rfl⟩
  by_cases ad : AllDig (rest s)
  · have ca := fun w => areDigits_any (rest s) true w hr (.inl ⟨rfl, ad⟩)
    by_cases z : 0 < (rest s).size
    · have d1 : ¬ (rest s).toList = [] := fun e => by
        have : (rest s).size = 0 := by
          rw [ByteArray.toList_eq] at e
          have := congrArg List.length e
          simpa using this
        omega
      have d2 : (rest s).toList.isEmpty = false := by
        rcases h : (rest s).toList with _ | ⟨x, l⟩
        · exact absurd h d1
        · rfl
      by_cases q : byt (rest s) 0 = 48 ∧ s ≠ zeroT
      · have R' : v = 0 ∧ er = 5 := by
          rcases R with ⟨h, _⟩ | ⟨h, _⟩ | ⟨_, h⟩
          · exact absurd (h.2.2 q.1) q.2
          · exact absurd (h.2.2 q.1) q.2
          · exact h
        obtain ⟨rfl, rfl⟩ := R'
        have e0 : (((rest s)[0]'z).toNat : Int) = 48 := by rw [← byt_at z]; exact q.1
        have e1 : (s.toList == [48]) = false := (same_48 s).trans (decide_eq_false q.2)
        have z' : (0 : Int) < ((rest s).size : Int) := by omega
        have e2 : ((((rest s)[0]'z).toNat : Int) == 48) = true := by rw [e0]; rfl
        generalize rest s = r at *
        generalize neg s = ng at *
        clear R q ad hm hr rs P e0
        go_enter Tryd.func16, Tryd.ntmps16
        go_wp2_with fail
        refine (cp _).mono ?_
        rintro e w1 ⟨rfl, hb⟩
        go_wp2_with fail
        refine (ca _).mono ?_
        rintro e w2 ⟨rfl, hb2⟩
        go_wp2
        go_ret2
        exact ⟨rfl, bthen hb hb2⟩
      · have dk : DecOk s := ⟨z, ad, fun e => by
          by_cases h : s = zeroT
          · exact h
          · exact absurd ⟨e, h⟩ q⟩
        have Q : ((((rest s)[0]'z).toNat : Int) == 48) = false ∨ (((((rest s)[0]'z).toNat : Int) == 48) = true ∧ (s.toList == [48]) = true) := by
          by_cases h : byt (rest s) 0 = 48
          · have := dk.2.2 h
            refine .inr ⟨?_, ?_⟩
            · rw [byt_at z] at h; exact beq_iff_eq.2 h
            · exact (same_48 s).trans (decide_eq_true this)
          · refine .inl ?_
            rw [byt_at z] at h; exact beq_eq_false_iff_ne.2 h
        have z' : (0 : Int) < ((rest s).size : Int) := by omega
        have vn := val_nonneg ad (rest s).size (Nat.le_refl _)
        have E : ∃ n, n = val (rest s) (rest s).size := ⟨_, rfl⟩
        obtain ⟨n, hn⟩ := E
        have X : (Low n ∧ ((neg s = true ∧ v = -n ∧ er = 0) ∨ (neg s = false ∧ n ≠ 9223372036854775808 ∧ v = n ∧ er = 0) ∨ (neg s = false ∧ n = 9223372036854775808 ∧ v = 0 ∧ er = 2))) ∨ (¬ Low n ∧ v = 0 ∧ er = 2) := by
          unfold AmountA dval Fit64 at R
          rw [← hn] at R vn
          unfold Low
          rcases hg : neg s with _ | _
          · rw [hg] at R
            simp only [Bool.false_eq_true, if_false] at R
            rcases R with ⟨_, a, b, d⟩ | ⟨_, a, b, d⟩ | ⟨h, _⟩
            · exact .inl ⟨by omega, .inr (.inl ⟨rfl, by omega, b, d⟩)⟩
            · by_cases h : n = 9223372036854775808
              · exact .inl ⟨by omega, .inr (.inr ⟨rfl, h, b, d⟩)⟩
              · exact .inr ⟨by omega, b, d⟩
            · exact absurd dk h
          · rw [hg] at R
            simp only [if_true] at R
            rcases R with ⟨_, a, b, d⟩ | ⟨_, a, b, d⟩ | ⟨h, _⟩
            · exact .inl ⟨by omega, .inl ⟨rfl, b, d⟩⟩
            · exact .inr ⟨by omega, b, d⟩
            · exact absurd dk h
        rcases X with ⟨lo, X⟩ | ⟨hi, rfl, rfl⟩
        · have co := fun w => opposite_yes (rest s) (-n) w hr ad (by rw [← hn]; exact lo) (by rw [hn])
          unfold Low at lo
          rw [← hn] at vn
          clear R q ad hm hr rs P dk hn
          have cy : n ≠ 9223372036854775808 → ∀ w, Calls Tryd.prog 31 #[.int .i64 (-n)] w fun e w' => e = .returned (.tuple #[.int .i64 n, .int .i64 0]) ∧ w = w' := fun h w => by
            have := neg_yes (-n) w (by unfold Fit; omega) (by omega)
            rwa [Int.neg_neg] at this
          have cn : n = 9223372036854775808 → ∀ w, Calls Tryd.prog 31 #[.int .i64 (-n)] w fun e w' => e = .returned (.tuple #[.int .i64 0, .int .i64 2]) ∧ w = w' := fun h w => by
            rw [h]; exact neg_no w
          generalize -n = nn at *
          generalize rest s = r at *
          generalize neg s = ng at *
          rcases X with ⟨rfl, rfl, rfl⟩ | ⟨rfl, h, rfl, rfl⟩ | ⟨rfl, h, rfl, rfl⟩
          · clear cy cn
            rcases Q with q0 | ⟨q0, q1⟩
            all_goals
              go_enter Tryd.func16, Tryd.ntmps16
              go_wp2_with fail
              refine (cp _).mono ?_
              rintro e w1 ⟨rfl, hb⟩
              go_wp2_with fail
              refine (ca _).mono ?_
              rintro e w2 ⟨rfl, hb2⟩
              go_wp2_with fail
              refine (co _).mono ?_
              rintro e w3 ⟨rfl, hb3⟩
              go_wp2
              go_ret2
              exact ⟨rfl, bthen (bthen hb hb2) hb3⟩
          · have cg := cy h
            clear cy cn h
            rcases Q with q0 | ⟨q0, q1⟩
            all_goals
              go_enter Tryd.func16, Tryd.ntmps16
              go_wp2_with fail
              refine (cp _).mono ?_
              rintro e w1 ⟨rfl, hb⟩
              go_wp2_with fail
              refine (ca _).mono ?_
              rintro e w2 ⟨rfl, hb2⟩
              go_wp2_with fail
              refine (co _).mono ?_
              rintro e w3 ⟨rfl, hb3⟩
              go_wp2_with fail
              refine (cg _).mono ?_
              rintro e w4 ⟨rfl, rfl⟩
              go_wp2
              go_ret2
              exact ⟨rfl, bthen (bthen hb hb2) hb3⟩
          · have cg := cn h
            clear cy cn h
            rcases Q with q0 | ⟨q0, q1⟩
            all_goals
              go_enter Tryd.func16, Tryd.ntmps16
              go_wp2_with fail
              refine (cp _).mono ?_
              rintro e w1 ⟨rfl, hb⟩
              go_wp2_with fail
              refine (ca _).mono ?_
              rintro e w2 ⟨rfl, hb2⟩
              go_wp2_with fail
              refine (co _).mono ?_
              rintro e w3 ⟨rfl, hb3⟩
              go_wp2_with fail
              refine (cg _).mono ?_
              rintro e w4 ⟨rfl, rfl⟩
              go_wp2
              go_ret2
              exact ⟨rfl, bthen (bthen hb hb2) hb3⟩
        · have co := fun w => opposite_no (rest s) w hr ad (by rw [← hn]; exact hi)
          clear R q ad hm hr rs P dk hn hi vn
          generalize rest s = r at *
          generalize neg s = ng at *
          rcases Q with q0 | ⟨q0, q1⟩
          all_goals
            go_enter Tryd.func16, Tryd.ntmps16
            go_wp2_with fail
            refine (cp _).mono ?_
            rintro e w1 ⟨rfl, hb⟩
            go_wp2_with fail
            refine (ca _).mono ?_
            rintro e w2 ⟨rfl, hb2⟩
            go_wp2_with fail
            refine (co _).mono ?_
            rintro e w3 ⟨rfl, hb3⟩
            go_wp2
            go_ret2
            exact ⟨rfl, bthen (bthen hb hb2) hb3⟩
    · have R' : v = 0 ∧ er = 5 := by
        rcases R with ⟨h, _⟩ | ⟨h, _⟩ | ⟨_, h⟩
        · exact absurd h.1 z
        · exact absurd h.1 z
        · exact h
      obtain ⟨rfl, rfl⟩ := R'
      have d1 : (rest s).toList = [] := by
        rw [ByteArray.toList_eq]
        have : (rest s).size = 0 := by omega
        exact List.eq_nil_of_length_eq_zero (by simpa using this)
      generalize rest s = r at *
      generalize neg s = ng at *
      clear R ad hm hr rs P z
      go_enter Tryd.func16, Tryd.ntmps16
      go_wp2_with fail
      refine (cp _).mono ?_
      rintro e w1 ⟨rfl, hb⟩
      go_wp2_with fail
      refine (ca _).mono ?_
      rintro e w2 ⟨rfl, hb2⟩
      go_wp2
      go_ret2
      exact ⟨rfl, bthen hb hb2⟩
  · have R' : v = 0 ∧ er = 5 := by
      rcases R with ⟨h, _⟩ | ⟨h, _⟩ | ⟨_, h⟩
      · exact absurd h.2.1 ad
      · exact absurd h.2.1 ad
      · exact h
    obtain ⟨rfl, rfl⟩ := R'
    have ca := fun w => areDigits_any (rest s) false w hr (.inr ⟨rfl, ad⟩)
    generalize rest s = r at *
    generalize neg s = ng at *
    clear R ad hm hr rs P
    go_enter Tryd.func16, Tryd.ntmps16
    go_wp2_with fail
    refine (cp _).mono ?_
    rintro e w1 ⟨rfl, hb⟩
    go_wp2_with fail
    refine (ca _).mono ?_
    rintro e w2 ⟨rfl, hb2⟩
    go_wp2
    go_ret2
    exact ⟨rfl, bthen hb hb2⟩

theorem amount_er {s : ByteArray} {v er : Int} (h : AmountA s v er) : (er = 0 ∧ Fit64 v) ∨ (v = 0 ∧ (er = 2 ∨ er = 5)) := by
  rcases h with ⟨_, f, rfl, rfl⟩ | ⟨_, _, rfl, rfl⟩ | ⟨_, rfl, rfl⟩
  · exact .inl ⟨rfl, f⟩
  · exact .inr ⟨rfl, .inl rfl⟩
  · exact .inr ⟨rfl, .inr rfl⟩

set_option maxRecDepth 100000 in
theorem Small_any (s : ByteArray) (v er : Int) (w : World) (hm : s.size ≤ maxLen) (R : SmallA s v er) :
    Calls Tryd.prog 18 #[.string s] w fun e w' => e = .returned (.tuple #[.int .i64 v, .int .i64 er]) ∧ Below w.heap.size w w' := by
  obtain ⟨n, e, A, O⟩ := R
  have ca := fun w => Amount_any s n e w hm A
  have ae := amount_er A
  unfold Fit64 at ae
  have O2 : ((e = 2 ∨ e = 5) ∧ v = 0 ∧ er = e) ∨ (e = 0 ∧ n < -999999999 ∧ v = 0 ∧ er = 2) ∨ (e = 0 ∧ -999999999 ≤ n ∧ 999999999 < n ∧ n ≤ 9223372036854775807 ∧ v = 0 ∧ er = 2) ∨ (e = 0 ∧ -999999999 ≤ n ∧ n ≤ 999999999 ∧ v = n ∧ er = 0) := by omega
  clear O ae A
  rcases O2 with ⟨rfl | rfl, rfl, rfl⟩ | ⟨rfl, n0, rfl, rfl⟩ | ⟨rfl, n0, n1, n2, rfl, rfl⟩ | ⟨rfl, n0, n1, rfl, rfl⟩
  all_goals
    go_enter Tryd.func18, Tryd.ntmps18
    go_wp2_with fail
    refine (ca _).mono ?_
    rintro e w1 ⟨rfl, hb⟩
    go_wp2
    go_ret2
    exact ⟨rfl, hb⟩

end Go.Proofs.YtfjckgnclhpmcaaDoor.Np
