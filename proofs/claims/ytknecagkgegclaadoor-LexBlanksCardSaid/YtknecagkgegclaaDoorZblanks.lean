/- LexBlanks, walked. -/
import Derived.Test.YtknecagkgegclaaDoorZahead
import Derived.Test.YtknecagkgegclaaDoorZapp
import Derived.Deep.RegionHeld3
import Derived.Deep.DeepCutAuto
namespace Go.Proofs.YtknecagkgegclaaDoor.Zl
set_option linter.unusedSimpArgs false
set_option linter.unusedVariables false
open Go.RowKit Go.Proofs.YtknecagkgegclaaDoor.Zm Go.Proofs.YtknecagkgegclaaDoor.Zr Go.Proofs.YtknecagkgegclaaDoor.Zp Go.Proofs.YtknecagkgegclaaDoor.Zk Go.Proofs.YtknecagkgegclaaDoor.Bn

set_option maxHeartbeats 1000000

/-- blanks and a remark, put in ahead of a token -/
theorem put_in {l : List UInt8} {a1 a2 : List Tk} {t : Tk} (h : cut l 0 0 = .ok (a1 ++ t :: a2)) :
    ∃ j, j < l.length ∧ t.a = j ∧ ∃ c, cut ((l.take j ++ [32, 35, 32, 123, 59, 10, 9]) ++ l.drop j) 0 0 = .ok c ∧ c.map bare = (a1 ++ t :: a2).map bare := by
  obtain ⟨j, hj, ht, hx, hd⟩ := cut_before _ _ _ _ _ _ _ (Nat.le_refl _) h
  have hc := (cut_tokens _ _ _ _ _ (Nat.le_refl _) h).2.2 (by omega)
  refine ⟨j, hj, by omega, ?_⟩
  have e : (l.take j ++ [32, 35, 32, 123, 59, 10, 9]) ++ l.drop j = l.take j ++ 32 :: ([35, 32, 123, 59] ++ 10 :: 9 :: l.drop j) := by simp
  rw [e, hx]
  have hs : Zm.step 35 ([32, 123, 59] ++ 10 :: 9 :: l.drop j) = .skip 4 := by
    unfold Zm.step
    rw [if_neg (by decide), if_pos (by decide)]
    rw [takeWhile_more (b := 10) (by decide)]
    rfl
  have e2 : cut ([35, 32, 123, 59] ++ 10 :: 9 :: l.drop j) (0 + a1.length) (0 + j + 1) = cut (l.drop j) (0 + a1.length) (0 + j + 1 + 4 + 1 + 1) := by
    show cut (35 :: ([32, 123, 59] ++ 10 :: 9 :: l.drop j)) _ _ = _
    rw [cut_skip _ _ hs]
    show cut (10 :: 9 :: l.drop j) _ _ = _
    rw [cut_blank (by decide), cut_blank (by decide)]
  rw [e2]
  simp only [List.length_append, List.length_cons] at hc
  obtain ⟨b, hb, hm⟩ := cut_shift _ _ _ _ (0 + a1.length) (0 + j + 1 + 4 + 1 + 1) _ (Nat.le_refl _) hd (by simp; omega)
  rw [hb]
  exact ⟨a1 ++ b, rfl, by simp [hm]⟩

/-- two texts with a line's end between -/
theorem two_texts {l m : List UInt8} {a b : List Tk} (ha : cut l 0 0 = .ok a) (hb : cut m 0 0 = .ok b) (h : a.length + b.length ≤ 8192) : ∃ c, cut (l ++ 10 :: m) 0 0 = .ok c ∧ c.map bare = (a ++ b).map bare := by
  rw [cut_line_ok m ha]
  obtain ⟨b', hb', hm⟩ := cut_shift _ _ _ _ (0 + a.length) (0 + l.length + 1) _ (Nat.le_refl _) hb (by omega)
  rw [hb']
  exact ⟨a ++ b', rfl, by simp [hm]⟩

/-- what the drawn statement leaves: the tokens of the text with blanks put in -/
def BlkMid (w3 : World) (c : List Tk) (s14 s15 s16 : Value) (wx : World) : Prop :=
  ∃ ptr cap, s14 = .slice ptr c.length cap ∧ s15 = .int .i64 0 ∧ s16 = .int .i64 0 ∧ TokAt wx (.slice ptr c.length cap) c.length (fun i => tkI (c.getD i ⟨0, 0, 0, []⟩)) ∧ Below w3.heap.size w3 wx

theorem lex_len (s : ByteArray) (w : World) {k : Nat} {n : Nat} (h : k < n) : decide ((k : Int) < (n : Int)) = true := decide_eq_true (by omega)

set_option maxRecDepth 100000 in
theorem blanks_walk (s t : ByteArray) (q : Int) (w : World) (hm : s.size ≤ maxLen) (hmt : t.size ≤ maxLen) (hq : (Lit.int .u8 q).wf = true) (tb : True) :
    Calls Tryd.prog 7 #[.string s, .string t, .int .u8 q] w fun e w' => e = .returned (.bool true) ∧ Below w.heap.size w w' := by
  have cl := fun w => zlive_ok w
  have hm' := hm
  have hmt' := hmt
  unfold maxLen at hm hmt
  have hq2 : 0 ≤ q ∧ q ≤ 255 := by
    simp [Lit.wf] at hq
    exact hq
  clear hq
  by_cases h4 : 200 < s.size
  · have d1 : decide ((200 : Int) < (s.size : Int)) = true := decide_eq_true (by omega)
    clear h4
    go_enter Tryd.func7, Tryd.ntmps7
    go_wp2_with fail
    refine (cl _).mono ?_
    rintro e w1 ⟨rfl, hb⟩
    go_wp2_with fail
    go_ret
    exact ⟨rfl, hb⟩
  have d1 : decide ((200 : Int) < (s.size : Int)) = false := decide_eq_false (by omega)
  by_cases h5 : 200 < t.size
  · have d2 : decide ((200 : Int) < (t.size : Int)) = true := decide_eq_true (by omega)
    clear h4 h5
    go_enter Tryd.func7, Tryd.ntmps7
    go_wp2_with fail
    refine (cl _).mono ?_
    rintro e w1 ⟨rfl, hb⟩
    go_wp2_with fail
    go_ret
    exact ⟨rfl, hb⟩
  have d2 : decide ((200 : Int) < (t.size : Int)) = false := decide_eq_false (by omega)
  have hs4 : s.size ≤ 200 := by omega
  have ht4 : t.size ≤ 200 := by omega
  clear h4 h5
  obtain ⟨R, hR⟩ : ∃ R, cutR s = R := ⟨_, rfl⟩
  obtain ⟨R2, hR2⟩ : ∃ R2, cutR t = R2 := ⟨_, rfl⟩
  have cc := fun w => Cut_any s w R hm' (Lib.hid hR)
  have cc2 := fun w => Cut_any t w R2 hmt' (Lib.hid hR2)
  have hcut : cut (by_ s) 0 0 = R := by rw [← hR, cutR, if_neg (by omega)]
  have hcut2 : cut (by_ t) 0 0 = R2 := by rw [← hR2, cutR, if_neg (by omega)]
  obtain ⟨i0, hi, hz0, hz1, hz2⟩ := info_parts infoT
  cases R with
  | error x =>
    obtain ⟨er, qq⟩ := x
    have d3 : ((er : Int) != 0) = true := by rcases err_ne hR with rfl | rfl <;> rfl
    cases R2 with
    | error x2 =>
      clear hcut hcut2 hR hR2 hm' hmt'
      go_enter Tryd.func7, Tryd.ntmps7
      go_wp2_with fail
      refine (cl _).mono ?_
      rintro e w1 ⟨rfl, hb⟩
      go_wp2_with fail
      refine (cc _).mono ?_
      rintro e w2 ⟨rfl, hb2⟩
      have B2 := bthen hb hb2
      go_wp2_with fail
      refine (cc2 _).mono ?_
      rintro e w3 ⟨rfl, hb3⟩
      have B := bthen B2 hb3
      go_wp2_with fail
      go_ret
      exact ⟨rfl, B⟩
    | ok b =>
      clear hcut hcut2 hR hR2 hm' hmt'
      go_enter Tryd.func7, Tryd.ntmps7
      go_wp2_with fail
      refine (cl _).mono ?_
      rintro e w1 ⟨rfl, hb⟩
      go_wp2_with fail
      refine (cc _).mono ?_
      rintro e w2 ⟨rfl, hb2⟩
      have B2 := bthen hb hb2
      go_wp2_with fail
      refine (cc2 _).mono ?_
      rintro e w3 ⟨v2, rfl, hO2⟩
      obtain ⟨ptr2, cap2, rfl⟩ := hO2.form
      have hb3 := hO2.below
      have B := bthen B2 hb3
      clear hO2
      go_wp2_with fail
      go_ret
      exact ⟨rfl, B⟩
  | ok a =>
    have d3 : ((0 : Int) != 0) = false := rfl
    have la := (cut_tokens _ _ _ _ _ (Nat.le_refl _) hcut).2.1
    rw [by_len] at la
    obtain ⟨u1, hu1, hzu1, hea⟩ := sum_two s ⟨#[10]⟩ (by omega) (by decide)
    have z10 : (⟨#[10]⟩ : ByteArray).size = 1 := rfl
    obtain ⟨u2, hu2, hzu2, heb⟩ := sum_two u1 t (by omega) (by omega)
    have hz2 : u2.size ≤ 1000 := by omega
    by_cases h0 : a.length = 0
    · have d4 : decide (0 < a.length) = false := decide_eq_false (by omega)
      cases R2 with
      | error x2 =>
        obtain ⟨er, qq⟩ := x2
        have d5 : ((er : Int) != 0) = true := by rcases err_ne hR2 with rfl | rfl <;> rfl
        clear hcut hcut2 hR hR2 hm' hmt' hu1 hzu1 hu2 hzu2 hz2 z10 h0
        go_enter Tryd.func7, Tryd.ntmps7
        go_wp2_with fail
        refine (cl _).mono ?_
        rintro e w1 ⟨rfl, hb⟩
        go_wp2_with fail
        refine (cc _).mono ?_
        rintro e w2 ⟨v, rfl, hO⟩
        obtain ⟨ptr, cap, rfl⟩ := hO.form
        have B2 := bthen hb hO.below
        go_wp2_with fail
        refine (cc2 _).mono ?_
        rintro e w3 ⟨rfl, hb3⟩
        have B := bthen B2 hb3
        replace hO := hO.kept hb3
        go_wp2_with fail
        go_ret
        exact ⟨rfl, B⟩
      | ok b =>
        have lb := (cut_tokens _ _ _ _ _ (Nat.le_refl _) hcut2).2.1
        rw [by_len] at lb
        obtain ⟨c, hc, hbare'⟩ := two_texts hcut hcut2 (by omega)
        have hbare := Lib.hid hbare'
        have c5 := fun w => Cut_any u2 w (.ok c) (by unfold maxLen; omega) (Lib.hid (by
          rw [cutR, if_neg (by omega), hu2, hu1, List.append_assoc]; exact hc))
        have lc : c.length ≤ 1000 := by have := congrArg List.length hbare'; simp at this; omega
        clear hcut hcut2 hR hR2 hm' hmt' hu1 hzu1 hu2 hzu2 hz2 z10 h0 hc hbare'
        go_enter Tryd.func7, Tryd.ntmps7
        go_wp2_with fail
        refine (cl _).mono ?_
        rintro e w1 ⟨rfl, hb⟩
        go_wp2_with fail
        refine (cc _).mono ?_
        rintro e w2 ⟨v, rfl, hO⟩
        obtain ⟨ptr, cap, rfl⟩ := hO.form
        have B2 := bthen hb hO.below
        go_wp2_with fail
        refine (cc2 _).mono ?_
        rintro e w3 ⟨v2, rfl, hO2⟩
        obtain ⟨ptr2, cap2, rfl⟩ := hO2.form
        have hb3 := hO2.below
        have B := bthen B2 hb3
        replace hO := hO.kept hb3
        clear hb3
        go_wp2_with fail
        refine (c5 _).mono ?_
        rintro e w6 ⟨v6, rfl, hO6⟩
        obtain ⟨ptr6, cap6, rfl⟩ := hO6.form
        replace hO := hO.kept hO6.below
        replace hO2 := hO2.kept hO6.below
        have T6 := TokAt.of_own hO6
        have B7 := bthen B hO6.below
        have HA := Holds.of_own hO.a
        have hb2a := hO2.a
        clear hO6 hO hO2 B
        obtain ⟨base, hbase⟩ : ∃ base, w6.heap.size = base := ⟨_, rfl⟩
        have hle : base ≤ w6.heap.size := by omega
        have hnil : w6.ownsRow base 34 4 (.slice none 0 0) 0 [] := World.ownsRow_nil _ _ _ _
        go_wp2_with (first
          | (at_builtin; refine wpList_put_behind (by go_simp) (.tmp 107) (.tmp 108) 23 rfl base 34 i0 (.agg #[.int .i64 0, .int .i64 0, .int .i64 0, .string ⟨#[]⟩]) 4 40 underT hi hz0 hz1 hz2 rfl (by decide) v8 (0 + a.length) ([] ++ tks a) rfl hown8 _ b.length (tks b) rfl (Holds.of_own (owns_still hb2a hg8)) (by unfold maxLen; omega) (by omega) (Nat.le_trans hle hg8.size) ?_; intro v9 w9 hown9 hg9)
          | (at_builtin; refine wpList_put_behind (by go_simp) (.const (.slice none 0 0)) (.tmp 106) 23 rfl base 34 i0 (.agg #[.int .i64 0, .int .i64 0, .int .i64 0, .string ⟨#[]⟩]) 4 40 underT hi hz0 hz1 hz2 rfl (by decide) _ 0 [] rfl hnil _ a.length (tks a) rfl HA (by unfold maxLen; omega) (by omega) hle ?_; intro v8 w8 hown8 hg8))
        have hb8 : Below w6.heap.size w6 w8 := (Below.refl _ _).grown hg8 (Nat.le_refl _) (fun j hj => by cases hj)
        have hb9 : Below w6.heap.size w6 w9 := hb8.grown hg9 (by rw [hbase]; exact Nat.le_trans hle hg8.size) (fun j hj => by rw [hbase]; exact own_atT hown8 hj)
        have T9 := T6.kept hb9
        have B9 := bthen B7 hb9
        have U9 : TokAt w9 v9 (a ++ b).length (fun i => tkI ((a ++ b).getD i ⟨0, 0, 0, []⟩)) := TokAt.of_row (by
          rw [tks_append, List.length_append]
          simpa using hown9)
        have cs := rSame_any _ _ _ _ _ _ true _ T9 U9 (by omega) (by simp; omega) (Lib.hid (by
          simp only [true_iff]
          exact bare_tk hbare.out))
        clear T9 U9 hown9 hg9 hown8 hg8 hb8 hb9 T6 HA hb2a hnil hle
        refine cs.mono ?_
        rintro e w10 ⟨rfl, hb10⟩
        go_wp2_with fail
        go_ret
        exact ⟨rfl, bthen B9 hb10⟩
    · have d4 : decide (0 < a.length) = true := decide_eq_true (by omega)
      have hpos : 0 < a.length := by omega
      obtain ⟨i, hi0⟩ : ∃ i : Nat, q % (a.length : Int) = i := ⟨(q % (a.length : Int)).toNat, by have := Int.emod_nonneg q (show (a.length : Int) ≠ 0 by omega); omega⟩
      have hi1 : i < a.length := by have := Int.emod_lt_of_pos q (show (0 : Int) < (a.length : Int) by omega); omega
      have hi2 : q.tmod (a.length : Int) = i := by rw [Int.tmod_eq_emod_of_nonneg hq2.1]; exact hi0
      have hsplit : a = a.take i ++ a[i] :: a.drop (i + 1) := by
        rw [← List.drop_eq_getElem_cons hi1, List.take_append_drop]
      obtain ⟨j, hj, hta, c4l, hc4, hbare4'⟩ := put_in (by rw [← hsplit]; exact hcut)
      rw [← hsplit] at hbare4'
      rw [by_len] at hj
      have hbare4 := Lib.hid hbare4'
      obtain ⟨p1, hp1, zp1, ep1⟩ := slice_to s j (by omega)
      obtain ⟨p2, hp2, zp2, ep2⟩ := sum_two p1 ⟨#[32, 35, 32, 123, 59, 10, 9]⟩ (by omega) (by decide)
      obtain ⟨p3, hp3, zp3, ep3⟩ := slice_from s j (by omega)
      have z7 : (⟨#[32, 35, 32, 123, 59, 10, 9]⟩ : ByteArray).size = 7 := rfl
      obtain ⟨p4, hp4, zp4, ep4⟩ := sum_two p2 p3 (by omega) (by omega)
      have zp5 : p4.size ≤ 1000 := by omega
      have lc4 : c4l.length ≤ 1000 := by have := congrArg List.length hbare4'; simp at this; omega
      have c4 := fun w => Cut_any p4 w (.ok c4l) (by unfold maxLen; omega) (Lib.hid (by
        rw [cutR, if_neg (by omega), hp4, hp2, hp1, hp3]; exact hc4))
      have d6 : decide (s.size < j) = false := decide_eq_false (by omega)
      clear hc4 hbare4' hp1 zp1 hp2 zp2 hp3 zp3 hp4 zp4 zp5 z7 hsplit
      cases R2 with
      | error x2 =>
        obtain ⟨er, qq⟩ := x2
        have d5 : ((er : Int) != 0) = true := by rcases err_ne hR2 with rfl | rfl <;> rfl
        clear hcut hcut2 hR hR2 hm' hmt' hu1 hzu1 hu2 hzu2 hz2 z10 h0
        go_enter Tryd.func7, Tryd.ntmps7
        go_wp2_with fail
        refine (cl _).mono ?_
        rintro e w1 ⟨rfl, hb⟩
        go_wp2_with fail
        refine (cc _).mono ?_
        rintro e w2 ⟨v, rfl, hO⟩
        obtain ⟨ptr, cap, rfl⟩ := hO.form
        have B2 := bthen hb hO.below
        go_wp2_with fail
        refine (cc2 _).mono ?_
        rintro e w3 ⟨rfl, hb3⟩
        have B := bthen B2 hb3
        replace hO := hO.kept hb3
        obtain ⟨g, cap', e1, hg, lt1⟩ := hO.a.form hpos
        have hRT : RowT w3 g a := RowT.of_owns (by rw [← e1]; exact hO.a) hpos
        injection e1 with e1 e2 e3
        subst e1
        subst e3
        have ca := (row_cells hRT i hi1).2.1
        rw [hta] at ca
        clear hRT hg lt1
        go_upto_region 13 with fail
        go_cut [14, 15, 16] (fun s14 s15 s16 wx => BlkMid w3 c4l s14 s15 s16 wx)
        case first =>
          go_region_held3 (fun w' => Below w3.heap.size w3 w')
            ((repeat (first | (with_reducible assumption) | (with_reducible exact Below.refl _ _) | (with_reducible refine bdrewN ?_ _) | (with_reducible refine Below.drew ?_))))
            (first
              | (go_at_call 16; (with_reducible refine (c4 _).mono ?_); rintro e w4 ⟨v4, rfl, hO4⟩; have hB4 := bthen (w := w3) (by repeat (first | (with_reducible assumption) | (with_reducible exact Below.refl _ _) | (with_reducible refine bdrewN ?_ _) | (with_reducible refine Below.drew ?_))) hO4.below; obtain ⟨ptr4, cap4, rfl⟩ := hO4.form))
          all_goals go_wp2_with fail
          all_goals go_meet
          all_goals exact ⟨ptr4, cap4, rfl, rfl, rfl, TokAt.of_own hO4, hB4⟩
        case rest =>
          obtain ⟨ptr4, cap4, rfl, rfl, rfl, T4, hbd⟩ := hcut
          clear c4
          replace hO := hO.kept hbd
          have B4 := bthen B hbd
          have TA := TokAt.of_own hO
          have cs4 := rSame_any _ _ _ _ _ _ true _ T4 TA (by omega) (by omega) (Lib.hid (by simp only [true_iff]; exact bare_tk hbare4.out))
          clear TA T4 hbd B ca
          go_wp2_with fail
          refine cs4.mono ?_
          rintro e w5 ⟨rfl, hb5⟩
          have B := bthen B4 hb5
          replace hO := hO.kept hb5
          clear hb5 cs4 B4
          go_wp2_with fail
          go_ret
          exact ⟨rfl, B⟩
      | ok b =>
        have lb := (cut_tokens _ _ _ _ _ (Nat.le_refl _) hcut2).2.1
        rw [by_len] at lb
        obtain ⟨c, hc, hbare'⟩ := two_texts hcut hcut2 (by omega)
        have hbare := Lib.hid hbare'
        have c5 := fun w => Cut_any u2 w (.ok c) (by unfold maxLen; omega) (Lib.hid (by
          rw [cutR, if_neg (by omega), hu2, hu1, List.append_assoc]; exact hc))
        have lc : c.length ≤ 1000 := by have := congrArg List.length hbare'; simp at this; omega
        clear hcut hcut2 hR hR2 hm' hmt' hu1 hzu1 hu2 hzu2 hz2 z10 h0 hc hbare'
        go_enter Tryd.func7, Tryd.ntmps7
        go_wp2_with fail
        refine (cl _).mono ?_
        rintro e w1 ⟨rfl, hb⟩
        go_wp2_with fail
        refine (cc _).mono ?_
        rintro e w2 ⟨v, rfl, hO⟩
        obtain ⟨ptr, cap, rfl⟩ := hO.form
        have B2 := bthen hb hO.below
        go_wp2_with fail
        refine (cc2 _).mono ?_
        rintro e w3 ⟨v2, rfl, hO2⟩
        obtain ⟨ptr2, cap2, rfl⟩ := hO2.form
        have hb3 := hO2.below
        have B := bthen B2 hb3
        replace hO := hO.kept hb3
        clear hb3
        obtain ⟨g, cap', e1, hg, lt1⟩ := hO.a.form hpos
        have hRT : RowT w3 g a := RowT.of_owns (by rw [← e1]; exact hO.a) hpos
        injection e1 with e1 e2 e3
        subst e1
        subst e3
        have ca := (row_cells hRT i hi1).2.1
        rw [hta] at ca
        clear hRT hg lt1
        go_upto_region 13 with fail
        go_cut [14, 15, 16] (fun s14 s15 s16 wx => BlkMid w3 c4l s14 s15 s16 wx)
        case first =>
          go_region_held3 (fun w' => Below w3.heap.size w3 w')
            ((repeat (first | (with_reducible assumption) | (with_reducible exact Below.refl _ _) | (with_reducible refine bdrewN ?_ _) | (with_reducible refine Below.drew ?_))))
            (first
              | (go_at_call 16; (with_reducible refine (c4 _).mono ?_); rintro e w4 ⟨v4, rfl, hO4⟩; have hB4 := bthen (w := w3) (by repeat (first | (with_reducible assumption) | (with_reducible exact Below.refl _ _) | (with_reducible refine bdrewN ?_ _) | (with_reducible refine Below.drew ?_))) hO4.below; obtain ⟨ptr4, cap4, rfl⟩ := hO4.form))
          all_goals go_wp2_with fail
          all_goals go_meet
          all_goals exact ⟨ptr4, cap4, rfl, rfl, rfl, TokAt.of_own hO4, hB4⟩
        case rest =>
          obtain ⟨ptr4, cap4, rfl, rfl, rfl, T4, hbd⟩ := hcut
          clear c4
          replace hO := hO.kept hbd
          replace hO2 := hO2.kept hbd
          have B4 := bthen B hbd
          have TA := TokAt.of_own hO
          have cs4 := rSame_any _ _ _ _ _ _ true _ T4 TA (by omega) (by omega) (Lib.hid (by simp only [true_iff]; exact bare_tk hbare4.out))
          clear TA T4 hbd B ca
          go_wp2_with fail
          refine cs4.mono ?_
          rintro e w5 ⟨rfl, hb5⟩
          have B := bthen B4 hb5
          replace hO := hO.kept hb5
          replace hO2 := hO2.kept hb5
          clear hb5 cs4 B4
          go_wp2_with fail
          refine (c5 _).mono ?_
          rintro e w6 ⟨v6, rfl, hO6⟩
          obtain ⟨ptr6, cap6, rfl⟩ := hO6.form
          replace hO := hO.kept hO6.below
          replace hO2 := hO2.kept hO6.below
          have T6 := TokAt.of_own hO6
          have B7 := bthen B hO6.below
          have HA := Holds.of_own hO.a
          have hb2a := hO2.a
          clear hO6 hO hO2 B
          obtain ⟨base, hbase⟩ : ∃ base, w6.heap.size = base := ⟨_, rfl⟩
          have hle : base ≤ w6.heap.size := by omega
          have hnil : w6.ownsRow base 34 4 (.slice none 0 0) 0 [] := World.ownsRow_nil _ _ _ _
          go_wp2_with (first
            | (at_builtin; refine wpList_put_behind (by go_simp) (.tmp 107) (.tmp 108) 23 rfl base 34 i0 (.agg #[.int .i64 0, .int .i64 0, .int .i64 0, .string ⟨#[]⟩]) 4 40 underT hi hz0 hz1 hz2 rfl (by decide) v8 (0 + a.length) ([] ++ tks a) rfl hown8 _ b.length (tks b) rfl (Holds.of_own (owns_still hb2a hg8)) (by unfold maxLen; omega) (by omega) (Nat.le_trans hle hg8.size) ?_; intro v9 w9 hown9 hg9)
            | (at_builtin; refine wpList_put_behind (by go_simp) (.const (.slice none 0 0)) (.tmp 106) 23 rfl base 34 i0 (.agg #[.int .i64 0, .int .i64 0, .int .i64 0, .string ⟨#[]⟩]) 4 40 underT hi hz0 hz1 hz2 rfl (by decide) _ 0 [] rfl hnil _ a.length (tks a) rfl HA (by unfold maxLen; omega) (by omega) hle ?_; intro v8 w8 hown8 hg8))
          have hb8 : Below w6.heap.size w6 w8 := (Below.refl _ _).grown hg8 (Nat.le_refl _) (fun j hj => by cases hj)
          have hb9 : Below w6.heap.size w6 w9 := hb8.grown hg9 (by rw [hbase]; exact Nat.le_trans hle hg8.size) (fun j hj => by rw [hbase]; exact own_atT hown8 hj)
          have T9 := T6.kept hb9
          have B9 := bthen B7 hb9
          have U9 : TokAt w9 v9 (a ++ b).length (fun i => tkI ((a ++ b).getD i ⟨0, 0, 0, []⟩)) := TokAt.of_row (by
            rw [tks_append, List.length_append]
            simpa using hown9)
          have cs := rSame_any _ _ _ _ _ _ true _ T9 U9 (by omega) (by simp; omega) (Lib.hid (by
            simp only [true_iff]
            exact bare_tk hbare.out))
          clear T9 U9 hown9 hg9 hown8 hg8 hb8 hb9 T6 HA hb2a hnil hle
          refine cs.mono ?_
          rintro e w10 ⟨rfl, hb10⟩
          go_wp2_with fail
          go_ret
          exact ⟨rfl, bthen B9 hb10⟩

end Go.Proofs.YtknecagkgegclaaDoor.Zl
