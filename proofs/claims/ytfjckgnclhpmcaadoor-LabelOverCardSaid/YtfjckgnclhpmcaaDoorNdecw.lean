/- LabelDecimal's walk. -/
import Derived.Test.YtfjckgnclhpmcaaDoorNdec
import Derived.Laws.IdiomStrings
import Derived.OpenShut
namespace Go.Proofs.YtfjckgnclhpmcaaDoor.Nl
set_option linter.unusedSimpArgs false
set_option linter.unusedVariables false
open Go.RowKit Go.Proofs.YtfjckgnclhpmcaaDoor.Pr Go.Proofs.YtfjckgnclhpmcaaDoor.Nm Go.Proofs.YtfjckgnclhpmcaaDoor.Wm Go.Proofs.YtfjckgnclhpmcaaDoor.Wc Go.Proofs.YtfjckgnclhpmcaaDoor.Bx Go.Proofs.YtfjckgnclhpmcaaDoor.Fs Go.Proofs.YtfjckgnclhpmcaaDoor.Bn Go.Proofs.YtfjckgnclhpmcaaDoor.Np
open Go.Proofs.YtfjckgnclhpmcaaDoor.Tm (s1 dg dg_val)

set_option maxHeartbeats 600000

/-- a byte as a text -/
theorem byte_text {r : Int} (h0 : 0 ≤ r) (h1 : r ≤ 9) (w : World) : (convert 37 9 (.slice (some ⟨w.heap.size, 0, none⟩) 1 1)).run Tryd.prog (w.alloc (.cells #[.int .u8 (48 + r)] 5)) = .ok (.string (s1 r)) (w.alloc (.cells #[.int .u8 (48 + r)] 5)) :=
  run_convert_bytes_back (P := Tryd.prog) (w.alloc (.cells #[.int .u8 (48 + r)] 5)) 37 9 5 ⟨w.heap.size, 0, none⟩ 1 [dg r] Tryd.underlying37 Tryd.underlying5 Tryd.underlying9 (fun j hj => by
    obtain rfl : j = 0 := by simpa using hj
    simp [go_sem, dg_val h0 h1])

theorem nonempty {s : ByteArray} (h : 0 < s.size) : ¬ s.toList = [] ∧ s.toList.isEmpty = false := by
  have d1 : ¬ s.toList = [] := fun e => by
    rw [ByteArray.toList_eq] at e
    have := congrArg List.length e
    have h0 : s.size = 0 := by simpa using this
    omega
  refine ⟨d1, ?_⟩
  rcases h : s.toList with _ | ⟨x, l⟩
  · exact absurd h d1
  · rfl
theorem digs_pos {n : Int} {s : ByteArray} (h : Digs n 0 s) (n0 : 0 < n) : 0 < s.size := by
  by_cases q : 0 < s.size
  · exact q
  · have hv := h.v
    have z : s.size = 0 := by omega
    rw [z] at hv
    have : val s 0 = 0 := rfl
    omega

set_option maxRecDepth 100000 in
theorem decimal_walk (n : Int) (w : World) (wn : (Lit.int .i64 n).wf = true) (tb : Lev w) :
    Calls Tryd.prog 7 #[.int .i64 n] w fun e w' => e = .returned (.bool true) ∧ Below w.heap.size w w' := by
  have T := tb
  obtain ⟨n0, n1⟩ := bounds_i64 wn
  clear wn tb
  rcases Int.lt_trichotomy n 0 with h | rfl | h
  · go_enter Tryd.func7, Tryd.ntmps7
    go_wp2_with fail
    refine (nlive_ok _ T).mono ?_
    rintro e w1 ⟨rfl, hb1⟩
    replace T := T.kept hb1
    go_wp2
    go_loopw [3, 4] (fun S M wr => ∃ (mm x : Int) (s : ByteArray), 0 ≤ mm ∧ mm ≤ -n ∧ M = .int .i64 x ∧ x = -mm ∧ S = .string s ∧ Hid (Digs (-n) mm s) ∧ s.size ≤ 19 ∧ Below w.heap.size w wr) (fun _ M _ => (-intOf M).toNat)
    case atStart => exact ⟨-n, n, ⟨#[]⟩, by omega, by omega, rfl, by omega, rfl, Lib.hid (Digs.start _), by decide, hb1⟩
    case round =>
      obtain ⟨mm, x, s, m0, m1, rfl, hx, rfl, hs, hz, B⟩ := hrel
      by_cases q : 0 < mm
      · obtain ⟨r, hr⟩ : ∃ r, r = mm % 10 := ⟨_, rfl⟩
        obtain ⟨k, hk⟩ : ∃ k, k = mm / 10 := ⟨_, rfl⟩
        have S2 := hs.out.step q
        have z2 := hs.out.small q (by omega)
        rw [← hr, ← hk] at S2
        have e1 : x.tmod 10 = -r := by rw [hx, Int.neg_tmod, Int.tmod_eq_emod_of_nonneg m0, hr]
        have e2 : x.tdiv 10 = -k := by rw [hx, Int.neg_tdiv, Int.tdiv_eq_ediv_of_nonneg m0, hk]
        have dx : (x != 0) = true := bne_iff_ne.2 (by omega)
        have r0 : 0 ≤ r := by omega
        have r1 : r ≤ 9 := by omega
        have k0 : 0 ≤ k := by omega
        have k1 : k < mm := by omega
        have kn : k ≤ 922337203685477581 := by omega
        have H2 := Lib.hid S2
        have hz2 : (s1 r ++ s).size ≤ 19 := by rw [ByteArray.size_append]; show 1 + _ ≤ 19; omega
        have hc := byte_text r0 r1 wr
        obtain ⟨u, hu⟩ : ∃ u, u = s1 r ++ s := ⟨_, rfl⟩
        have a1 : ∀ w, (Op.stringOp .add (s1 r) s).run Tryd.prog w = .ok (.string u) w := fun w => by rw [hu]; exact run_string_add_sum w _ _ (by show 1 + _ ≤ _; omega)
        rw [← hu] at H2 hz2
        clear hr hk S2 z2 hs hu
        generalize s1 r = t1 at *
        have HX := Lib.hid hx
        have HM : Hid (k < mm) := Lib.hid k1
        clear hx k1
        rcases (by omega : r = 0 ∨ 0 < r) with rfl | rp
        · simp only [Int.add_zero] at hc
          go_wp2
          go_roundw
          case rel => exact ⟨k, _, u, k0, by have := HM.out; omega, rfl, rfl, rfl, H2, hz2, balloc B _⟩
          case measure => have := HX.out; have := HM.out; simp [intOf]; omega
        · go_wp2
          go_roundw
          case rel => exact ⟨k, _, u, k0, by have := HM.out; omega, rfl, rfl, rfl, H2, hz2, balloc B _⟩
          case measure => have := HX.out; have := HM.out; simp [intOf]; omega
      · obtain rfl : mm = 0 := by omega
        obtain rfl : x = 0 := by omega
        have sp := digs_pos hs.out (by omega)
        obtain ⟨ne1, ne2⟩ := nonempty sp
        have TO : Told n (minusT ++ s) (minusT ++ (zeroT ++ s)) := told_neg hs.out h n0 hz
        have zs : ((minusT ++ s)).size ≤ maxLen := by have := TO.size; unfold maxLen; omega
        have zd : ((minusT ++ (zeroT ++ s))).size ≤ maxLen := by have := TO.bsize; unfold maxLen; omega
        have cA := fun w => Amount_any (minusT ++ s) n 0 w zs TO.amt
        have cB := fun w => Amount_any (minusT ++ (zeroT ++ s)) 0 5 w zd TO.bad
        have zb : ((minusT ++ s) ++ (⟨#[32]⟩ : ByteArray)).size ≤ 21 := by rw [ByteArray.size_append]; have := TO.size; show _ + 1 ≤ 21; omega
        have zc : ((minusT ++ s) ++ (⟨#[32]⟩ : ByteArray)).size ≤ maxLen := by unfold maxLen; omega
        have cC := fun w => Amount_any ((minusT ++ s) ++ (⟨#[32]⟩ : ByteArray)) 0 5 w zc TO.blank
        have SM : (n < -999999999 ∧ ∀ w, Calls Tryd.prog 18 #[.string (minusT ++ s)] w fun e w' => e = .returned (.tuple #[.int .i64 0, .int .i64 2]) ∧ Below w.heap.size w w') ∨ (-999999999 ≤ n ∧ 999999999 < n ∧ ∀ w, Calls Tryd.prog 18 #[.string (minusT ++ s)] w fun e w' => e = .returned (.tuple #[.int .i64 0, .int .i64 2]) ∧ Below w.heap.size w w') ∨
            (-999999999 ≤ n ∧ n ≤ 999999999 ∧ ∀ w, Calls Tryd.prog 18 #[.string (minusT ++ s)] w fun e w' => e = .returned (.tuple #[.int .i64 n, .int .i64 0]) ∧ Below w.heap.size w w') := by
          by_cases h1 : n < -999999999
          · exact .inl ⟨h1, fun w => Small_any (minusT ++ s) 0 2 w zs ⟨n, 0, TO.amt, .inr (.inl ⟨rfl, by omega, rfl, rfl⟩)⟩⟩
          · by_cases h2 : 999999999 < n
            · exact .inr (.inl ⟨by omega, h2, fun w => Small_any (minusT ++ s) 0 2 w zs ⟨n, 0, TO.amt, .inr (.inl ⟨rfl, by omega, rfl, rfl⟩)⟩⟩)
            · exact .inr (.inr ⟨by omega, by omega, fun w => Small_any (minusT ++ s) n 0 w zs ⟨n, 0, TO.amt, .inr (.inr ⟨rfl, by omega, by omega, rfl, rfl⟩)⟩⟩)
        obtain ⟨sb, hsb⟩ : ∃ sb, sb = (minusT ++ s) ++ (⟨#[32]⟩ : ByteArray) := ⟨_, rfl⟩
        have a9 : ∀ w, (Op.stringOp .add (minusT ++ s) ⟨#[32]⟩).run Tryd.prog w = .ok (.string sb) w := fun w => by rw [hsb]; exact run_string_add_sum w _ _ (by rw [ByteArray.size_append] at zb; omega)
        rw [← hsb] at cC

        obtain ⟨b1, hb1'⟩ : ∃ b1, b1 = zeroT ++ s := ⟨_, rfl⟩
        have z1 : b1.size = 1 + s.size := by rw [hb1', ByteArray.size_append]; rfl
        rw [← hb1'] at cB
        obtain ⟨b2, hb2'⟩ : ∃ b2, b2 = minusT ++ b1 := ⟨_, rfl⟩
        rw [← hb2'] at cB
        obtain ⟨t2, ht2⟩ : ∃ t2, t2 = minusT ++ s := ⟨_, rfl⟩
        rw [← ht2] at cA SM a9
        have a1 : ∀ w, (Op.stringOp .add ⟨#[48]⟩ s).run Tryd.prog w = .ok (.string b1) w := fun w => by rw [hb1']; exact run_string_add_sum w _ _ (by show 1 + _ ≤ _; omega)
        have a2 : ∀ w, (Op.stringOp .add ⟨#[45]⟩ b1).run Tryd.prog w = .ok (.string b2) w := fun w => by rw [hb2']; exact run_string_add_sum w _ _ (by show 1 + _ ≤ _; omega)
        have a3 : ∀ w, (Op.stringOp .add ⟨#[45]⟩ s).run Tryd.prog w = .ok (.string t2) w := fun w => by rw [ht2]; exact run_string_add_sum w _ _ (by show 1 + _ ≤ _; omega)
        clear hb1' hb2' ht2 hsb zb zc zs zd TO z1 hs hz sp m0 m1 hx q
        go_wp2_with fail
        with_reducible refine (cA _).mono ?_
        rintro e w3 ⟨rfl, hb3⟩
        go_wp2_with fail
        with_reducible refine (cB _).mono ?_
        rintro e w4 ⟨rfl, hb4⟩
        go_wp2_with fail
        with_reducible refine (cC _).mono ?_
        rintro e w5 ⟨rfl, hb5⟩
        replace B := bthen (bthen (bthen B hb3) hb4) hb5
        clear cA cB cC hb3 hb4 hb5
        rcases SM with ⟨m0, cD⟩ | ⟨m0, m1, cD⟩ | ⟨m0, m1, cD⟩
        all_goals
          go_wp2_with fail
          with_reducible refine (cD _).mono ?_
          rintro e w6 ⟨rfl, hb6⟩
          go_wp2
          go_ret
          exact ⟨by simp, bthen B hb6⟩
  · go_enter Tryd.func7, Tryd.ntmps7
    go_wp2_with fail
    refine (nlive_ok _ T).mono ?_
    rintro e w1 ⟨rfl, hb1⟩
    replace T := T.kept hb1
    go_wp2
    go_loopw [3, 4] (fun S M wr => M = .int .i64 0 ∧ S = .string ⟨#[]⟩ ∧ Below w.heap.size w wr) (fun _ M _ => 0)
    case atStart => exact ⟨rfl, rfl, hb1⟩
    case round =>
      obtain ⟨rfl, rfl, B⟩ := hrel
      obtain ⟨n, hn⟩ : ∃ n : Int, n = 0 := ⟨_, rfl⟩
      have TO : Told n zeroT (⟨#[45, 48]⟩ : ByteArray) := (by rw [hn]; exact told_zero)
      have zs : (zeroT).size ≤ maxLen := by have := TO.size; unfold maxLen; omega
      have zd : ((⟨#[45, 48]⟩ : ByteArray)).size ≤ maxLen := by have := TO.bsize; unfold maxLen; omega
      have cA := fun w => Amount_any zeroT n 0 w zs TO.amt
      have cB := fun w => Amount_any (⟨#[45, 48]⟩ : ByteArray) 0 5 w zd TO.bad
      have zb : (zeroT ++ (⟨#[32]⟩ : ByteArray)).size ≤ 21 := by rw [ByteArray.size_append]; have := TO.size; show _ + 1 ≤ 21; omega
      have zc : (zeroT ++ (⟨#[32]⟩ : ByteArray)).size ≤ maxLen := by unfold maxLen; omega
      have cC := fun w => Amount_any (zeroT ++ (⟨#[32]⟩ : ByteArray)) 0 5 w zc TO.blank
      have SM : (n < -999999999 ∧ ∀ w, Calls Tryd.prog 18 #[.string zeroT] w fun e w' => e = .returned (.tuple #[.int .i64 0, .int .i64 2]) ∧ Below w.heap.size w w') ∨ (-999999999 ≤ n ∧ 999999999 < n ∧ ∀ w, Calls Tryd.prog 18 #[.string zeroT] w fun e w' => e = .returned (.tuple #[.int .i64 0, .int .i64 2]) ∧ Below w.heap.size w w') ∨
          (-999999999 ≤ n ∧ n ≤ 999999999 ∧ ∀ w, Calls Tryd.prog 18 #[.string zeroT] w fun e w' => e = .returned (.tuple #[.int .i64 n, .int .i64 0]) ∧ Below w.heap.size w w') := by
        by_cases h1 : n < -999999999
        · exact .inl ⟨h1, fun w => Small_any zeroT 0 2 w zs ⟨n, 0, TO.amt, .inr (.inl ⟨rfl, by omega, rfl, rfl⟩)⟩⟩
        · by_cases h2 : 999999999 < n
          · exact .inr (.inl ⟨by omega, h2, fun w => Small_any zeroT 0 2 w zs ⟨n, 0, TO.amt, .inr (.inl ⟨rfl, by omega, rfl, rfl⟩)⟩⟩)
          · exact .inr (.inr ⟨by omega, by omega, fun w => Small_any zeroT n 0 w zs ⟨n, 0, TO.amt, .inr (.inr ⟨rfl, by omega, by omega, rfl, rfl⟩)⟩⟩)
      obtain ⟨sb, hsb⟩ : ∃ sb, sb = zeroT ++ (⟨#[32]⟩ : ByteArray) := ⟨_, rfl⟩
      have a9 : ∀ w, (Op.stringOp .add zeroT ⟨#[32]⟩).run Tryd.prog w = .ok (.string sb) w := fun w => by rw [hsb]; exact run_string_add_sum w _ _ (by rw [ByteArray.size_append] at zb; omega)
      rw [← hsb] at cC
      have a1 : ∀ w, (Op.stringOp .add ⟨#[48]⟩ ⟨#[]⟩).run Tryd.prog w = .ok (.string zeroT) w := fun w => by rw [show zeroT = ⟨#[48]⟩ ++ ⟨#[]⟩ from (by unfold zeroT; rw [ByteArray.mk_append_mk [48] []]; rfl)]; exact run_string_add_sum w _ _ (by decide)
      have a9' : ∀ w, (Op.stringOp .add ⟨#[48]⟩ ⟨#[32]⟩).run Tryd.prog w = .ok (.string sb) w := a9
      have cA' : ∀ w, Calls Tryd.prog 16 #[.string ⟨#[48]⟩] w fun e w' => e = .returned (.tuple #[.int .i64 n, .int .i64 0]) ∧ Below w.heap.size w w' := cA
      have SM' : ∀ w, Calls Tryd.prog 18 #[.string ⟨#[48]⟩] w fun e w' => e = .returned (.tuple #[.int .i64 0, .int .i64 0]) ∧ Below w.heap.size w w' := by
        rcases SM with ⟨m0, _⟩ | ⟨_, m1, _⟩ | ⟨m0, m1, cD⟩
        · omega
        · omega
        · subst hn; exact cD
      clear hsb zb zc zs zd TO SM a9 cA
      subst hn
      go_wp2_with fail
      refine (cA' _).mono ?_
      rintro e w3 ⟨rfl, hb3⟩
      go_wp2_with fail
      refine (cB _).mono ?_
      rintro e w4 ⟨rfl, hb4⟩
      go_wp2_with fail
      refine (cC _).mono ?_
      rintro e w5 ⟨rfl, hb5⟩
      replace B := bthen (bthen (bthen B hb3) hb4) hb5
      go_wp2_with fail
      refine (SM' _).mono ?_
      rintro e w6 ⟨rfl, hb6⟩
      go_wp2
      go_ret
      exact ⟨by simp, bthen B hb6⟩
  · go_enter Tryd.func7, Tryd.ntmps7
    go_wp2_with fail
    refine (nlive_ok _ T).mono ?_
    rintro e w1 ⟨rfl, hb1⟩
    replace T := T.kept hb1
    go_wp2
    go_loopw [3, 4] (fun S M wr => ∃ (mm : Int) (s : ByteArray), 0 ≤ mm ∧ mm ≤ n ∧ M = .int .i64 mm ∧ S = .string s ∧ Hid (Digs n mm s) ∧ s.size ≤ 19 ∧ Below w.heap.size w wr) (fun _ M _ => (intOf M).toNat)
    case atStart => exact ⟨n, ⟨#[]⟩, by omega, by omega, rfl, rfl, Lib.hid (Digs.start _), by decide, hb1⟩
    case round =>
      obtain ⟨mm, s, m0, m1, rfl, rfl, hs, hz, B⟩ := hrel
      by_cases q : 0 < mm
      · obtain ⟨r, hr⟩ : ∃ r, r = mm % 10 := ⟨_, rfl⟩
        obtain ⟨k, hk⟩ : ∃ k, k = mm / 10 := ⟨_, rfl⟩
        have S2 := hs.out.step q
        have z2 := hs.out.small q (by omega)
        rw [← hr, ← hk] at S2
        have e1 : mm.tmod 10 = r := by rw [Int.tmod_eq_emod_of_nonneg m0, hr]
        have e2 : mm.tdiv 10 = k := by rw [Int.tdiv_eq_ediv_of_nonneg m0, hk]
        have e3 : mm % 10 = r := by omega
        have e4 : mm / 10 = k := by omega
        have dx : (mm != 0) = true := bne_iff_ne.2 (by omega)
        have r0 : 0 ≤ r := by omega
        have r1 : r ≤ 9 := by omega
        have k0 : 0 ≤ k := by omega
        have k1 : k < mm := by omega
        have kn : k ≤ 922337203685477581 := by omega
        have H2 := Lib.hid S2
        have hz2 : (s1 r ++ s).size ≤ 19 := by rw [ByteArray.size_append]; show 1 + _ ≤ 19; omega
        have hc := byte_text r0 r1 wr
        obtain ⟨u, hu⟩ : ∃ u, u = s1 r ++ s := ⟨_, rfl⟩
        have a1 : ∀ w, (Op.stringOp .add (s1 r) s).run Tryd.prog w = .ok (.string u) w := fun w => by rw [hu]; exact run_string_add_sum w _ _ (by show 1 + _ ≤ _; omega)
        rw [← hu] at H2 hz2
        clear hr hk S2 z2 hs hu
        generalize s1 r = t1 at *
        have HM : Hid (k < mm) := Lib.hid k1
        clear k1
        go_wp2
        go_roundw
        case rel => exact ⟨k, u, k0, by have := HM.out; omega, rfl, rfl, H2, hz2, balloc B _⟩
        case measure => have := HM.out; simp [intOf]; omega
      · obtain rfl : mm = 0 := by omega
        have sp := digs_pos hs.out (by omega)
        obtain ⟨ne1, ne2⟩ := nonempty sp
        have TO : Told n s (zeroT ++ s) := told_pos hs.out h n1 hz
        have zs : (s).size ≤ maxLen := by have := TO.size; unfold maxLen; omega
        have zd : ((zeroT ++ s)).size ≤ maxLen := by have := TO.bsize; unfold maxLen; omega
        have cA := fun w => Amount_any s n 0 w zs TO.amt
        have cB := fun w => Amount_any (zeroT ++ s) 0 5 w zd TO.bad
        have zb : (s ++ (⟨#[32]⟩ : ByteArray)).size ≤ 21 := by rw [ByteArray.size_append]; have := TO.size; show _ + 1 ≤ 21; omega
        have zc : (s ++ (⟨#[32]⟩ : ByteArray)).size ≤ maxLen := by unfold maxLen; omega
        have cC := fun w => Amount_any (s ++ (⟨#[32]⟩ : ByteArray)) 0 5 w zc TO.blank
        have SM : (n < -999999999 ∧ ∀ w, Calls Tryd.prog 18 #[.string s] w fun e w' => e = .returned (.tuple #[.int .i64 0, .int .i64 2]) ∧ Below w.heap.size w w') ∨ (-999999999 ≤ n ∧ 999999999 < n ∧ ∀ w, Calls Tryd.prog 18 #[.string s] w fun e w' => e = .returned (.tuple #[.int .i64 0, .int .i64 2]) ∧ Below w.heap.size w w') ∨
            (-999999999 ≤ n ∧ n ≤ 999999999 ∧ ∀ w, Calls Tryd.prog 18 #[.string s] w fun e w' => e = .returned (.tuple #[.int .i64 n, .int .i64 0]) ∧ Below w.heap.size w w') := by
          by_cases h1 : n < -999999999
          · exact .inl ⟨h1, fun w => Small_any s 0 2 w zs ⟨n, 0, TO.amt, .inr (.inl ⟨rfl, by omega, rfl, rfl⟩)⟩⟩
          · by_cases h2 : 999999999 < n
            · exact .inr (.inl ⟨by omega, h2, fun w => Small_any s 0 2 w zs ⟨n, 0, TO.amt, .inr (.inl ⟨rfl, by omega, rfl, rfl⟩)⟩⟩)
            · exact .inr (.inr ⟨by omega, by omega, fun w => Small_any s n 0 w zs ⟨n, 0, TO.amt, .inr (.inr ⟨rfl, by omega, by omega, rfl, rfl⟩)⟩⟩)
        obtain ⟨sb, hsb⟩ : ∃ sb, sb = s ++ (⟨#[32]⟩ : ByteArray) := ⟨_, rfl⟩
        have a9 : ∀ w, (Op.stringOp .add s ⟨#[32]⟩).run Tryd.prog w = .ok (.string sb) w := fun w => by rw [hsb]; exact run_string_add_sum w _ _ (by rw [ByteArray.size_append] at zb; omega)
        rw [← hsb] at cC

        obtain ⟨b1, hb1'⟩ : ∃ b1, b1 = zeroT ++ s := ⟨_, rfl⟩
        rw [← hb1'] at cB
        have a1 : ∀ w, (Op.stringOp .add ⟨#[48]⟩ s).run Tryd.prog w = .ok (.string b1) w := fun w => by rw [hb1']; exact run_string_add_sum w _ _ (by show 1 + _ ≤ _; omega)
        clear hb1' hsb zb zc zs zd TO hs hz sp m0 m1 q
        go_wp2_with fail
        with_reducible refine (cA _).mono ?_
        rintro e w3 ⟨rfl, hb3⟩
        go_wp2_with fail
        with_reducible refine (cB _).mono ?_
        rintro e w4 ⟨rfl, hb4⟩
        go_wp2_with fail
        with_reducible refine (cC _).mono ?_
        rintro e w5 ⟨rfl, hb5⟩
        replace B := bthen (bthen (bthen B hb3) hb4) hb5
        clear cA cB cC hb3 hb4 hb5
        rcases SM with ⟨m0, cD⟩ | ⟨m0, m1, cD⟩ | ⟨m0, m1, cD⟩
        all_goals
          go_wp2_with fail
          with_reducible refine (cD _).mono ?_
          rintro e w6 ⟨rfl, hb6⟩
          go_wp2
          go_ret
          exact ⟨by simp, bthen B hb6⟩

end Go.Proofs.YtfjckgnclhpmcaaDoor.Nl
