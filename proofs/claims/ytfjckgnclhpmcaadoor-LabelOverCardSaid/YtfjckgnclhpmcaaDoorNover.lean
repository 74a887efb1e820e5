/- LabelOver's walk. -/
import Derived.Test.YtfjckgnclhpmcaaDoorNdecw
import Derived.Laws.IdiomStrings
import Derived.OpenShut
namespace Go.Proofs.YtfjckgnclhpmcaaDoor.Nl
set_option linter.unusedSimpArgs false
set_option linter.unusedVariables false
open Go.RowKit Go.Proofs.YtfjckgnclhpmcaaDoor.Pr Go.Proofs.YtfjckgnclhpmcaaDoor.Nm Go.Proofs.YtfjckgnclhpmcaaDoor.Wm Go.Proofs.YtfjckgnclhpmcaaDoor.Wc Go.Proofs.YtfjckgnclhpmcaaDoor.Bx Go.Proofs.YtfjckgnclhpmcaaDoor.Fs Go.Proofs.YtfjckgnclhpmcaaDoor.Bn Go.Proofs.YtfjckgnclhpmcaaDoor.Np
open Go.Proofs.YtfjckgnclhpmcaaDoor.Tm (s1 dg dg_val)

set_option maxHeartbeats 600000

theorem sevens (k : Nat) : ∃ t : ByteArray, AllDig t ∧ t.size = k := by
  induction k with
  | zero => exact ⟨⟨#[]⟩, fun k hk => absurd (show k < 0 from hk) (by omega), rfl⟩
  | succ n ih =>
    obtain ⟨t, a, z⟩ := ih
    refine ⟨t ++ ⟨#[55]⟩, alldig_app a (fun k hk => ?_), by rw [ByteArray.size_append, z]; rfl⟩
    have hk' : k < 1 := hk
    obtain rfl : k = 0 := by omega
    unfold IsDig; decide
theorem add_seven {t : ByteArray} (a : AllDig t) : AllDig (t ++ ⟨#[55]⟩) := alldig_app a (fun k hk => by
  have hk' : k < 1 := hk
  obtain rfl : k = 0 := by omega
  unfold IsDig; decide)

set_option maxRecDepth 100000 in
theorem over_walk (n more : Int) (w : World) (wn : (Lit.int .i64 n).wf = true) (wm : (Lit.int .u8 more).wf = true) (tb : Lev w) :
    Calls Tryd.prog 8 #[.int .i64 n, .int .u8 more] w fun e w' => e = .returned (.bool true) ∧ Below w.heap.size w w' := by
  have T := tb
  obtain ⟨n0, n1⟩ := bounds_i64 wn
  obtain ⟨o0, o1⟩ := bounds_u8 wm
  clear wn wm tb
  by_cases h : n < 1
  · go_enter Tryd.func8, Tryd.ntmps8
    go_wp2_with fail
    refine (nlive_ok _ T).mono ?_
    rintro e w1 ⟨rfl, hb1⟩
    replace T := T.kept hb1
    go_wp2
    go_ret
    exact ⟨by simp, hb1⟩
  go_enter Tryd.func8, Tryd.ntmps8
  go_wp2_with fail
  refine (nlive_ok _ T).mono ?_
  rintro e w1 ⟨rfl, hb1⟩
  replace T := T.kept hb1
  go_wp2
  go_loopw [5, 6] (fun S M wr => ∃ (mm : Int) (s : ByteArray), 0 ≤ mm ∧ mm ≤ n ∧ M = .int .i64 mm ∧ S = .string s ∧ Hid (Digs n mm s) ∧ s.size ≤ 19 ∧ Below w.heap.size w wr) (fun _ M _ => (intOf M).toNat)
  case atStart => exact ⟨n, ⟨#[]⟩, by omega, by omega, rfl, rfl, Lib.hid (Digs.start _), by decide, hb1⟩
  case round =>
    obtain ⟨mm, s, m0, m1, rfl, rfl, hs, hz, B⟩ := hrel
    by_cases q : 0 < mm
    · obtain ⟨r, hr⟩ : ∃ r, r = mm % 10 := ⟨_, rfl⟩
      obtain ⟨k, hk⟩ : ∃ k, k = mm / 10 := ⟨_, rfl⟩
      have S2 := hs.out.step q
      have z2 := hs.out.small q (by omega)
      rw [← hr, ← hk] at S2
      have e1 : mm.tmod 10 = r := by rw [Int.tmod_eq_emod_of_nonneg m0, hr]
      have e2 : mm.tdiv 10 = k := by rw [Int.tdiv_eq_ediv_of_nonneg m0, hk]
      have e3 : mm % 10 = r := by omega
      have e4 : mm / 10 = k := by omega
      have dx : (mm != 0) = true := bne_iff_ne.2 (by omega)
      have r0 : 0 ≤ r := by omega
      have r1 : r ≤ 9 := by omega
      have k0 : 0 ≤ k := by omega
      have k1 : k < mm := by omega
      have kn : k ≤ 922337203685477581 := by omega
      have H2 := Lib.hid S2
      have hz2 : (s1 r ++ s).size ≤ 19 := by rw [ByteArray.size_append]; show 1 + _ ≤ 19; omega
      have hc := byte_text r0 r1 wr
      obtain ⟨u, hu⟩ : ∃ u, u = s1 r ++ s := ⟨_, rfl⟩
      have a1 : ∀ w, (Op.stringOp .add (s1 r) s).run Tryd.prog w = .ok (.string u) w := fun w => by rw [hu]; exact run_string_add_sum w _ _ (by show 1 + _ ≤ _; omega)
      rw [← hu] at H2 hz2
      clear hr hk S2 z2 hs hu
      generalize s1 r = t1 at *
      have HM : Hid (k < mm) := Lib.hid k1
      clear k1
      go_wp2
      go_roundw
      case rel => exact ⟨k, u, k0, by have := HM.out; omega, rfl, rfl, H2, hz2, balloc B _⟩
      case measure => have := HM.out; simp [intOf]; omega
    · obtain rfl : mm = 0 := by omega
      have zz : (s.size : Int) ≤ 19 := by omega
      obtain ⟨c, hc⟩ : ∃ c : Nat, (c : Int) = 20 + more % 20 - (s.size : Int) := ⟨(20 + more % 20 - (s.size : Int)).toNat, by omega⟩
      have c0 : 1 ≤ c := by omega
      have c1 : c ≤ 39 := by omega
      have hmn : min (s.size : Int) 19 = (s.size : Int) := by omega
      have CC : Hid (20 ≤ s.size + c ∧ s.size + c ≤ 39) := Lib.hid (by omega)
      have hcw : IntKind.i64.wrap (20 + more % 20 - (s.size : Int)) = (c : Int) := by rw [IntWalk.i64_in _ (by omega)]; exact hc.symm
      clear hc
      have t0 : more.tmod 20 = more % 20 := Int.tmod_eq_emod_of_nonneg o0
      go_wp2
      go_loopw [5, 38] (fun S X wr => ∃ (k : Nat) (t u : ByteArray), k ≤ c ∧ X = .int .i64 (k : Int) ∧ S = .string u ∧ Hid (u = s ++ t) ∧ Hid (AllDig t) ∧ t.size = k ∧ u.size = s.size + k ∧ Below w.heap.size w wr) (fun _ X _ => 64 - (intOf X).toNat)
      case atStart => exact ⟨0, ⟨#[]⟩, s, by omega, rfl, rfl, Lib.hid (by show s = s ++ ByteArray.empty; simp), Lib.hid (fun k hk => absurd (show k < 0 from hk) (by omega)), rfl, rfl, B⟩
      case round =>
        clear B
        obtain ⟨k, t, u, hk, rfl, rfl, hu, ht, tz, uz, B⟩ := hrel
        by_cases hlt : k < c
        · obtain ⟨u2, hu2⟩ : ∃ u2, u2 = u ++ (⟨#[55]⟩ : ByteArray) := ⟨_, rfl⟩
          have a1 : ∀ w, (Op.stringOp .add u ⟨#[55]⟩).run Tryd.prog w = .ok (.string u2) w := fun w => by rw [hu2]; exact run_string_add_sum w _ _ (by show _ + 1 ≤ _; omega)
          have U2 : Hid (u2 = s ++ (t ++ ⟨#[55]⟩)) := Lib.hid (by rw [hu2, hu.out, ByteArray.append_assoc])
          have T2 : Hid (AllDig (t ++ ⟨#[55]⟩)) := Lib.hid (add_seven ht.out)
          have tz2 : (t ++ (⟨#[55]⟩ : ByteArray)).size = k + 1 := by rw [ByteArray.size_append, tz]; rfl
          have uz2 : u2.size = s.size + (k + 1) := by rw [hu2, ByteArray.size_append, uz]; show _ + 1 = _; omega
          clear hu2 hu ht
          have kk : (k : Int) < (c : Int) := by omega
          go_wp2
          go_roundw
          case rel => exact ⟨k + 1, _, u2, by omega, by go_num, rfl, U2, T2, tz2, uz2, B⟩
          case measure => show 64 - ((k : Int) + 1).toNat < 64 - ((k : Int)).toNat; omega
        · obtain rfl : k = c := by omega
          have TO := told_over hs.out (by omega) ht.out (by rw [← hu.out, uz]; exact CC.out.1)
          rw [← hu.out] at TO
          have C1 := CC.out
          have cA := fun w => Amount_any u 0 2 w (by unfold maxLen; omega) TO.1
          obtain ⟨um, hum⟩ : ∃ um, um = minusT ++ u := ⟨_, rfl⟩
          have zm : um.size = 1 + u.size := by rw [hum, ByteArray.size_append]; rfl
          have cB := fun w => Amount_any um 0 2 w (by unfold maxLen; omega) (by rw [hum]; exact TO.2.1)
          obtain ⟨ux, hux⟩ : ∃ ux, ux = u ++ (⟨#[120]⟩ : ByteArray) := ⟨_, rfl⟩
          have zx : ux.size = u.size + 1 := by rw [hux, ByteArray.size_append]; rfl
          have cC := fun w => Amount_any ux 0 5 w (by unfold maxLen; omega) (by rw [hux]; exact TO.2.2)
          have a1 : ∀ w, (Op.stringOp .add ⟨#[45]⟩ u).run Tryd.prog w = .ok (.string um) w := fun w => by rw [hum]; exact run_string_add_sum w _ _ (by show 1 + _ ≤ _; omega)
          have a2 : ∀ w, (Op.stringOp .add u ⟨#[120]⟩).run Tryd.prog w = .ok (.string ux) w := fun w => by rw [hux]; exact run_string_add_sum w _ _ (by show _ + 1 ≤ _; omega)
          clear TO hum hux zm zx hu ht hs C1
          go_wp2_with fail
          refine (cA _).mono ?_
          rintro e w3 ⟨rfl, hb3⟩
          go_wp2_with fail
          refine (cB _).mono ?_
          rintro e w4 ⟨rfl, hb4⟩
          go_wp2_with fail
          refine (cC _).mono ?_
          rintro e w5 ⟨rfl, hb5⟩
          go_wp2
          go_ret
          exact ⟨by simp, bthen (bthen (bthen B hb3) hb4) hb5⟩

end Go.Proofs.YtfjckgnclhpmcaaDoor.Nl
