/- LayoutLines, walked. -/
import Derived.Test.YtjebdoecigmkhaaDoorYocan
import Derived.Test.YtjebdoecigmkhaaDoorYoone
import Derived.Test.YtjebdoecigmkhaaDoorYolm
namespace Go.Proofs.YtjebdoecigmkhaaDoor.Yl
set_option linter.unusedSimpArgs false
set_option linter.unusedVariables false
open Go Go.RowKit Go.Proofs.YtjebdoecigmkhaaDoor.Zm Go.Proofs.YtjebdoecigmkhaaDoor.Ym Go.Proofs.YtjebdoecigmkhaaDoor.Bn Go.Proofs.YtjebdoecigmkhaaDoor.Zp Go.Proofs.YtjebdoecigmkhaaDoor.Zk Go.Proofs.YtjebdoecigmkhaaDoor.Yp Go.Proofs.YtjebdoecigmkhaaDoor.Zr Go.Proofs.YtjebdoecigmkhaaDoor.Yg

set_option maxHeartbeats 2000000

theorem getD_by (s : ByteArray) (i : Nat) (h : i < s.size) : (by_ s).getD i 0 = s[i] := by
  have := drop_at s i h
  have h2 : (by_ s)[i]? = some s[i] := by
    have := congrArg List.head? this
    simpa using this
  simp [List.getD_eq_getElem?_getD, h2]
/-- a line, as the law looks at it -/
structure LineI (d : Int) (ln : ByteArray) (m : Nat) (E : UInt8) (d' : Nat) : Prop where
  pos : 2 * m < ln.size
  mar : ∀ i, i < 2 * m → ∀ h : i < ln.size, ((ln[i].toNat : Int) == 32) = true
  body : ∀ h : 2 * m < ln.size, ((ln[2 * m].toNat : Int) == 32) = false
  two : ∀ k, 2 * m ≤ k → ∀ (h : k < ln.size) (h' : k + 1 < ln.size), ((ln[k].toNat : Int) == 32) = true → ((ln[k + 1].toNat : Int) == 32) = false
  tab : ∀ k, 2 * m ≤ k → ∀ (h : k < ln.size), k + 1 < ln.size → ((ln[k].toNat : Int) == 9) = false ∧ ((ln[k].toNat : Int) == 35) = false
  last : ∀ h : ln.size - 1 < ln.size, ln[ln.size - 1] = E
  ends : (E = 125 ∧ d = m + 1 ∧ d' = m) ∨ (E = 123 ∧ d = m ∧ d' = m + 1) ∨ (E = 59 ∧ d = m ∧ d' = m)
theorem ne_u8 {c : UInt8} {n : Nat} (hn : n < 256) (h : c ≠ UInt8.ofNat n) : ((c.toNat : Int) == (n : Int)) = false := by
  refine beq_eq_false_iff_ne.2 fun e => h ?_
  have : c.toNat = n := by omega
  exact UInt8.toNat_inj.1 (by rw [this]; simp [Nat.mod_eq_of_lt hn])
theorem eq_u8 {c : UInt8} {n : Nat} (hn : n < 256) (h : c = UInt8.ofNat n) : ((c.toNat : Int) == (n : Int)) = true := by
  subst h
  simp [Nat.mod_eq_of_lt hn]
theorem line_i {d : Nat} {ln : ByteArray} {d' : Nat} (h : LineOk d (by_ ln) d') : ∃ m E, LineI d ln m E d' := by
  obtain ⟨m, E, h1, h2, h3, h4, h5, h6⟩ := h.at_
  rw [by_len] at h1 h4 h5
  refine ⟨m, E, ⟨h1, fun i hi h => ?_, fun h => ?_, fun k hk h h' e => ?_, fun k hk h h' => ?_, fun h => ?_, ?_⟩⟩
  · have := h2 i hi
    rw [getD_by _ _ h] at this
    exact eq_u8 (n := 32) (by decide) this
  · rw [getD_by _ _ h] at h3
    exact ne_u8 (n := 32) (by decide) h3
  · have := (h4 k hk h').1
    rw [getD_by _ _ h, getD_by _ _ h'] at this
    refine ne_u8 (n := 32) (by decide) fun q => this ⟨?_, q⟩
    have e := beq_iff_eq.1 e
    exact UInt8.toNat_inj.1 (by have : ln[k].toNat = 32 := by omega
                                rw [this]; rfl)
  · have := (h4 k hk h').2
    rw [getD_by _ _ h] at this
    exact ⟨ne_u8 (n := 9) (by decide) this.1, ne_u8 (n := 35) (by decide) this.2⟩
  · rw [getD_by _ _ h] at h5
    exact h5
  · rcases h6 with ⟨a, b, c⟩ | ⟨a, b, c⟩ | ⟨a, b, c⟩
    · exact .inl ⟨a, by omega, c⟩
    · exact .inr (.inl ⟨a, by omega, c⟩)
    · exact .inr (.inr ⟨a, by omega, c⟩)

set_option maxRecDepth 100000 in
theorem lines_walk (s : ByteArray) (w : World) (hm : s.size ≤ maxLen) (tb : Pows w) : Calls Tryd.prog 10 #[.string s] w fun e w' => e = .returned (.bool true) ∧ Below w.heap.size w w' := by
  have cl := yolive_ok w tb
  have hm' := hm
  unfold maxLen at hm
  by_cases h4 : 400 < s.size
  · have d1 : decide ((400 : Int) < (s.size : Int)) = true := decide_eq_true (by omega)
    clear h4
    go_enter Tryd.func10, Tryd.ntmps10
    go_wp2_with fail
    refine cl.mono ?_
    rintro e w1 ⟨rfl, hb1⟩
    go_wp2_with fail
    go_ret
    exact ⟨rfl, hb1⟩
  have d1 : decide ((400 : Int) < (s.size : Int)) = false := decide_eq_false (by omega)
  have hs4 : s.size ≤ 400 := by omega
  clear h4
  by_cases hok : ∃ l, parseR s = .ok l ∧ ¬ 65536 < (prtL 0 l).length
  · obtain ⟨l, hR, h6⟩ := hok
    obtain ⟨a, b, ha, hb, hal, hbl, hab, k1, k2, hn1, hn2⟩ := canon_all hs4 hR h6
    have hp : parse (by_ s) = .ok l := by rw [← parseR_small (by omega)]; exact hR
    obtain ⟨p1, _⟩ := parse_right hp (cutR_ok ha).2
    obtain ⟨t, hte⟩ : ∃ t, (⟨(prtL 0 l).toArray⟩ : ByteArray) = t := ⟨_, rfl⟩
    have hby : by_ t = prtL 0 l := by rw [← hte]
    have hts : t.size ≤ 65536 := by rw [← by_len, hby]; omega
    rw [hte] at k1
    have HL : Hid (LeftT (by_ t) 0 []) := Lib.hid (by rw [hby]; exact LeftT.start (lines_L 0 0 l p1))
    have cs := fun w P => Canon_any s w (t, 0, 0) hm' P (Lib.hid (fun l' h => by rw [hR] at h; injection h with h; subst h; omega)) (Lib.hid k1)
    clear hR ha hb k1 k2 hn1 hn2 hte h6 hab hm' hal hbl hp p1 hby
    go_enter Tryd.func10, Tryd.ntmps10
    go_wp2_with fail
    refine cl.mono ?_
    rintro e w1 ⟨rfl, hb1⟩
    go_wp2_with fail
    refine (cs _ (tb.kept hb1)).mono ?_
    rintro e w2 ⟨rfl, hb2⟩
    have B2 := bthen hb1 hb2
    clear hb1 hb2 cs cl
    go_wp2_with fail
    go_loopw [6, 7, 29] (fun D L I wr => ∃ (d i : Nat) (ln : ByteArray), i ≤ t.size ∧ I = .int .i64 i ∧ D = .int .i64 d ∧ L = .string ln ∧ ln.size ≤ i ∧ d ≤ i ∧ Hid (LeftT ((by_ t).drop i) d (by_ ln)) ∧ Below w.heap.size w wr) (fun _ _ I _ => t.size - (intOf I).toNat)
    case atStart => exact ⟨0, 0, _, by omega, rfl, rfl, rfl, by decide, by omega, Lib.hid (by rw [List.drop_zero]; exact HL.out), B2⟩
    case round =>
      clear B2 HL
      obtain ⟨d, i, ln, hi, rfl, rfl, rfl, hl, hdi, hL, B⟩ := hrel
      by_cases hlt : i < t.size
      · have hx := hL.out
        rw [drop_at t i hlt] at hx
        rcases hx.step with ⟨hc, hx⟩ | ⟨hc, d', hx, hy⟩
        · have e1 : ((t[i].toNat : Int) != 10) = true := by
            have := ne_u8 (n := 10) (c := t[i]) (by decide) hc
            simp only [bne]
            rw [show ((10 : Int)) = ((10 : Nat) : Int) from rfl, this]; rfl
          obtain ⟨c, k1, z1, s1⟩ := slice_one t i hlt
          obtain ⟨u, k2, z2, s2⟩ := sum_two ln c (by omega) (by omega)
          have HN : Hid (LeftT ((by_ t).drop (i + 1)) d (by_ u)) := Lib.hid (by rw [k2, k1]; exact hx)
          clear hx hc k1 k2 hL
          go_wp2_with fail
          go_roundw
          case rel => exact ⟨d, i + 1, u, by omega, by go_num, rfl, rfl, by omega, by omega, HN, B⟩
          case measure => simp [intOf]; omega
        · have e1 : ((t[i].toNat : Int) != 10) = false := by
            have := eq_u8 (n := 10) (c := t[i]) (by decide) hc
            simp only [bne]
            rw [show ((10 : Int)) = ((10 : Nat) : Int) from rfl, this]; rfl
          obtain ⟨m, E, q⟩ := line_i hx
          have qp := q.pos
          have e2 : ((ln.size : Int) == 0) = false := beq_eq_false_iff_ne.2 (by omega)
          have ixl : ∀ W, (Instr.index 9 (.string ln) (.int .i64 ((ln.size : Int) - 1))).run Tryd.prog W = .ok (.int .u8 (E.toNat : Nat)) W := fun W => by
            have h := q.last (by omega)
            rw [show ((ln.size : Int) - 1) = ((ln.size - 1 : Nat) : Int) by omega, ← h]
            go_simp
            omega
          have HM := Lib.hid q.mar
          have HB := Lib.hid q.body
          have HT := Lib.hid q.two
          have HA := Lib.hid q.tab
          have HY := Lib.hid hy
          have qe := q.ends
          clear q hx hy hc hL
          rcases qe with ⟨rfl, qd, qd'⟩ | ⟨rfl, qd, qd'⟩ | ⟨rfl, qd, qd'⟩
          · have qd2 : d = m + 1 := by omega
            clear qd
            subst d
            subst d'
            go_wp2_with fail
            go_loopw [10] (fun M wr => ∃ j : Nat, j ≤ 2 * m ∧ M = .int .i64 j ∧ Below w.heap.size w wr) (fun M _ => 2 * m - (intOf M).toNat)
            case atStart => exact ⟨0, by omega, rfl, B⟩
            case round =>
              clear B
              obtain ⟨j, hj, rfl, B⟩ := hrel
              have hj2 : j < ln.size := by omega
              by_cases hjm : j < 2 * m
              · have e3 := HM.out j hjm hj2
                go_wp2_with fail
                go_roundw
                case rel => exact ⟨j + 1, by omega, by go_num, B⟩
                case measure => simp [intOf]; omega
              · obtain rfl : j = 2 * m := by omega
                have e3 := HB.out hj2
                go_wp2_with fail
                go_loopw [11] (fun K wr => ∃ k : Nat, 2 * m ≤ k ∧ k + 1 ≤ ln.size ∧ K = .int .i64 k ∧ Below w.heap.size w wr) (fun K _ => ln.size - (intOf K).toNat)
                case atStart => exact ⟨2 * m, by omega, by omega, by go_num, B⟩
                case round =>
                  clear B
                  obtain ⟨k, hk, hk1, rfl, B⟩ := hrel
                  by_cases hkl : k + 1 < ln.size
                  · have hk0 : k < ln.size := by omega
                    obtain ⟨e4, e5⟩ := HA.out k hk hk0 hkl
                    cases e6 : ((ln[k].toNat : Int) == 32) with
                    | true =>
                      have e7 := HT.out k hk hk0 hkl e6
                      go_wp2_with fail
                      go_roundw
                      case rel => exact ⟨k + 1, by omega, by omega, by go_num, B⟩
                      case measure => simp [intOf]; omega
                    | false =>
                      go_wp2_with fail
                      go_roundw
                      case rel => exact ⟨k + 1, by omega, by omega, by go_num, B⟩
                      case measure => simp [intOf]; omega
                  · have e8 : decide ((k : Int) + 1 < (ln.size : Int)) = false := decide_eq_false (by omega)
                    go_wp2_with fail
                    go_roundw
                    case rel => exact ⟨m, i + 1, ⟨#[]⟩, by omega, by go_num, by go_num, rfl, Nat.zero_le _, by omega, HY, B⟩
                    case measure => simp [intOf]; omega
          · have qd2 : d = m := by omega
            clear qd
            subst d
            subst d'
            go_wp2_with fail
            go_loopw [10] (fun M wr => ∃ j : Nat, j ≤ 2 * m ∧ M = .int .i64 j ∧ Below w.heap.size w wr) (fun M _ => 2 * m - (intOf M).toNat)
            case atStart => exact ⟨0, by omega, rfl, B⟩
            case round =>
              clear B
              obtain ⟨j, hj, rfl, B⟩ := hrel
              have hj2 : j < ln.size := by omega
              by_cases hjm : j < 2 * m
              · have e3 := HM.out j hjm hj2
                go_wp2_with fail
                go_roundw
                case rel => exact ⟨j + 1, by omega, by go_num, B⟩
                case measure => simp [intOf]; omega
              · obtain rfl : j = 2 * m := by omega
                have e3 := HB.out hj2
                go_wp2_with fail
                go_loopw [11] (fun K wr => ∃ k : Nat, 2 * m ≤ k ∧ k + 1 ≤ ln.size ∧ K = .int .i64 k ∧ Below w.heap.size w wr) (fun K _ => ln.size - (intOf K).toNat)
                case atStart => exact ⟨2 * m, by omega, by omega, by go_num, B⟩
                case round =>
                  clear B
                  obtain ⟨k, hk, hk1, rfl, B⟩ := hrel
                  by_cases hkl : k + 1 < ln.size
                  · have hk0 : k < ln.size := by omega
                    obtain ⟨e4, e5⟩ := HA.out k hk hk0 hkl
                    cases e6 : ((ln[k].toNat : Int) == 32) with
                    | true =>
                      have e7 := HT.out k hk hk0 hkl e6
                      go_wp2_with fail
                      go_roundw
                      case rel => exact ⟨k + 1, by omega, by omega, by go_num, B⟩
                      case measure => simp [intOf]; omega
                    | false =>
                      go_wp2_with fail
                      go_roundw
                      case rel => exact ⟨k + 1, by omega, by omega, by go_num, B⟩
                      case measure => simp [intOf]; omega
                  · have e8 : decide ((k : Int) + 1 < (ln.size : Int)) = false := decide_eq_false (by omega)
                    go_wp2_with fail
                    go_roundw
                    case rel => exact ⟨m + 1, i + 1, ⟨#[]⟩, by omega, by go_num, by go_num, rfl, Nat.zero_le _, by omega, HY, B⟩
                    case measure => simp [intOf]; omega
          · have qd2 : d = m := by omega
            clear qd
            subst d
            subst d'
            go_wp2_with fail
            go_loopw [10] (fun M wr => ∃ j : Nat, j ≤ 2 * m ∧ M = .int .i64 j ∧ Below w.heap.size w wr) (fun M _ => 2 * m - (intOf M).toNat)
            case atStart => exact ⟨0, by omega, rfl, B⟩
            case round =>
              clear B
              obtain ⟨j, hj, rfl, B⟩ := hrel
              have hj2 : j < ln.size := by omega
              by_cases hjm : j < 2 * m
              · have e3 := HM.out j hjm hj2
                go_wp2_with fail
                go_roundw
                case rel => exact ⟨j + 1, by omega, by go_num, B⟩
                case measure => simp [intOf]; omega
              · obtain rfl : j = 2 * m := by omega
                have e3 := HB.out hj2
                go_wp2_with fail
                go_loopw [11] (fun K wr => ∃ k : Nat, 2 * m ≤ k ∧ k + 1 ≤ ln.size ∧ K = .int .i64 k ∧ Below w.heap.size w wr) (fun K _ => ln.size - (intOf K).toNat)
                case atStart => exact ⟨2 * m, by omega, by omega, by go_num, B⟩
                case round =>
                  clear B
                  obtain ⟨k, hk, hk1, rfl, B⟩ := hrel
                  by_cases hkl : k + 1 < ln.size
                  · have hk0 : k < ln.size := by omega
                    obtain ⟨e4, e5⟩ := HA.out k hk hk0 hkl
                    cases e6 : ((ln[k].toNat : Int) == 32) with
                    | true =>
                      have e7 := HT.out k hk hk0 hkl e6
                      go_wp2_with fail
                      go_roundw
                      case rel => exact ⟨k + 1, by omega, by omega, by go_num, B⟩
                      case measure => simp [intOf]; omega
                    | false =>
                      go_wp2_with fail
                      go_roundw
                      case rel => exact ⟨k + 1, by omega, by omega, by go_num, B⟩
                      case measure => simp [intOf]; omega
                  · have e8 : decide ((k : Int) + 1 < (ln.size : Int)) = false := decide_eq_false (by omega)
                    go_wp2_with fail
                    go_roundw
                    case rel => exact ⟨m, i + 1, ⟨#[]⟩, by omega, by go_num, by go_num, rfl, Nat.zero_le _, by omega, HY, B⟩
                    case measure => simp [intOf]; omega
      · have hend := hL.out
        rw [List.drop_eq_nil_of_le (by rw [by_len]; omega)] at hend
        obtain ⟨rfl, h2⟩ := hend.end_
        have h3 : ln = ⟨#[]⟩ := ByteArray.ext (Array.toList_inj.1 h2)
        subst h3
        clear h2 hend hL
        go_wp2_with fail
        go_ret
        exact ⟨rfl, B⟩
  · have hbad : ∃ q er, er ≠ 0 ∧ canonR s = (⟨#[]⟩, q, er) := by
      rw [canonR]
      cases hR : parseR s with
      | error x =>
        obtain ⟨er, q⟩ := x
        exact ⟨q, er, by rcases parseR_er hR with rfl | rfl | rfl <;> decide, rfl⟩
      | ok l =>
        have h6 : 65536 < (prtL 0 l).length := Classical.byContradiction (fun h => hok ⟨l, hR, h⟩)
        simp only
        rw [if_pos h6]
        exact ⟨0, 6, by decide, rfl⟩
    obtain ⟨q, er, he, hk⟩ := hbad
    have d3 : ((er : Int) != 0) = true := by
      have : ((er : Int) == 0) = false := beq_eq_false_iff_ne.2 (by omega)
      simp [bne, this]
    have cs := fun w P => Canon_any s w (⟨#[]⟩, q, er) hm' P (Lib.hid (fun l' h => by
      have hp : parse (by_ s) = .ok l' := by rw [← parseR_small (by omega)]; exact h
      obtain ⟨a, ha⟩ := parseR_cut_ok h
      obtain ⟨_, _, _, p4, p5⟩ := parse_right hp (cutR_ok ha).2
      rw [by_len] at p5
      omega)) (Lib.hid hk)
    clear hok hk hm'
    go_enter Tryd.func10, Tryd.ntmps10
    go_wp2_with fail
    refine cl.mono ?_
    rintro e w1 ⟨rfl, hb1⟩
    go_wp2_with fail
    refine (cs _ (tb.kept hb1)).mono ?_
    rintro e w2 ⟨rfl, hb2⟩
    have B2 := bthen hb1 hb2
    go_wp2_with fail
    go_ret
    exact ⟨rfl, B2⟩

end Go.Proofs.YtjebdoecigmkhaaDoor.Yl
