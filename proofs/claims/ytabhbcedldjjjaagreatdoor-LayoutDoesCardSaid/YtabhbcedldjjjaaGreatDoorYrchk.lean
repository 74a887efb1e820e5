/- The reference's Check, for any items. -/
import Derived.Test.YtabhbcedldjjjaaGreatDoorYgen2
import Derived.Test.YtabhbcedldjjjaaGreatDoorJZ
import Derived.OwnWalk
import Derived.BigQuiet
namespace Go.Proofs.YtabhbcedldjjjaaGreatDoor.Yg
set_option linter.unusedSimpArgs false
set_option linter.unusedVariables false
open Go Go.RowKit Go.Proofs.YtabhbcedldjjjaaGreatDoor.Zm Go.Proofs.YtabhbcedldjjjaaGreatDoor.Ym Go.Proofs.YtabhbcedldjjjaaGreatDoor.Bn Go.Proofs.YtabhbcedldjjjaaGreatDoor.Zr

set_option maxHeartbeats 2000000

set_option maxRecDepth 100000 in
theorem rWord_any (x : WI) (w : World) (r : Int) (hm : x.s.size ≤ maxLen) (hr : Hid ((r = 0 ∧ FineW x) ∨ (r = 1 ∧ ¬ FineW x))) : Calls Tryz.prog 40 #[.agg #[.bool x.num, .int .i64 x.n, .string x.s, .int .i64 x.a]] w fun e w' => e = .returned (.int .i64 r) ∧ Below w.heap.size w w' := by
  obtain ⟨p, n, s, a⟩ := x
  have cn := fun w => rName s w hm
  cases p with
  | true =>
    have hF : FineW ⟨true, n, s, a⟩ ↔ (s = ⟨#[]⟩ ∧ 0 ≤ n ∧ n ≤ 999999999) := by
      constructor
      · rintro (⟨_, h⟩ | ⟨h, _⟩)
        · exact h
        · cases h
      · exact fun h => .inl ⟨rfl, h⟩
    by_cases h1 : s = ⟨#[]⟩
    · subst h1
      by_cases h2 : 0 ≤ n ∧ n ≤ 999999999
      · obtain rfl : r = 0 := by
          rcases hr.out with h | h
          · exact h.1
          · exact absurd (hF.2 ⟨rfl, h2⟩) h.2
        have d1 : decide (0 ≤ n) = true := decide_eq_true h2.1
        have d2 : decide (n ≤ 999999999) = true := decide_eq_true h2.2
        clear hr hF h2 cn
        go_enter Tryz.func40, Tryz.ntmps40
        go_wp2_with fail
        go_ret
        exact ⟨rfl, balloc (Below.refl _ _) _⟩
      · obtain rfl : r = 1 := by
          rcases hr.out with h | h
          · exact absurd (hF.1 h.2).2 h2
          · exact h.1
        have d1 : (decide (0 ≤ n) = true ∧ decide (n ≤ 999999999) = false) ∨ decide (0 ≤ n) = false := by
          by_cases q : 0 ≤ n
          · exact .inl ⟨decide_eq_true q, decide_eq_false (by omega)⟩
          · exact .inr (decide_eq_false q)
        clear hr hF h2 cn
        rcases d1 with ⟨d1, d2⟩ | d1
        all_goals
          go_enter Tryz.func40, Tryz.ntmps40
          go_wp2_with fail
          go_ret
          exact ⟨rfl, balloc (Below.refl _ _) _⟩
    · obtain rfl : r = 1 := by
        rcases hr.out with h | h
        · exact absurd (hF.1 h.2).1 h1
        · exact h.1
      have ds : s.toList.isEmpty = false := by
        cases h : s.toList with
        | nil =>
          refine absurd ?_ h1
          rw [ByteArray.toList_eq] at h
          exact ByteArray.ext (Array.toList_inj.1 (by simpa using h))
        | cons => rfl
      clear hr hF cn
      go_enter Tryz.func40, Tryz.ntmps40
      go_wp2_with fail
      go_ret
      exact ⟨rfl, balloc (Below.refl _ _) _⟩
  | false =>
    have hF : FineW ⟨false, n, s, a⟩ ↔ (n = 0 ∧ Zm.name (by_ s) = true) := by
      constructor
      · rintro (⟨h, _⟩ | ⟨_, h⟩)
        · cases h
        · exact h
      · exact fun h => .inr ⟨rfl, h⟩
    by_cases h1 : n = 0
    · subst h1
      obtain ⟨v, hv⟩ : ∃ v, Zm.name (by_ s) = v := ⟨_, rfl⟩
      rw [hv] at hF
      simp only [hv] at cn
      cases v with
      | true =>
        obtain rfl : r = 0 := by
          rcases hr.out with h | h
          · exact h.1
          · exact absurd (hF.2 ⟨rfl, rfl⟩) h.2
        clear hr hF hv
        go_enter Tryz.func40, Tryz.ntmps40
        go_wp2_with fail
        refine (cn _).mono ?_
        rintro e w2 ⟨rfl, hb⟩
        have B := bthen (balloc (Below.refl w.heap.size w) _) hb
        clear hb
        go_wp2_with fail
        go_ret
        exact ⟨rfl, B⟩
      | false =>
        obtain rfl : r = 1 := by
          rcases hr.out with h | h
          · have := (hF.1 h.2).2; cases this
          · exact h.1
        clear hr hF hv
        go_enter Tryz.func40, Tryz.ntmps40
        go_wp2_with fail
        refine (cn _).mono ?_
        rintro e w2 ⟨rfl, hb⟩
        have B := bthen (balloc (Below.refl w.heap.size w) _) hb
        clear hb
        go_wp2_with fail
        go_ret
        exact ⟨rfl, B⟩
    · obtain rfl : r = 1 := by
        rcases hr.out with h | h
        · exact absurd (hF.1 h.2).1 h1
        · exact h.1
      have dn : (n == 0) = false := beq_eq_false_iff_ne.2 h1
      clear hr hF cn
      go_enter Tryz.func40, Tryz.ntmps40
      go_wp2_with fail
      go_ret
      exact ⟨rfl, balloc (Below.refl _ _) _⟩

set_option maxRecDepth 100000 in
theorem rCheckI_any (N : Nat) (hN : N ≤ 1000000) : ∀ (l : List NI) (v : Value) (S : Nat → Prop) (w : World) (d : Nat), cntL l < N → d + N ≤ 1000010 → NsV S w v l → (∀ b, S b → b < w.heap.size) → WfL l →
    Calls Tryz.prog 27 #[v, .int .i64 d] w fun e w' => e = .returned (.int .i64 (chkL d l : Nat)) ∧ Below w.heap.size w w' := by
  induction N with
  | zero => intro l v S w d h; omega
  | succ N ih =>
    intro l v S w d hc hd hv hS hwf
    have ih := ih (by omega)
    obtain ⟨ptr, cap, rfl, hl⟩ := hv
    have HL := Lib.hid hl
    have HWf := Lib.hid hwf
    have hlen := cnt_len l
    clear hl hwf
    go_enter Tryz.func27, Tryz.ntmps27
    go_wp2_with fail
    go_loopw [13] (fun I wr => ∃ k : Nat, k ≤ l.length ∧ I = .int .i64 k ∧ Hid (chkL d (l.take k) = 0) ∧ Below w.heap.size w wr) (fun I _ => l.length - (intOf I).toNat)
    case atStart => exact ⟨0, by omega, rfl, Lib.hid (by simp [chkL]), Below.refl _ _⟩
    case round =>
      obtain ⟨k, hk, rfl, H0, B1⟩ := hrel
      by_cases hlt : k < l.length
      · obtain ⟨g, o, rfl, hf⟩ := HL.out.resolve_left (by intro e; rw [e] at hlt; simp at hlt)
        obtain ⟨nm, a, ws, b, ks, vw, vk, he, h0, x0, x1, x2, x3, x4, hw, hks⟩ := (hf.get k hlt).un
        have hcn := cnt_get l k hlt
        obtain ⟨c1, c2⟩ := chk_take d l k hlt H0.out
        have hwn := HWf.out.get k hlt
        rw [he] at hcn c1 c2 hwn
        simp only [cntN] at hcn
        obtain ⟨f1, f2, f3⟩ := hwn
        have lg := hS g h0
        obtain ⟨kp, kc, rfl, hks⟩ := hks
        obtain ⟨wp, wc, rfl, hw⟩ := hw
        have cn := fun w => rName nm w f1
        have ck : ∀ W, Below w.heap.size w W → Calls Tryz.prog 27 #[.slice kp ks.length kc, .int .i64 ((d : Int) + 1)] W fun e w' => e = .returned (.int .i64 (chkL (d + 1) ks : Nat)) ∧ Below W.heap.size W w' := fun W hB => ih ks (.slice kp ks.length kc) S W (d + 1) (by omega) (by omega) (NsV.on (W := w) ⟨kp, kc, rfl, hks⟩ hS hB) (fun b hb => Nat.lt_of_lt_of_le (hS b hb) hB.size) f3
        replace x0 := (B1.cell (p := ⟨g, _, none⟩) lg).trans x0
        replace x1 := (B1.cell (p := ⟨g, _, none⟩) lg).trans x1
        replace x2 := (B1.cell (p := ⟨g, _, none⟩) lg).trans x2
        replace x3 := (B1.cell (p := ⟨g, _, none⟩) lg).trans x3
        replace x4 := (B1.cell (p := ⟨g, _, none⟩) lg).trans x4
        have hkl := cnt_len ks
        have lg' := Nat.lt_of_lt_of_le lg B1.size
        obtain ⟨E, hE⟩ : ∃ E, chkN d (.mk nm a ws b ks) = E := ⟨_, rfl⟩
        rw [hE] at c1 c2
        have HC1 := Lib.hid c1
        have HC2 := Lib.hid c2
        have HEd := Lib.hid hE
        have HW := Lib.hid hw
        have HF2 := Lib.hid f2
        have ck := Lib.hid ck
        clear hf h0 he hw hks c1 c2 f1 f2 f3 ih hE H0
        have bad : ¬ HeadOk nm ws → Hid (chkL d l = 1) := fun h => Lib.hid (by
          have e : E = 1 := by rw [← HEd.out]; simp only [chkN]; exact if_pos (.inl h)
          rw [HC2.out (by omega), e])
        have key : ∀ (wx : World), Hid (Zm.name nm.data.toList = true) → ws.length ≤ 8 → True := fun _ _ _ => trivial
        obtain ⟨v0, hv0⟩ : ∃ v, Zm.name (by_ nm) = v := ⟨_, rfl⟩
        simp only [hv0] at cn
        cases v0 with
        | false =>
          have Y := bad (fun h => by have := h.2.1; rw [show Zm.name nm.data.toList = false from hv0] at this; cases this)
          clear bad key ck HC1 HC2 HEd HW HF2 hv0
          go_wp2_with fail
          refine (cn _).mono ?_
          rintro e w2 ⟨rfl, hb⟩
          have B2 := bthen (balloc B1 _) hb
          clear hb
          go_wp2_with fail
          refine bodyPost_ret (v := .int .i64 1) (by simp [results, Tryz.results27, go_sem]) rfl ⟨by rw [Y.out]; rfl, B2⟩
        | true =>
          by_cases h8 : 8 < ws.length
          · have Y := bad (fun h => by have := h.1; omega)
            have d8 : decide ((8 : Int) < (ws.length : Int)) = true := decide_eq_true (by omega)
            clear bad key ck HC1 HC2 HEd HW HF2 hv0 h8
            go_wp2_with fail
            refine (cn _).mono ?_
            rintro e w2 ⟨rfl, hb⟩
            have B2 := bthen (balloc B1 _) hb
            obtain ⟨_, c0, c1, c2, c3, c4⟩ := ((Box.new wr #[.string nm, .int .i64 a, .slice wp ws.length wc, .bool b, .slice kp ks.length kc] 50).kept hb).five
            clear hb
            go_wp2_with fail
            refine bodyPost_ret (v := .int .i64 1) (by simp [results, Tryz.results27, go_sem]) rfl ⟨by rw [Y.out]; rfl, B2⟩
          · have d8 : decide ((8 : Int) < (ws.length : Int)) = false := decide_eq_false (by omega)
            have h8' : ws.length ≤ 8 := by omega
            clear h8 key
            go_wp2_with fail
            refine (cn _).mono ?_
            rintro e w2 ⟨rfl, hb⟩
            have B2 := bthen (balloc B1 _) hb
            have K := (Box.new wr #[.string nm, .int .i64 a, .slice wp ws.length wc, .bool b, .slice kp ks.length kc] 50).kept hb
            obtain ⟨_, c0, c1, c2, c3, c4, _⟩ := id K.five
            clear hb cn x0 x1 x2 x3 x4
            go_wp2_with fail
            go_loopw [30] (fun J w3 => ∃ j : Nat, j ≤ ws.length ∧ J = .int .i64 j ∧ Hid (∀ i (h : i < ws.length), i < j → FineW ws[i]) ∧ Below w2.heap.size w2 w3) (fun J _ => ws.length - (intOf J).toNat)
            case atStart => exact ⟨0, by omega, rfl, Lib.hid (fun i _ h => by omega), Below.refl _ _⟩
            case round =>
              obtain ⟨j, hj, rfl, HJ, B3⟩ := hrel
              have B5 := bthen B2 B3
              by_cases hjt : j < ws.length
              · obtain ⟨gw, ow, rfl, hwf⟩ := HW.out.resolve_left (by intro e; rw [e] at hjt; simp at hjt)
                obtain ⟨t0, p0, p1, p2, p3⟩ := hwf.get j hjt
                have lw := hS gw t0
                replace p0 := (B5.cell (p := ⟨gw, _, none⟩) lw).trans p0
                replace p1 := (B5.cell (p := ⟨gw, _, none⟩) lw).trans p1
                replace p2 := (B5.cell (p := ⟨gw, _, none⟩) lw).trans p2
                replace p3 := (B5.cell (p := ⟨gw, _, none⟩) lw).trans p3
                have lw' := Nat.lt_of_lt_of_le lw B5.size
                have hsz : ws[j].s.size ≤ maxLen := HF2.out _ (List.getElem_mem _)
                by_cases hx : FineW ws[j]
                · have cw := fun w => rWord_any ws[j] w 0 hsz (Lib.hid (.inl ⟨rfl, hx⟩))
                  have HJ2 : Hid (∀ i (h : i < ws.length), i < j + 1 → FineW ws[i]) := Lib.hid (fun i h h3 => by
                    by_cases h4 : i < j
                    · exact HJ.out i h h4
                    · obtain rfl : i = j := by omega
                      exact hx)
                  generalize ws[j] = x at *
                  obtain ⟨xp, xn, xs, xa⟩ := x
                  simp only at p0 p1 p2 p3 cw
                  clear hwf t0 hx HJ hsz c0 c1 c2 c3 c4
                  go_wp2_with fail
                  refine (cw _).mono ?_
                  rintro e w4 ⟨rfl, hb4⟩
                  have B6 := bthen (balloc B3 _) hb4
                  clear hb4 cw
                  go_wp2_with fail
                  go_roundw
                  case rel => exact ⟨j + 1, by omega, by go_num, HJ2, B6⟩
                  case measure => simp [intOf]; omega
                · have cw := fun w => rWord_any ws[j] w 1 hsz (Lib.hid (.inr ⟨rfl, hx⟩))
                  have Y := bad (fun h => hx (h.2.2 _ (List.getElem_mem _)))
                  generalize ws[j] = x at *
                  obtain ⟨xp, xn, xs, xa⟩ := x
                  simp only at p0 p1 p2 p3 cw
                  clear hwf t0 hx HJ hsz c0 c1 c2 c3 c4 bad
                  go_wp2_with fail
                  refine (cw _).mono ?_
                  rintro e w4 ⟨rfl, hb4⟩
                  have B6 := bthen (balloc B5 _) hb4
                  clear hb4 cw
                  go_wp2_with fail
                  refine bodyPost_ret (v := .int .i64 1) (by simp [results, Tryz.results27, go_sem]) rfl ⟨by rw [Y.out]; rfl, B6⟩
              · obtain rfl : j = ws.length := by omega
                have hh : HeadOk nm ws := ⟨h8', hv0, fun x hx => by
                  obtain ⟨i, hi, rfl⟩ := List.getElem_of_mem hx
                  exact HJ.out i hi hi⟩
                obtain ⟨_, e0, e1, e2, e3, e4, _⟩ := id (K.kept B3).five
                have hE := HEd.out
                simp only [chkN] at hE
                clear c0 c1 c2 c3 c4 HJ bad
                clear K HW HF2
                by_cases hkb : 0 < ks.length ∧ b = false
                · obtain ⟨hk0, rfl⟩ := hkb
                  rw [if_pos (.inr ⟨hk0, rfl⟩)] at hE
                  have Y : Hid (chkL d l = 1) := Lib.hid (by rw [HC2.out (by omega), hE])
                  have dk : decide (0 < ks.length) = true := decide_eq_true hk0
                  have dk2 : decide ((0 : Int) < (ks.length : Int)) = true := decide_eq_true (by omega)
                  clear HC1 HC2 ck hE hh HL HWf
                  go_wp2_with fail
                  refine bodyPost_ret (v := .int .i64 1) (by simp [results, Tryz.results27, go_sem]) rfl ⟨by rw [Y.out]; rfl, B5⟩
                · rw [if_neg (fun q => q.elim (fun q => q hh) hkb)] at hE
                  have dk : (decide ((0 : Int) < (ks.length : Int)) = true ∧ decide (0 < ks.length) = true ∧ b = true) ∨ (decide ((0 : Int) < (ks.length : Int)) = false ∧ decide (0 < ks.length) = false) := by
                    by_cases q : 0 < ks.length
                    · exact .inl ⟨decide_eq_true (by omega), decide_eq_true q, by
                        cases b with
                        | true => rfl
                        | false => exact absurd ⟨q, rfl⟩ hkb⟩
                    · exact .inr ⟨decide_eq_false (by omega), decide_eq_false q⟩
                  by_cases hb6 : b = true ∧ d = 6
                  · obtain ⟨rfl, rfl⟩ := hb6
                    rw [if_pos ⟨rfl, rfl⟩] at hE
                    have Y : Hid (chkL 6 l = 7) := Lib.hid (by rw [HC2.out (by omega), hE])
                    clear HC1 HC2 ck hE hh HL HWf hkb
                    rcases dk with ⟨dk1, dk2, -⟩ | ⟨dk1, dk2⟩
                    all_goals
                      go_wp2_with fail
                      refine bodyPost_ret (v := .int .i64 7) (by simp [results, Tryz.results27, go_sem]) rfl ⟨by rw [Y.out]; rfl, B5⟩
                  · rw [if_neg hb6] at hE
                    have db : (b = true ∧ ((d : Int) == 6) = false) ∨ b = false := by
                      cases b with
                      | true => exact .inl ⟨rfl, beq_eq_false_iff_ne.2 (fun q => hb6 ⟨rfl, by omega⟩)⟩
                      | false => exact .inr rfl
                    have ck : Hid (∀ W, Below w.heap.size w W → Calls Tryz.prog 27 #[.slice kp ks.length kc, .int .i64 ((d : Int) + 1)] W fun e w' => e = .returned (.int .i64 (E : Nat)) ∧ Below W.heap.size W w') := by rw [← hE]; exact ck
                    have hv := chk_val d (.mk nm a ws b ks)
                    have hE2 : chkN d (.mk nm a ws b ks) = E := by
                      simp only [chkN]
                      rw [if_neg (fun q => q.elim (fun q => q hh) hkb), if_neg hb6]
                      exact hE
                    rw [hE2] at hv
                    have dE : (E = 0 ∧ ((E : Int) != 0) = false) ∨ (¬ E = 0 ∧ ((E : Int) != 0) = true) := by
                      by_cases q : E = 0
                      · exact .inl ⟨q, by simp [q]⟩
                      · exact .inr ⟨q, by simp [q]⟩
                    clear hE hh hkb hb6 hv hE2
                    rcases dE with ⟨e0, dE⟩ | ⟨e0, dE⟩
                    · have HN := Lib.hid (HC1.out.trans e0)
                      clear HC1 HC2 e0
                      rcases dk with ⟨dk1, dk2, rfl⟩ | ⟨dk1, dk2⟩
                      · rcases db with ⟨-, d6⟩ | q
                        · go_wp2_with fail
                          refine (ck.out _ B5).mono ?_
                          rintro e w3 ⟨rfl, hb3⟩
                          have B3 := bthen B5 hb3
                          clear hb3
                          go_wp2_with fail
                          go_roundw
                          case rel => exact ⟨k + 1, by omega, by go_num, HN, B3⟩
                          case measure => simp [intOf]; omega
                        · cases q
                      · rcases db with ⟨rfl, d6⟩ | rfl
                        all_goals
                          go_wp2_with fail
                          refine (ck.out _ B5).mono ?_
                          rintro e w3 ⟨rfl, hb3⟩
                          have B3 := bthen B5 hb3
                          clear hb3
                          go_wp2_with fail
                          go_roundw
                          case rel => exact ⟨k + 1, by omega, by go_num, HN, B3⟩
                          case measure => simp [intOf]; omega
                    · have Y : Hid (chkL d l = E) := Lib.hid (HC2.out e0)
                      clear HC1 HC2 e0
                      rcases dk with ⟨dk1, dk2, rfl⟩ | ⟨dk1, dk2⟩
                      · rcases db with ⟨-, d6⟩ | q
                        · go_wp2_with fail
                          refine (ck.out _ B5).mono ?_
                          rintro e w3 ⟨rfl, hb3⟩
                          have B3 := bthen B5 hb3
                          clear hb3
                          go_wp2_with fail
                          refine bodyPost_ret (v := .int .i64 E) (by simp [results, Tryz.results27, go_sem]) rfl ⟨by rw [Y.out], B3⟩
                        · cases q
                      · rcases db with ⟨rfl, d6⟩ | rfl
                        all_goals
                          go_wp2_with fail
                          refine (ck.out _ B5).mono ?_
                          rintro e w3 ⟨rfl, hb3⟩
                          have B3 := bthen B5 hb3
                          clear hb3
                          go_wp2_with fail
                          refine bodyPost_ret (v := .int .i64 E) (by simp [results, Tryz.results27, go_sem]) rfl ⟨by rw [Y.out], B3⟩
      · obtain rfl : k = l.length := by omega
        rw [List.take_length] at H0
        go_wp2_with fail
        refine bodyPost_ret (v := .int .i64 0) (by simp [results, Tryz.results27, go_sem]) rfl ⟨by rw [H0.out]; rfl, B1⟩

end Go.Proofs.YtabhbcedldjjjaaGreatDoor.Yg
