/- What Check of package tree comes to, for any items. -/
import Derived.Test.YtabhbcedldjjjaaGreatDoorYhead
namespace Go.Proofs.YtabhbcedldjjjaaGreatDoor.Yg
set_option linter.unusedSimpArgs false
set_option linter.unusedVariables false
open Go Go.RowKit Go.Proofs.YtabhbcedldjjjaaGreatDoor.Zk Go.Proofs.YtabhbcedldjjjaaGreatDoor.Zm Go.Proofs.YtabhbcedldjjjaaGreatDoor.Ym Go.Proofs.YtabhbcedldjjjaaGreatDoor.Bn Go.Proofs.YtabhbcedldjjjaaGreatDoor.Zp

set_option maxHeartbeats 2000000

set_option maxRecDepth 100000 in
theorem checkIn_any (N : Nat) (hN : N ≤ 1000000) : ∀ (l : List NI) (v : Value) (S : Nat → Prop) (w : World) (d : Nat), cntL l < N → d + N ≤ 1000010 → NsV S w v l → (∀ b, S b → b < w.heap.size) → WfL l → Pows w →
    Calls Tryz.prog 21 #[v, .int .i64 d] w fun e w' => e = .returned (.int .i64 (chkL d l : Nat)) ∧ Below w.heap.size w w' := by
  induction N with
  | zero => intro l v S w d h; omega
  | succ N ih =>
    intro l v S w d hc hd hv hS hwf P
    have ih := ih (by omega)
    obtain ⟨ptr, cap, rfl, hl⟩ := hv
    have HL := Lib.hid hl
    have HWf := Lib.hid hwf
    have hlen := cnt_len l
    clear hl hwf
    go_enter Tryz.func21, Tryz.ntmps21
    go_wp2_with fail
    go_loopw [10] (fun I wr => ∃ k : Nat, k ≤ l.length ∧ I = .int .i64 k ∧ Hid (chkL d (l.take k) = 0) ∧ Below w.heap.size w wr) (fun I _ => l.length - (intOf I).toNat)
    case atStart => exact ⟨0, by omega, rfl, Lib.hid (by simp [chkL]), Below.refl _ _⟩
    case round =>
      obtain ⟨k, hk, rfl, H0, B1⟩ := hrel
      by_cases hlt : k < l.length
      · obtain ⟨g, o, rfl, hf⟩ := HL.out.resolve_left (by intro e; rw [e] at hlt; simp at hlt)
        obtain ⟨nm, a, ws, b, ks, vw, vk, he, h0, x0, x1, x2, x3, x4, hw, hks⟩ := (hf.get k hlt).un
        have hcn := cnt_get l k hlt
        obtain ⟨c1, c2⟩ := chk_take d l k hlt H0.out
        have hwn := HWf.out.get k hlt
        rw [he] at hcn c1 c2 hwn
        simp only [cntN] at hcn
        obtain ⟨f1, f2, f3⟩ := hwn
        have lg := hS g h0
        obtain ⟨kp, kc, rfl, hks⟩ := hks
        obtain ⟨r, hr⟩ : ∃ r : Bool, r = true ↔ HeadOk nm ws := by
          by_cases h : HeadOk nm ws
          · exact ⟨true, by simp [h]⟩
          · exact ⟨false, by simp [h]⟩
        have ch := fun W (hB : Below w.heap.size w W) => rightHead_any S nm a ws b vw kp ks.length kc W r (hw.on hS hB) (fun b hb => Nat.lt_of_lt_of_le (hS b hb) hB.size) f1 f2 (Lib.hid hr) (P.kept hB)
        have ck : ∀ W, Below w.heap.size w W → Calls Tryz.prog 21 #[.slice kp ks.length kc, .int .i64 ((d : Int) + 1)] W fun e w' => e = .returned (.int .i64 (chkL (d + 1) ks : Nat)) ∧ Below W.heap.size W w' := fun W hB => ih ks (.slice kp ks.length kc) S W (d + 1) (by omega) (by omega) (NsV.on (W := w) ⟨kp, kc, rfl, hks⟩ hS hB) (fun b hb => Nat.lt_of_lt_of_le (hS b hb) hB.size) f3 (P.kept hB)
        replace x0 := (B1.cell (p := ⟨g, _, none⟩) lg).trans x0
        replace x1 := (B1.cell (p := ⟨g, _, none⟩) lg).trans x1
        replace x2 := (B1.cell (p := ⟨g, _, none⟩) lg).trans x2
        replace x3 := (B1.cell (p := ⟨g, _, none⟩) lg).trans x3
        replace x4 := (B1.cell (p := ⟨g, _, none⟩) lg).trans x4
        have hkl := cnt_len ks
        have lg' := Nat.lt_of_lt_of_le lg B1.size
        have hwv : ∃ p c, vw = .slice p ws.length c := by
          obtain ⟨p, c, e, _⟩ := hw
          exact ⟨p, c, e⟩
        obtain ⟨wp, wc, rfl⟩ := hwv
        have HC1 := Lib.hid c1
        have HC2 := Lib.hid c2
        have HR := Lib.hid hr
        clear hf h0 he hw hks c1 c2 f1 f2 f3 hr ih
        obtain ⟨E, hE⟩ : ∃ E, chkN d (.mk nm a ws b ks) = E := ⟨_, rfl⟩
        rw [hE] at HC1 HC2
        go_wp2_with fail
        refine (ch _ (balloc B1 _)).mono ?_
        rintro e w2 ⟨rfl, hb⟩
        have B2 := bthen (balloc B1 _) hb
        obtain ⟨_, c0, c1, c2, c3, c4⟩ := ((Box.new wr #[.string nm, .int .i64 a, .slice wp ws.length wc, .bool b, .slice kp ks.length kc] 50).kept hb).five
        clear hb ch x0 x1 x2 x3 x4
        have er : HeadOk nm ws ∨ r = false := by
          cases r with
          | true => exact .inl (HR.out.1 rfl)
          | false => exact .inr rfl
        simp only [chkN] at hE
        by_cases hh : HeadOk nm ws
        · obtain rfl := HR.out.2 hh
          by_cases hkb : 0 < ks.length ∧ b = false
          · obtain ⟨hk0, rfl⟩ := hkb
            rw [if_pos (.inr ⟨hk0, rfl⟩)] at hE
            have Y : Hid (chkL d l = 1) := Lib.hid (by rw [HC2.out (by omega), hE])
            have dk : decide (0 < ks.length) = true := decide_eq_true hk0
            have dk2 : decide ((0 : Int) < (ks.length : Int)) = true := decide_eq_true (by omega)
            clear HC1 HC2 HR ck hE hh er H0 HL HWf
            go_wp2_with fail
            refine bodyPost_ret (v := .int .i64 1) (by simp [results, Tryz.results21, go_sem]) rfl ⟨by rw [Y.out]; rfl, B2⟩
          · rw [if_neg (fun q => q.elim (fun q => q hh) hkb)] at hE
            have dk : (decide ((0 : Int) < (ks.length : Int)) = true ∧ decide (0 < ks.length) = true ∧ b = true) ∨ (decide ((0 : Int) < (ks.length : Int)) = false ∧ decide (0 < ks.length) = false) := by
              by_cases q : 0 < ks.length
              · exact .inl ⟨decide_eq_true (by omega), decide_eq_true q, by
                  cases b with
                  | true => rfl
                  | false => exact absurd ⟨q, rfl⟩ hkb⟩
              · exact .inr ⟨decide_eq_false (by omega), decide_eq_false q⟩
            by_cases hb6 : b = true ∧ d = 6
            · obtain ⟨rfl, rfl⟩ := hb6
              rw [if_pos ⟨rfl, rfl⟩] at hE
              have Y : Hid (chkL 6 l = 7) := Lib.hid (by rw [HC2.out (by omega), hE])
              clear HC1 HC2 HR ck hE hh er H0 HL HWf hkb
              rcases dk with ⟨dk1, dk2, -⟩ | ⟨dk1, dk2⟩
              all_goals
                go_wp2_with fail
                refine bodyPost_ret (v := .int .i64 7) (by simp [results, Tryz.results21, go_sem]) rfl ⟨by rw [Y.out]; rfl, B2⟩
            · rw [if_neg hb6] at hE
              have db : (b = true ∧ ((d : Int) == 6) = false) ∨ b = false := by
                cases b with
                | true => exact .inl ⟨rfl, beq_eq_false_iff_ne.2 (fun q => hb6 ⟨rfl, by omega⟩)⟩
                | false => exact .inr rfl
              rw [hE] at ck
              have hv := chk_val d (.mk nm a ws b ks)
              have hE2 : chkN d (.mk nm a ws b ks) = E := by
                simp only [chkN]
                rw [if_neg (fun q => q.elim (fun q => q hh) hkb), if_neg hb6]
                exact hE
              rw [hE2] at hv
              have dE : (E = 0 ∧ ((E : Int) != 0) = false) ∨ (¬ E = 0 ∧ ((E : Int) != 0) = true) := by
                by_cases q : E = 0
                · exact .inl ⟨q, by simp [q]⟩
                · exact .inr ⟨q, by simp [q]⟩
              clear hE hh er hkb hb6 hv hE2 HR H0
              have ck := Lib.hid ck
              rcases dE with ⟨e0, dE⟩ | ⟨e0, dE⟩
              · have HN := Lib.hid (HC1.out.trans e0)
                clear HC1 HC2 e0
                rcases dk with ⟨dk1, dk2, rfl⟩ | ⟨dk1, dk2⟩
                · rcases db with ⟨-, d6⟩ | q
                  · go_wp2_with fail
                    refine (ck.out _ B2).mono ?_
                    rintro e w3 ⟨rfl, hb3⟩
                    have B3 := bthen B2 hb3
                    clear hb3
                    go_wp2_with fail
                    go_roundw
                    case rel => exact ⟨k + 1, by omega, by go_num, HN, B3⟩
                    case measure => simp [intOf]; omega
                  · cases q
                · rcases db with ⟨rfl, d6⟩ | rfl
                  all_goals
                    go_wp2_with fail
                    refine (ck.out _ B2).mono ?_
                    rintro e w3 ⟨rfl, hb3⟩
                    have B3 := bthen B2 hb3
                    clear hb3
                    go_wp2_with fail
                    go_roundw
                    case rel => exact ⟨k + 1, by omega, by go_num, HN, B3⟩
                    case measure => simp [intOf]; omega
              · have Y : Hid (chkL d l = E) := Lib.hid (HC2.out e0)
                clear HC1 HC2 e0
                rcases dk with ⟨dk1, dk2, rfl⟩ | ⟨dk1, dk2⟩
                · rcases db with ⟨-, d6⟩ | q
                  · go_wp2_with fail
                    refine (ck.out _ B2).mono ?_
                    rintro e w3 ⟨rfl, hb3⟩
                    have B3 := bthen B2 hb3
                    clear hb3
                    go_wp2_with fail
                    refine bodyPost_ret (v := .int .i64 E) (by simp [results, Tryz.results21, go_sem]) rfl ⟨by rw [Y.out], B3⟩
                  · cases q
                · rcases db with ⟨rfl, d6⟩ | rfl
                  all_goals
                    go_wp2_with fail
                    refine (ck.out _ B2).mono ?_
                    rintro e w3 ⟨rfl, hb3⟩
                    have B3 := bthen B2 hb3
                    clear hb3
                    go_wp2_with fail
                    refine bodyPost_ret (v := .int .i64 E) (by simp [results, Tryz.results21, go_sem]) rfl ⟨by rw [Y.out], B3⟩
        · have er : r = false := by
            cases r with
            | true => exact absurd (HR.out.1 rfl) hh
            | false => rfl
          subst er
          rw [if_pos (.inl hh)] at hE
          have Y : Hid (chkL d l = 1) := Lib.hid (by rw [HC2.out (by omega), hE])
          clear HC1 HC2 HR ck hE hh er H0 HL HWf
          go_wp2_with fail
          refine bodyPost_ret (v := .int .i64 1) (by simp [results, Tryz.results21, go_sem]) rfl ⟨by rw [Y.out]; rfl, B2⟩
      · obtain rfl : k = l.length := by omega
        rw [List.take_length] at H0
        go_wp2_with fail
        refine bodyPost_ret (v := .int .i64 0) (by simp [results, Tryz.results21, go_sem]) rfl ⟨by rw [H0.out]; rfl, B1⟩

set_option maxRecDepth 100000 in
theorem Check_any (l : List NI) (v : Value) (S : Nat → Prop) (w : World) (hc : cntL l ≤ 100000) (hv : NsV S w v l) (hS : ∀ b, S b → b < w.heap.size) (hwf : WfL l) (P : Pows w) :
    Calls Tryz.prog 11 #[v] w fun e w' => e = .returned (.int .i64 (chkL 0 l : Nat)) ∧ Below w.heap.size w w' := by
  have c := checkIn_any 1000000 (by omega) l v S w 0 (by omega) (by omega) hv hS hwf P
  go_enter Tryz.func11, Tryz.ntmps11
  go_wp2_with fail
  refine c.mono ?_
  rintro e w2 ⟨rfl, hb⟩
  go_wp2_with fail
  go_ret
  exact ⟨rfl, hb⟩

end Go.Proofs.YtabhbcedldjjjaaGreatDoor.Yg
