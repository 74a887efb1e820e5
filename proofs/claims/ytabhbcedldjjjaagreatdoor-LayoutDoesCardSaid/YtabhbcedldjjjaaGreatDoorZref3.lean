/- What Cut of the reference of layer 8 comes to. -/
import Derived.Test.YtabhbcedldjjjaaGreatDoorZcut
namespace Go.Proofs.YtabhbcedldjjjaaGreatDoor.Zr
set_option linter.unusedSimpArgs false
set_option linter.unusedVariables false
open Go.RowKit Go.Proofs.YtabhbcedldjjjaaGreatDoor.Zm Go.Proofs.YtabhbcedldjjjaaGreatDoor.Zk Go.Proofs.YtabhbcedldjjjaaGreatDoor.Zp Go.Proofs.YtabhbcedldjjjaaGreatDoor.Bn

set_option maxHeartbeats 4000000

theorem tw_facts {p : UInt8 → Bool} (s : ByteArray) (a n : Nat) (h : (((by_ s).drop a).takeWhile p).length = n) : (∀ i, a ≤ i → i < a + n → ∃ h : i < s.size, p s[i] = true) ∧ (∀ h : a + n < s.size, p s[a + n] = false) := by
  constructor
  · intro i h1 h2
    have hl : ((by_ s).drop a).length = s.size - a := by rw [List.length_drop, by_len]
    have hle := takeWhile_le (p := p) ((by_ s).drop a)
    have hi : i - a < ((by_ s).drop a).length := by omega
    have := tw_at (p := p) ((by_ s).drop a) (i - a) hi (by omega)
    refine ⟨by omega, ?_⟩
    rw [List.getElem_drop] at this
    rw [← by_get s i (by omega)]
    simpa [show a + (i - a) = i by omega] using this
  · intro h1
    have := drop_takeWhile (p := p) ((by_ s).drop a)
    rw [h, List.drop_drop] at this
    exact this _ _ (drop_at s (a + n) h1)

/-- a byte's digit -/
theorem sub48 (c : UInt8) (h : digit c = true) : IntKind.u8.wrap ((c.toNat : Int) - 48) = ((c.toNat - 48 : Nat) : Int) := by
  have := digit_bd h
  have h2 := c.toNat_lt
  simp [IntKind.wrap, IntKind.bits]; omega

set_option maxRecDepth 100000 in
theorem rCut (s : ByteArray) (w : World) (R : Except (Nat × Nat) (List Tk)) (hm : s.size ≤ maxLen) (hR : Hid (cutR s = R)) :
    Calls Tryz.prog 31 #[.string s] w fun e w' => CutRes R w e w' := by
  unfold maxLen at hm
  by_cases h0 : 65536 < s.size
  · have d1 : decide ((65536 : Int) < (s.size : Int)) = true := decide_eq_true (by omega)
    have Y : Hid (R = .error (6, 0)) := Lib.hid (by rw [← hR.out, cutR, if_pos h0])
    clear h0 hR hm
    go_enter Tryz.func31, Tryz.ntmps31
    go_wp2_with fail
    refine bodyPost_ret (v := .tuple #[.slice none 0 0, .int .i64 0, .int .i64 6]) (by simp [results, Tryz.results31, go_sem]) rfl ?_
    rw [Y.out]; exact ⟨rfl, Below.refl _ _⟩
  have d1 : decide ((65536 : Int) < (s.size : Int)) = false := decide_eq_false (by omega)
  have h65 : s.size ≤ 65536 := by omega
  have HR : Hid (cut (by_ s) 0 0 = R) := Lib.hid (by rw [← hR.out, cutR, if_neg h0])
  clear h0 hR hm
  obtain ⟨i0, hi, hz0, hz1, hz2⟩ := info_parts infoT
  go_enter Tryz.func31, Tryz.ntmps31
  go_wp2_with fail
  go_loopw [5, 6] (fun O I wr => ∃ (p : Nat) (a : List Tk), p ≤ s.size ∧ I = .int .i64 p ∧ OneT 72 w wr O a ∧ a.length ≤ 8192 ∧ Hid (tot ((by_ s).drop p) p a = R)) (fun _ I _ => 65537 - (intOf I).toNat)
  case atStart => exact ⟨0, [], by omega, rfl, OneT.start _ _ (Below.refl _ _), by simp, Lib.hid (by rw [← HR.out, List.drop_zero, tot_zero])⟩
  case round =>
    obtain ⟨p, a, hp, rfl, hO, ha, hT⟩ := hrel
    obtain ⟨ptr, cap, rfl⟩ := hO.form
    have pp : (0 : Int) ≤ (p : Int) := by omega
    by_cases hlt : p < s.size
    · have HD := Lib.hid (drop_at s p hlt)
      by_cases hb : Zm.blank s[p] = true
      · have hN : Hid (tot ((by_ s).drop (p + 1)) (p + 1) a = R) := Lib.hid (by
          rw [← hT.out, HD.out, tot_skip (n := 1) p a (by unfold Zm.step; rw [if_pos hb])]; rfl)
        unfold Zm.blank at hb
        have hb3 : (s[p].toNat : Int) = 32 ∨ (s[p].toNat : Int) = 9 ∨ (s[p].toNat : Int) = 10 := by simp at hb; omega
        clear hb
        rcases hb3 with h | h | h
        · have e1 : ((s[p].toNat : Int) == 32) = true := beq_iff_eq.2 h
          clear h
          go_wp2_with fail
          go_roundw
          case rel => exact ⟨p + 1, a, by omega, by go_num, hO, ha, hN⟩
          case measure => simp [intOf]; omega
        · have e1 : ((s[p].toNat : Int) == 32) = false := beq_eq_false_iff_ne.2 (by omega)
          have e2 : ((s[p].toNat : Int) == 9) = true := beq_iff_eq.2 h
          clear h
          go_wp2_with fail
          go_roundw
          case rel => exact ⟨p + 1, a, by omega, by go_num, hO, ha, hN⟩
          case measure => simp [intOf]; omega
        · have e1 : ((s[p].toNat : Int) == 32) = false := beq_eq_false_iff_ne.2 (by omega)
          have e2 : ((s[p].toNat : Int) == 9) = false := beq_eq_false_iff_ne.2 (by omega)
          have e3 : ((s[p].toNat : Int) == 10) = true := beq_iff_eq.2 h
          clear h
          go_wp2_with fail
          go_roundw
          case rel => exact ⟨p + 1, a, by omega, by go_num, hO, ha, hN⟩
          case measure => simp [intOf]; omega
      have hbl : Zm.blank s[p] = false := by simpa using hb
      have e1 : ((s[p].toNat : Int) == 32) = false := beq_eq_false_iff_ne.2 (by unfold Zm.blank at hbl; simp at hbl; omega)
      have e2 : ((s[p].toNat : Int) == 9) = false := beq_eq_false_iff_ne.2 (by unfold Zm.blank at hbl; simp at hbl; omega)
      have e3 : ((s[p].toNat : Int) == 10) = false := beq_eq_false_iff_ne.2 (by unfold Zm.blank at hbl; simp at hbl; omega)
      clear hb
      by_cases h35 : s[p].toNat = 35
      · have e4 : ((s[p].toNat : Int) == 35) = true := beq_iff_eq.2 (by omega)
        obtain ⟨m, hmm⟩ : ∃ m, (((by_ s).drop p).takeWhile onLine).length = m := ⟨_, rfl⟩
        obtain ⟨f1, f2⟩ := tw_facts s p m hmm
        have hml : m ≤ s.size - p := by rw [← hmm, ← by_len, ← List.length_drop]; exact takeWhile_le _
        have hm1 : 1 ≤ m := by rw [← hmm, HD.out, List.takeWhile_cons, if_pos (by unfold onLine; rw [h35]; rfl)]; simp
        have hN : Hid (tot ((by_ s).drop (p + m)) (p + m) a = R) := Lib.hid (by
          have e := tot_remark (c := s[p]) (r := (by_ s).drop (p + 1)) p a h35
          rw [← HD.out, hmm, List.drop_drop] at e
          rw [← e]; exact hT.out)
        have F1 := Lib.hid f1
        have F2 := Lib.hid f2
        clear f1 f2 hmm hbl h35 hT HD
        obtain ⟨q, hq⟩ : ∃ q, p + m = q := ⟨_, rfl⟩
        rw [hq] at hN F1 F2
        have hpq : p < q := by omega
        have hqs : q ≤ s.size := by omega
        clear hq hml hm1
        go_wp2_with fail
        go_loop [6] (fun J => ∃ i : Nat, p ≤ i ∧ i ≤ q ∧ J = .int .i64 i) (fun J => 65537 - (intOf J).toNat)
        case atStart => exact ⟨p, by omega, by omega, rfl⟩
        case round =>
          obtain ⟨i, hi1, hi2, rfl⟩ := hrel
          by_cases hiq : i < q
          · obtain ⟨his, hon⟩ := F1.out i hi1 hiq
            have e5 : ((s[i].toNat : Int) != 10) = true := by unfold onLine at hon; simp at hon; rw [bne_iff_ne]; omega
            clear hon
            go_wp2_with fail
            go_round
            case rel => exact ⟨i + 1, by omega, by omega, by go_num⟩
            case measure => simp [intOf]; omega
          · obtain rfl : i = q := by omega
            by_cases his : i < s.size
            · have e5 : ((s[i].toNat : Int) != 10) = false := by have hon := F2.out his; unfold onLine at hon; simp at hon; simp [hon]
              go_wp2_with fail
              go_roundw
              case rel => exact ⟨i, a, by omega, rfl, hO, ha, hN⟩
              case measure => simp [intOf]; omega
            · obtain rfl : i = s.size := by omega
              go_wp2_with fail
              go_roundw
              case rel => exact ⟨s.size, a, by omega, rfl, hO, ha, hN⟩
              case measure => simp [intOf]; omega
      have e4 : ((s[p].toNat : Int) == 35) = false := beq_eq_false_iff_ne.2 (by omega)
      have cl := rletter s[p]
      have cd := rdigit s[p]
      have ck := rkind s[p]
      obtain ⟨kb, hkb⟩ : ∃ kb, kindB s[p] = kb := ⟨_, rfl⟩
      have hns := step_not_skip (r := (by_ s).drop (p + 1)) hbl h35
      by_cases hk0 : kb = 0
      · have hk := kindB_cases s[p]
        have hz : letter s[p] = false ∧ digit s[p] = false ∧ s[p].toNat ≠ 123 ∧ s[p].toNat ≠ 125 ∧ s[p].toNat ≠ 59 := by
          rcases hk with ⟨h, _⟩ | ⟨h, _⟩ | ⟨h, _⟩ | ⟨h, _⟩ | ⟨h, _⟩ | ⟨_, h⟩
          all_goals first | exact h | (exfalso; omega)
        have hsg : sign s[p] = 0 := by unfold sign; rw [if_neg hz.2.2.1, if_neg hz.2.2.2.1, if_neg hz.2.2.2.2]
        rw [hz.1] at cl
        rw [hz.2.1] at cd
        rw [hsg] at ck
        have Y : Hid (R = .error (5, p)) := Lib.hid (by rw [← hT.out, HD.out, tot_wrong _ _ (step_wrong hbl h35 (hkb.trans hk0))])
        have hBw := hO.below
        clear hk hz hsg hkb hk0 hns hbl h35 HD hT hO
        go_wp2_with fail
        refine (cl _).mono ?_
        rintro e w0 ⟨rfl, rfl⟩
        go_wp2_with fail
        refine (cd _).mono ?_
        rintro e w0 ⟨rfl, rfl⟩
        go_wp2_with fail
        refine (ck _).mono ?_
        rintro e w0 ⟨rfl, rfl⟩
        go_wp2_with fail
        refine bodyPost_ret (v := .tuple #[.slice none 0 0, .int .i64 p, .int .i64 5]) (by simp [results, Tryz.results31, go_sem]) rfl ?_
        rw [Y.out]; exact ⟨rfl, hBw⟩
      have hnw := step_not_wrong (c := s[p]) (r := (by_ s).drop (p + 1)) (by rw [hkb]; exact hk0)
      by_cases hfull : a.length = 8192
      · have d2 : ((a.length : Int) == 8192) = true := beq_iff_eq.2 (by omega)
        have Y : Hid (R = .error (6, p)) := Lib.hid (by rw [← hT.out, HD.out, tot_full _ _ hns hnw hfull])
        have hBw := hO.below
        rcases kindB_cases s[p] with ⟨h, h1⟩ | ⟨h, h1, h2⟩ | hx
        · rw [h1] at cl
          clear h h1 hkb hk0 hns hnw hbl h35 HD hT hO hfull
          go_wp2_with fail
          refine (cl _).mono ?_
          rintro e w0 ⟨rfl, rfl⟩
          go_wp2_with fail
          refine bodyPost_ret (v := .tuple #[.slice none 0 0, .int .i64 p, .int .i64 6]) (by simp [results, Tryz.results31, go_sem]) rfl ?_
          rw [Y.out]; exact ⟨rfl, hBw⟩
        · rw [h1] at cl
          rw [h2] at cd
          clear h h1 h2 hkb hk0 hns hnw hbl h35 HD hT hO hfull
          go_wp2_with fail
          refine (cl _).mono ?_
          rintro e w0 ⟨rfl, rfl⟩
          go_wp2_with fail
          refine (cd _).mono ?_
          rintro e w0 ⟨rfl, rfl⟩
          go_wp2_with fail
          refine bodyPost_ret (v := .tuple #[.slice none 0 0, .int .i64 p, .int .i64 6]) (by simp [results, Tryz.results31, go_sem]) rfl ?_
          rw [Y.out]; exact ⟨rfl, hBw⟩
        · have hl : letter s[p] = false := by
            cases e : letter s[p] with
            | false => rfl
            | true => have := kindB_letter e; rcases hx with ⟨h, _⟩ | ⟨h, _⟩ | ⟨h, _⟩ | ⟨h, _⟩ <;> omega
          have hd : digit s[p] = false := by
            cases e : digit s[p] with
            | false => rfl
            | true => have := kindB_digit e; rcases hx with ⟨h, _⟩ | ⟨h, _⟩ | ⟨h, _⟩ | ⟨h, _⟩ <;> omega
          have hsg : sign s[p] = kb := by rw [← hkb]; unfold sign kindB; rw [hl, hd]; simp
          have hk3 : ((kb : Int) == 0) = false := beq_eq_false_iff_ne.2 (by omega)
          rw [hl] at cl
          rw [hd] at cd
          rw [hsg] at ck
          clear hx hl hd hsg hkb hk0 hns hnw hbl h35 HD hT hO hfull
          go_wp2_with fail
          refine (cl _).mono ?_
          rintro e w0 ⟨rfl, rfl⟩
          go_wp2_with fail
          refine (cd _).mono ?_
          rintro e w0 ⟨rfl, rfl⟩
          go_wp2_with fail
          refine (ck _).mono ?_
          rintro e w0 ⟨rfl, rfl⟩
          go_wp2_with fail
          refine bodyPost_ret (v := .tuple #[.slice none 0 0, .int .i64 p, .int .i64 6]) (by simp [results, Tryz.results31, go_sem]) rfl ?_
          rw [Y.out]; exact ⟨rfl, hBw⟩
      have d2 : ((a.length : Int) == 8192) = false := beq_eq_false_iff_ne.2 (by omega)
      have hal : a.length < 8192 := by omega
      have ht0 : ∀ k n t len, Zm.step s[p] ((by_ s).drop (p + 1)) = .tok k n t len → p + len ≤ s.size → Hid (tot ((by_ s).drop (p + len)) (p + len) (a ++ [⟨k, p, n, t⟩]) = R) := fun k n t len hst hle => Lib.hid (by
        have hlen := step_tok_le hst
        rw [← hT.out, HD.out, tot_tok _ _ hst hfull, List.drop_drop, show p + 1 + (len - 1) = p + len by omega])
      have he0 : ∀ er o, Zm.step s[p] ((by_ s).drop (p + 1)) = .err er o → R = .error (er, p + o) := fun er o hst => by rw [← hT.out, HD.out, tot_err _ _ hst hfull]
      by_cases hl : letter s[p] = true
      · have hsg : sign s[p] = 0 := by
          have h1 := hl; unfold letter at h1; simp at h1
          unfold sign; rw [if_neg (by omega), if_neg (by omega), if_neg (by omega)]
        have hdf := (letter_facts hl).2.2
        rw [hl] at cl
        rw [hdf] at cd
        rw [hsg] at ck
        obtain ⟨n, hn⟩ : ∃ n, (((by_ s).drop p).takeWhile inner).length = n := ⟨_, rfl⟩
        obtain ⟨f1, f2⟩ := tw_facts s p n hn
        have hnl : n ≤ s.size - p := by rw [← hn, ← by_len, ← List.length_drop]; exact takeWhile_le _
        have hn1 : (((by_ s).drop (p + 1)).takeWhile inner).length + 1 = n := by
          rw [← hn, HD.out, List.takeWhile_cons, if_pos (letter_inner hl)]; rfl
        have hst := step_letter (r := (by_ s).drop (p + 1)) hl
        rw [hn1] at hst
        obtain ⟨q, hq⟩ : ∃ q, p + n = q := ⟨_, rfl⟩
        rw [hq] at f1 f2
        have hpq : p < q := by omega
        have hqs : q ≤ s.size := by omega
        have F1 := Lib.hid f1
        have F2 := Lib.hid f2
        have S2 : IntKind.i64.wrap ((q : Int) - (p : Int)) = (n : Int) := by rw [IntWalk.i64_in _ (by omega)]; omega
        obtain ⟨t2, ht2, hz2, hs2⟩ := slice_mid s p q (by omega) hqs
        have Y0 : Hid (16 < n → R = .error (6, p)) := Lib.hid (fun h => by rw [if_pos h] at hst; exact he0 _ _ hst)
        have N0 : Hid (¬ 16 < n → tot ((by_ s).drop q) q (a ++ [⟨1, p, 0, s[p] :: ((by_ s).drop (p + 1)).takeWhile inner⟩]) = R) := Lib.hid (fun h => by
          rw [if_neg h] at hst; rw [← hq]; exact (ht0 _ _ _ _ hst (by omega)).out)
        have V2 : Hid (t2 = ⟨(s[p] :: ((by_ s).drop (p + 1)).takeWhile inner).toArray⟩) := Lib.hid (of_by (by
          rw [ht2, HD.out, show q - p = (((by_ s).drop (p + 1)).takeWhile inner).length + 1 by omega, List.take_succ_cons, take_takeWhile]))
        generalize s[p] :: ((by_ s).drop (p + 1)).takeWhile inner = nm at *
        have hBw := hO.below
        clear f1 f2 hn hnl hn1 hst hq hsg hdf hl hkb hk0 hns hnw hbl h35 HD hT hfull ht0 he0 ht2 hz2
        go_wp2_with fail
        refine (cl _).mono ?_
        rintro e w0 ⟨rfl, rfl⟩
        go_wp2_with fail
        refine (ck _).mono ?_
        rintro e w0 ⟨rfl, rfl⟩
        go_wp2_with fail
        refine (cl _).mono ?_
        rintro e w0 ⟨rfl, rfl⟩
        go_wp2_with fail
        go_loop [8] (fun J => ∃ i : Nat, p < i ∧ i ≤ q ∧ J = .int .i64 i) (fun J => 65537 - (intOf J).toNat)
        case atStart => exact ⟨p + 1, by omega, by omega, by go_num⟩
        case round =>
          obtain ⟨i, hi1, hi2, rfl⟩ := hrel
          by_cases hiq : i < q
          · obtain ⟨his, hon⟩ := F1.out i (by omega) hiq
            have ci := fun w => rinner s[i] w
            rw [hon] at ci
            clear hon
            go_wp2_with fail
            refine (ci _).mono ?_
            rintro e w0 ⟨rfl, rfl⟩
            go_wp2_with fail
            go_round
            case rel => exact ⟨i + 1, by omega, by omega, by go_num⟩
            case measure => simp [intOf]; omega
          · obtain rfl : i = q := by omega
            clear hi2 hiq
            by_cases h16 : 16 < n
            · have d3 : decide ((16 : Int) < (n : Int)) = true := decide_eq_true (by omega)
              have Y := Lib.hid (Y0.out h16)
              clear Y0 N0 h16
              by_cases his : i < s.size
              · have ci := fun w => rinner s[i] w
                rw [F2.out his] at ci
                go_wp2_with fail
                refine (ci _).mono ?_
                rintro e w0 ⟨rfl, rfl⟩
                go_wp2_with fail
                refine bodyPost_ret (v := .tuple #[.slice none 0 0, .int .i64 p, .int .i64 6]) (by simp [results, Tryz.results31, go_sem]) rfl ?_
                rw [Y.out]; exact ⟨rfl, balloc hBw _⟩
              · obtain rfl : i = s.size := by omega
                go_wp2_with fail
                refine bodyPost_ret (v := .tuple #[.slice none 0 0, .int .i64 p, .int .i64 6]) (by simp [results, Tryz.results31, go_sem]) rfl ?_
                rw [Y.out]; exact ⟨rfl, balloc hBw _⟩
            · have d3 : decide ((16 : Int) < (n : Int)) = false := decide_eq_false (by omega)
              have HN := Lib.hid (N0.out h16)
              clear Y0 N0 h16
              by_cases his : i < s.size
              · have ci := fun w => rinner s[i] w
                rw [F2.out his] at ci
                go_wp2_with fail
                refine (ci _).mono ?_
                rintro e w0 ⟨rfl, rfl⟩
                go_wp2_with fail
                refine (cd _).mono ?_
                rintro e w0 ⟨rfl, rfl⟩
                have sz := hO.below.size
                go_wp2_with (first
                  | (at_builtin; refine wpList_append_own _ rfl _ _ 66 rfl w.heap.size 72 i0 (.agg #[.int .i64 0, .int .i64 0, .int .i64 0, .string ⟨#[]⟩]) 4 40 underT hi hz0 hz1 hz2 rfl (by decide) _ a.length (tks a) rfl ((hO.a.alloc _).alloc _) ⟨wr.heap.size + 1, 0, none⟩ 1 1 [.int .i64 1, .int .i64 (p : Nat), .int .i64 0, .string t2] rfl rfl ?h1a ?h1b ?h1c ?h1d ?h1e ?h1m))
                try case h1a =>
                  intro j u hj
                  match j, hj with
                  | 0, hj => simp at hj; subst hj; simp [Addr.add, go_sem]
                  | 1, hj => simp at hj; subst hj; simp [Addr.add, go_sem]
                  | 2, hj => simp at hj; subst hj; simp [Addr.add, go_sem]
                  | 3, hj => simp at hj; subst hj; simp [Addr.add, go_sem]
                case h1b => first | exact ⟨rfl, rfl, rfl, rfl⟩ | (intro u hu; simp at hu; rcases hu with rfl | rfl | rfl | rfl <;> rfl)
                case h1c => unfold maxLen; omega
                case h1d => omega
                case h1e => first | omega | (simp; omega)
                intro v3 w3 hown3 hg3 _
                have X3 := (hO.kept (balloc (Below.refl _ _) (.cells #[.int .i64 1, .int .i64 (p : Nat), .int .i64 0, .string t2] 72))).grow (t := ⟨1, p, 0, nm⟩) (v2 := v3) (by rw [V2.out] at hown3; exact hown3) hg3
                clear hown3 hg3 hO sz
                go_wp2_with fail
                go_roundw
                case rel => exact ⟨i, _, hqs, by go_num, X3, by simp; omega, HN⟩
                case measure => simp [intOf]; omega
              · obtain rfl : i = s.size := by omega
                go_wp2_with fail
                refine (cd _).mono ?_
                rintro e w0 ⟨rfl, rfl⟩
                have sz := hO.below.size
                go_wp2_with (first
                  | (at_builtin; refine wpList_append_own _ rfl _ _ 66 rfl w.heap.size 72 i0 (.agg #[.int .i64 0, .int .i64 0, .int .i64 0, .string ⟨#[]⟩]) 4 40 underT hi hz0 hz1 hz2 rfl (by decide) _ a.length (tks a) rfl ((hO.a.alloc _).alloc _) ⟨wr.heap.size + 1, 0, none⟩ 1 1 [.int .i64 1, .int .i64 (p : Nat), .int .i64 0, .string t2] rfl rfl ?h2a ?h2b ?h2c ?h2d ?h2e ?h2m))
                try case h2a =>
                  intro j u hj
                  match j, hj with
                  | 0, hj => simp at hj; subst hj; simp [Addr.add, go_sem]
                  | 1, hj => simp at hj; subst hj; simp [Addr.add, go_sem]
                  | 2, hj => simp at hj; subst hj; simp [Addr.add, go_sem]
                  | 3, hj => simp at hj; subst hj; simp [Addr.add, go_sem]
                case h2b => first | exact ⟨rfl, rfl, rfl, rfl⟩ | (intro u hu; simp at hu; rcases hu with rfl | rfl | rfl | rfl <;> rfl)
                case h2c => unfold maxLen; omega
                case h2d => omega
                case h2e => first | omega | (simp; omega)
                intro v3 w3 hown3 hg3 _
                have X3 := (hO.kept (balloc (Below.refl _ _) (.cells #[.int .i64 1, .int .i64 (p : Nat), .int .i64 0, .string t2] 72))).grow (t := ⟨1, p, 0, nm⟩) (v2 := v3) (by rw [V2.out] at hown3; exact hown3) hg3
                clear hown3 hg3 hO sz
                go_wp2_with fail
                go_roundw
                case rel => exact ⟨s.size, _, hqs, by go_num, X3, by simp; omega, HN⟩
                case measure => simp [intOf]; omega
      have hl' : letter s[p] = false := by simpa using hl
      rw [hl'] at cl
      by_cases hd : digit s[p] = true
      · have hdb := digit_bd hd
        have hsg : sign s[p] = 0 := by
          unfold sign; rw [if_neg (by omega), if_neg (by omega), if_neg (by omega)]
        rw [hd] at cd
        rw [hsg] at ck
        obtain ⟨n, hn⟩ : ∃ n, (((by_ s).drop p).takeWhile digit).length = n := ⟨_, rfl⟩
        obtain ⟨f1, f2⟩ := tw_facts s p n hn
        have hnl : n ≤ s.size - p := by rw [← hn, ← by_len, ← List.length_drop]; exact takeWhile_le _
        have hn1 : (((by_ s).drop (p + 1)).takeWhile digit).length + 1 = n := by
          rw [← hn, HD.out, List.takeWhile_cons, if_pos hd]; rfl
        have hst := step_digit (r := (by_ s).drop (p + 1)) hd
        rw [hn1] at hst
        obtain ⟨q, hq⟩ : ∃ q, p + n = q := ⟨_, rfl⟩
        rw [hq] at f1 f2
        have hpq : p < q := by omega
        have hqs : q ≤ s.size := by omega
        have F1 := Lib.hid f1
        have F2 := Lib.hid f2
        have S2 : IntKind.i64.wrap ((q : Int) - (p : Int)) = (n : Int) := by rw [IntWalk.i64_in _ (by omega)]; omega
        have hsi : startsInner (((by_ s).drop (p + 1)).drop (((by_ s).drop (p + 1)).takeWhile digit).length) = true ↔ ∃ h : q < s.size, inner s[q] = true := by
          rw [List.drop_drop, show p + 1 + (((by_ s).drop (p + 1)).takeWhile digit).length = q by omega]
          constructor
          · intro h
            rcases Nat.lt_or_ge q s.size with g | g
            · refine ⟨g, ?_⟩; rw [drop_at s q g] at h; exact h
            · rw [List.drop_eq_nil_of_le (by rw [by_len]; omega)] at h; cases h
          · rintro ⟨h, h2⟩; rw [drop_at s q h]; exact h2
        have hdg : ∀ d ∈ s[p] :: ((by_ s).drop (p + 1)).takeWhile digit, digit d = true := fun d hd' => by
          rcases List.mem_cons.1 hd' with rfl | hd'
          · exact hd
          · exact mem_takeWhile _ d hd'
        have hbt : ((by_ s).drop p).take n = s[p] :: ((by_ s).drop (p + 1)).takeWhile digit := by
          rw [HD.out, ← hn1, List.take_succ_cons, take_takeWhile]
        have Y6 : Hid (9 < n → R = .error (6, p)) := Lib.hid (fun h => by rw [if_pos h] at hst; exact he0 _ _ hst)
        have Y5 : Hid (¬ 9 < n → s[p].toNat = 48 ∧ 1 < n → R = .error (5, p)) := Lib.hid (fun h h' => by rw [if_neg h, if_pos h'] at hst; exact he0 _ _ hst)
        have YQ : Hid (¬ 9 < n → ¬ (s[p].toNat = 48 ∧ 1 < n) → (∃ h : q < s.size, inner s[q] = true) → R = .error (5, q)) := Lib.hid (fun h h' h'' => by rw [if_neg h, if_neg h', if_pos (hsi.2 h'')] at hst; rw [← hq]; exact he0 _ _ hst)
        have N0 : Hid (¬ 9 < n → ¬ (s[p].toNat = 48 ∧ 1 < n) → ¬ (∃ h : q < s.size, inner s[q] = true) → tot ((by_ s).drop q) q (a ++ [⟨2, p, val (((by_ s).drop p).take n), []⟩]) = R) := Lib.hid (fun h h' h'' => by
          rw [if_neg h, if_neg h', if_neg (fun g => h'' (hsi.1 g))] at hst; rw [← hq, hbt]; exact (ht0 _ _ _ _ hst (by omega)).out)
        have HVB : Hid (∀ i, p ≤ i → i ≤ q → ¬ 9 < n → val (((by_ s).drop p).take (i - p)) ≤ 999999999) := Lib.hid (fun i h1 h2 h3 => by
          have hall : ∀ c ∈ ((by_ s).drop p).take (i - p), digit c = true := fun c hc => by
            have : c ∈ ((by_ s).drop p).take n := by
              have e : ((by_ s).drop p).take (i - p) = (((by_ s).drop p).take n).take (i - p) := by rw [List.take_take, Nat.min_eq_left (by omega)]
              rw [e] at hc; exact List.mem_of_mem_take hc
            rw [hbt] at this; exact hdg c this
          have h4 := val_lt _ hall
          have h5 : 10 ^ (((by_ s).drop p).take (i - p)).length ≤ 10 ^ 9 := Nat.pow_le_pow_right (by decide) (by rw [List.length_take]; omega)
          omega)
        have HVS : Hid (∀ i, p ≤ i → ∀ h : i < s.size, val (((by_ s).drop p).take (i + 1 - p)) = 10 * val (((by_ s).drop p).take (i - p)) + (s[i].toNat - 48)) := Lib.hid (fun i h1 h => by
          have hl' : i - p < ((by_ s).drop p).length := by rw [List.length_drop, by_len]; omega
          rw [show i + 1 - p = (i - p) + 1 by omega, List.take_succ_eq_append_getElem hl', val_snoc]
          rw [List.getElem_drop]
          have := by_get s i h
          simp only [show p + (i - p) = i by omega]
          rw [this])
        have hBw := hO.below
        clear f1 f2 hn hnl hn1 hst hq hsg hdb hsi hdg hbt hd hl hl' hkb hk0 hns hnw hbl h35 HD hT hfull ht0 he0
        obtain ⟨x2, e48⟩ : ∃ x2 : Bool, ((s[p].toNat : Int) == 48) = x2 := ⟨_, rfl⟩
        have H48 : Hid (s[p].toNat = 48 ↔ x2 = true) := Lib.hid (by rw [← e48, beq_iff_eq]; omega)
        obtain ⟨x3, e1n⟩ : ∃ x3 : Bool, decide ((1 : Int) < (n : Int)) = x3 := ⟨_, rfl⟩
        have H1n : Hid (1 < n ↔ x3 = true) := Lib.hid (by rw [← e1n, decide_eq_true_iff]; omega)
        go_wp2_with fail
        refine (cl _).mono ?_
        rintro e w0 ⟨rfl, rfl⟩
        go_wp2_with fail
        refine (cd _).mono ?_
        rintro e w0 ⟨rfl, rfl⟩
        go_wp2_with fail
        refine (ck _).mono ?_
        rintro e w0 ⟨rfl, rfl⟩
        go_wp2_with fail
        refine (cl _).mono ?_
        rintro e w0 ⟨rfl, rfl⟩
        go_wp2_with fail
        refine (cd _).mono ?_
        rintro e w0 ⟨rfl, rfl⟩
        go_wp2_with fail
        go_loop [8] (fun J => ∃ i : Nat, p < i ∧ i ≤ q ∧ J = .int .i64 i) (fun J => 65537 - (intOf J).toNat)
        case atStart => exact ⟨p + 1, by omega, by omega, by go_num⟩
        case round =>
          obtain ⟨i, hi1, hi2, rfl⟩ := hrel
          by_cases hiq : i < q
          · obtain ⟨his, hon⟩ := F1.out i (by omega) hiq
            have ci := fun w => rdigit s[i] w
            rw [hon] at ci
            clear hon
            go_wp2_with fail
            refine (ci _).mono ?_
            rintro e w0 ⟨rfl, rfl⟩
            go_wp2_with fail
            go_round
            case rel => exact ⟨i + 1, by omega, by omega, by go_num⟩
            case measure => simp [intOf]; omega
          · obtain rfl : i = q := by omega
            clear hi2 hiq
            by_cases his : i < s.size
            · have ci := fun w => rdigit s[i] w
              rw [F2.out his] at ci
              by_cases h9 : 9 < n
              · have d3 : decide ((9 : Int) < (n : Int)) = true := decide_eq_true (by omega)
                have Y := Lib.hid (Y6.out h9)
                clear Y6 Y5 YQ N0 h9 HVB HVS
                go_wp2_with fail
                refine (ci _).mono ?_
                rintro e w0 ⟨rfl, rfl⟩
                go_wp2_with fail
                refine bodyPost_ret (v := .tuple #[.slice none 0 0, .int .i64 p, .int .i64 6]) (by simp [results, Tryz.results31, go_sem]) rfl ?_
                rw [Y.out]; exact ⟨rfl, balloc hBw _⟩
              have d3 : decide ((9 : Int) < (n : Int)) = false := decide_eq_false (by omega)
              have n9 : n ≤ 9 := by omega
              by_cases h48 : s[p].toNat = 48 ∧ 1 < n
              · have Y := Lib.hid (Y5.out h9 h48)
                have e48' : x2 = true := H48.out.1 h48.1
                have e1n' : x3 = true := H1n.out.1 h48.2
                subst e48' e1n'
                clear Y6 Y5 YQ N0 h9 h48 HVB HVS H48 H1n
                go_wp2_with fail
                refine (ci _).mono ?_
                rintro e w0 ⟨rfl, rfl⟩
                go_wp2_with fail
                refine bodyPost_ret (v := .tuple #[.slice none 0 0, .int .i64 p, .int .i64 5]) (by simp [results, Tryz.results31, go_sem]) rfl ?_
                rw [Y.out]; exact ⟨rfl, balloc hBw _⟩
              have h23 : x2 = false ∨ (x2 = true ∧ x3 = false) := by
                cases x2 with
                | false => exact .inl rfl
                | true => cases x3 with
                  | false => exact .inr ⟨rfl, rfl⟩
                  | true => exact absurd ⟨H48.out.2 rfl, H1n.out.2 rfl⟩ h48
              by_cases hin : inner s[i] = true
              · have ci2 := fun w => rinner s[i] w
                rw [hin] at ci2
                have Y := Lib.hid (YQ.out h9 h48 ⟨his, hin⟩)
                clear Y6 Y5 YQ N0 h9 h48 HVB HVS H48 H1n hin
                rcases h23 with rfl | ⟨rfl, rfl⟩
                all_goals
                  go_wp2_with fail
                  refine (ci _).mono ?_
                  rintro e w0 ⟨rfl, rfl⟩
                  go_wp2_with fail
                  refine (ci2 _).mono ?_
                  rintro e w0 ⟨rfl, rfl⟩
                  go_wp2_with fail
                  refine bodyPost_ret (v := .tuple #[.slice none 0 0, .int .i64 i, .int .i64 5]) (by simp [results, Tryz.results31, go_sem]) rfl ?_
                  rw [Y.out]; exact ⟨rfl, balloc hBw _⟩
              have hinf : inner s[i] = false := by simpa using hin
              have ci2 := fun w => rinner s[i] w
              rw [hinf] at ci2
              have HN := Lib.hid (N0.out h9 h48 (fun ⟨_, g⟩ => hin g))
              have HNQ : Hid (i - p = n) := Lib.hid (by have := S2; rw [IntWalk.i64_in _ (by omega)] at this; omega)
              clear Y6 Y5 YQ N0 h9 h48 H48 H1n hin hinf
              rcases h23 with rfl | ⟨rfl, rfl⟩
              · go_wp2_with fail
                refine (ci _).mono ?_
                rintro e w0 ⟨rfl, rfl⟩
                go_wp2_with fail
                refine (ci2 _).mono ?_
                rintro e w0 ⟨rfl, rfl⟩
                go_wp2_with fail
                go_loop [10, 11] (fun N J => ∃ k : Nat, p ≤ k ∧ k ≤ i ∧ J = .int .i64 k ∧ N = .int .i64 (val (((by_ s).drop p).take (k - p)) : Nat)) (fun _ J => 65537 - (intOf J).toNat)
                case atStart => exact ⟨p, by omega, by omega, rfl, by rw [Nat.sub_self]; rfl⟩
                case round =>
                  obtain ⟨k, hk1, hk2, rfl, rfl⟩ := hrel
                  by_cases hkq : k < i
                  · obtain ⟨hks, hdk⟩ := F1.out k (by omega) hkq
                    have hs := HVS.out k hk1 hks
                    have hb1 := HVB.out k hk1 (by omega) (by omega)
                    have hb2 := HVB.out (k + 1) (by omega) (by omega) (by omega)
                    have hdb := digit_bd hdk
                    have hx : Hid ((val (((by_ s).drop p).take (k + 1 - p)) : Int) = 10 * (val (((by_ s).drop p).take (k - p)) : Int) + ((s[k].toNat : Int) - 48)) := Lib.hid (by omega)
                    have c0 : (48 : Int) ≤ (s[k].toNat : Int) := by omega
                    have c9 : (s[k].toNat : Int) ≤ 57 := by omega
                    have v9 : (val (((by_ s).drop p).take (k - p)) : Int) ≤ 99999999 := by
                      have := hx.out; omega
                    have v0 : (0 : Int) ≤ (val (((by_ s).drop p).take (k - p)) : Int) := by omega
                    clear hs hb1 hb2 hdb hdk
                    generalize (val (((by_ s).drop p).take (k - p)) : Int) = V at *
                    generalize hC : (s[k].toNat : Int) = C at *
                    go_wp2_with fail
                    go_round
                    case rel => exact ⟨k + 1, by omega, by omega, by go_num, by rw [hx.out]⟩
                    case measure => simp [intOf]; omega
                  · obtain rfl : k = i := by omega
                    have HN2 : Hid (val (((by_ s).drop p).take (k - p)) = val (((by_ s).drop p).take n)) := Lib.hid (by rw [HNQ.out])
                    have v9 := HVB.out k hk1 (by omega) (by omega)
                    generalize hvk : val (((by_ s).drop p).take (k - p)) = vk at *
                    rw [← HN2.out] at HN
                    clear HN2 HVB HVS
                    have sz := hO.below.size
                    go_wp2_with (first
                      | (at_builtin; refine wpList_append_own _ rfl _ _ 66 rfl w.heap.size 72 i0 (.agg #[.int .i64 0, .int .i64 0, .int .i64 0, .string ⟨#[]⟩]) 4 40 underT hi hz0 hz1 hz2 rfl (by decide) _ a.length (tks a) rfl ((hO.a.alloc _).alloc _) ⟨wr.heap.size + 1, 0, none⟩ 1 1 [.int .i64 2, .int .i64 (p : Nat), .int .i64 vk, .string ⟨#[]⟩] rfl rfl ?h3a ?h3b ?h3c ?h3d ?h3e ?h3m))
                    try case h3a =>
                      intro j u hj
                      match j, hj with
                      | 0, hj => simp at hj; subst hj; simp [Addr.add, go_sem]
                      | 1, hj => simp at hj; subst hj; simp [Addr.add, go_sem]
                      | 2, hj => simp at hj; subst hj; simp [Addr.add, go_sem]
                      | 3, hj => simp at hj; subst hj; simp [Addr.add, go_sem]
                    case h3b => first | exact ⟨rfl, rfl, rfl, rfl⟩ | (intro u hu; simp at hu; rcases hu with rfl | rfl | rfl | rfl <;> rfl)
                    case h3c => unfold maxLen; omega
                    case h3d => omega
                    case h3e => first | omega | (simp; omega)
                    intro v3 w3 hown3 hg3 _
                    have X3 := (hO.kept (balloc (Below.refl _ _) (.cells #[.int .i64 2, .int .i64 (p : Nat), .int .i64 vk, .string ⟨#[]⟩] 72))).grow (t := ⟨2, p, vk, []⟩) (v2 := v3) (by exact hown3) hg3
                    clear hown3 hg3 hO sz
                    go_wp2_with fail
                    go_roundw
                    case rel => exact ⟨k, _, hqs, by go_num, X3, by simp; omega, HN⟩
                    case measure => simp [intOf]; omega
              · go_wp2_with fail
                refine (ci _).mono ?_
                rintro e w0 ⟨rfl, rfl⟩
                go_wp2_with fail
                refine (ci2 _).mono ?_
                rintro e w0 ⟨rfl, rfl⟩
                go_wp2_with fail
                go_loop [10, 11] (fun N J => ∃ k : Nat, p ≤ k ∧ k ≤ i ∧ J = .int .i64 k ∧ N = .int .i64 (val (((by_ s).drop p).take (k - p)) : Nat)) (fun _ J => 65537 - (intOf J).toNat)
                case atStart => exact ⟨p, by omega, by omega, rfl, by rw [Nat.sub_self]; rfl⟩
                case round =>
                  obtain ⟨k, hk1, hk2, rfl, rfl⟩ := hrel
                  by_cases hkq : k < i
                  · obtain ⟨hks, hdk⟩ := F1.out k (by omega) hkq
                    have hs := HVS.out k hk1 hks
                    have hb1 := HVB.out k hk1 (by omega) (by omega)
                    have hb2 := HVB.out (k + 1) (by omega) (by omega) (by omega)
                    have hdb := digit_bd hdk
                    have hx : Hid ((val (((by_ s).drop p).take (k + 1 - p)) : Int) = 10 * (val (((by_ s).drop p).take (k - p)) : Int) + ((s[k].toNat : Int) - 48)) := Lib.hid (by omega)
                    have c0 : (48 : Int) ≤ (s[k].toNat : Int) := by omega
                    have c9 : (s[k].toNat : Int) ≤ 57 := by omega
                    have v9 : (val (((by_ s).drop p).take (k - p)) : Int) ≤ 99999999 := by
                      have := hx.out; omega
                    have v0 : (0 : Int) ≤ (val (((by_ s).drop p).take (k - p)) : Int) := by omega
                    clear hs hb1 hb2 hdb hdk
                    generalize (val (((by_ s).drop p).take (k - p)) : Int) = V at *
                    generalize hC : (s[k].toNat : Int) = C at *
                    go_wp2_with fail
                    go_round
                    case rel => exact ⟨k + 1, by omega, by omega, by go_num, by rw [hx.out]⟩
                    case measure => simp [intOf]; omega
                  · obtain rfl : k = i := by omega
                    have HN2 : Hid (val (((by_ s).drop p).take (k - p)) = val (((by_ s).drop p).take n)) := Lib.hid (by rw [HNQ.out])
                    have v9 := HVB.out k hk1 (by omega) (by omega)
                    generalize hvk : val (((by_ s).drop p).take (k - p)) = vk at *
                    rw [← HN2.out] at HN
                    clear HN2 HVB HVS
                    have sz := hO.below.size
                    go_wp2_with (first
                      | (at_builtin; refine wpList_append_own _ rfl _ _ 66 rfl w.heap.size 72 i0 (.agg #[.int .i64 0, .int .i64 0, .int .i64 0, .string ⟨#[]⟩]) 4 40 underT hi hz0 hz1 hz2 rfl (by decide) _ a.length (tks a) rfl ((hO.a.alloc _).alloc _) ⟨wr.heap.size + 1, 0, none⟩ 1 1 [.int .i64 2, .int .i64 (p : Nat), .int .i64 vk, .string ⟨#[]⟩] rfl rfl ?h4a ?h4b ?h4c ?h4d ?h4e ?h4m))
                    try case h4a =>
                      intro j u hj
                      match j, hj with
                      | 0, hj => simp at hj; subst hj; simp [Addr.add, go_sem]
                      | 1, hj => simp at hj; subst hj; simp [Addr.add, go_sem]
                      | 2, hj => simp at hj; subst hj; simp [Addr.add, go_sem]
                      | 3, hj => simp at hj; subst hj; simp [Addr.add, go_sem]
                    case h4b => first | exact ⟨rfl, rfl, rfl, rfl⟩ | (intro u hu; simp at hu; rcases hu with rfl | rfl | rfl | rfl <;> rfl)
                    case h4c => unfold maxLen; omega
                    case h4d => omega
                    case h4e => first | omega | (simp; omega)
                    intro v3 w3 hown3 hg3 _
                    have X3 := (hO.kept (balloc (Below.refl _ _) (.cells #[.int .i64 2, .int .i64 (p : Nat), .int .i64 vk, .string ⟨#[]⟩] 72))).grow (t := ⟨2, p, vk, []⟩) (v2 := v3) (by exact hown3) hg3
                    clear hown3 hg3 hO sz
                    go_wp2_with fail
                    go_roundw
                    case rel => exact ⟨k, _, hqs, by go_num, X3, by simp; omega, HN⟩
                    case measure => simp [intOf]; omega
            · obtain rfl : i = s.size := by omega
              by_cases h9 : 9 < n
              · have d3 : decide ((9 : Int) < (n : Int)) = true := decide_eq_true (by omega)
                have Y := Lib.hid (Y6.out h9)
                clear Y6 Y5 YQ N0 h9 HVB HVS
                go_wp2_with fail
                refine bodyPost_ret (v := .tuple #[.slice none 0 0, .int .i64 p, .int .i64 6]) (by simp [results, Tryz.results31, go_sem]) rfl ?_
                rw [Y.out]; exact ⟨rfl, balloc hBw _⟩
              have d3 : decide ((9 : Int) < (n : Int)) = false := decide_eq_false (by omega)
              have n9 : n ≤ 9 := by omega
              by_cases h48 : s[p].toNat = 48 ∧ 1 < n
              · have Y := Lib.hid (Y5.out h9 h48)
                have e48' : x2 = true := H48.out.1 h48.1
                have e1n' : x3 = true := H1n.out.1 h48.2
                subst e48' e1n'
                clear Y6 Y5 YQ N0 h9 h48 HVB HVS H48 H1n
                go_wp2_with fail
                refine bodyPost_ret (v := .tuple #[.slice none 0 0, .int .i64 p, .int .i64 5]) (by simp [results, Tryz.results31, go_sem]) rfl ?_
                rw [Y.out]; exact ⟨rfl, balloc hBw _⟩
              have h23 : x2 = false ∨ (x2 = true ∧ x3 = false) := by
                cases x2 with
                | false => exact .inl rfl
                | true => cases x3 with
                  | false => exact .inr ⟨rfl, rfl⟩
                  | true => exact absurd ⟨H48.out.2 rfl, H1n.out.2 rfl⟩ h48
              have HN := Lib.hid (N0.out h9 h48 (fun ⟨g, _⟩ => absurd g (by omega)))
              have HNQ : Hid (s.size - p = n) := Lib.hid (by have := S2; rw [IntWalk.i64_in _ (by omega)] at this; omega)
              clear Y6 Y5 YQ N0 h9 h48 H48 H1n
              rcases h23 with rfl | ⟨rfl, rfl⟩
              · go_wp2_with fail
                go_loop [10, 11] (fun N J => ∃ k : Nat, p ≤ k ∧ k ≤ s.size ∧ J = .int .i64 k ∧ N = .int .i64 (val (((by_ s).drop p).take (k - p)) : Nat)) (fun _ J => 65537 - (intOf J).toNat)
                case atStart => exact ⟨p, by omega, by omega, rfl, by rw [Nat.sub_self]; rfl⟩
                case round =>
                  obtain ⟨k, hk1, hk2, rfl, rfl⟩ := hrel
                  by_cases hkq : k < s.size
                  · obtain ⟨hks, hdk⟩ := F1.out k (by omega) hkq
                    have hs := HVS.out k hk1 hks
                    have hb1 := HVB.out k hk1 (by omega) (by omega)
                    have hb2 := HVB.out (k + 1) (by omega) (by omega) (by omega)
                    have hdb := digit_bd hdk
                    have hx : Hid ((val (((by_ s).drop p).take (k + 1 - p)) : Int) = 10 * (val (((by_ s).drop p).take (k - p)) : Int) + ((s[k].toNat : Int) - 48)) := Lib.hid (by omega)
                    have c0 : (48 : Int) ≤ (s[k].toNat : Int) := by omega
                    have c9 : (s[k].toNat : Int) ≤ 57 := by omega
                    have v9 : (val (((by_ s).drop p).take (k - p)) : Int) ≤ 99999999 := by
                      have := hx.out; omega
                    have v0 : (0 : Int) ≤ (val (((by_ s).drop p).take (k - p)) : Int) := by omega
                    clear hs hb1 hb2 hdb hdk
                    generalize (val (((by_ s).drop p).take (k - p)) : Int) = V at *
                    generalize hC : (s[k].toNat : Int) = C at *
                    go_wp2_with fail
                    go_round
                    case rel => exact ⟨k + 1, by omega, by omega, by go_num, by rw [hx.out]⟩
                    case measure => simp [intOf]; omega
                  · obtain rfl : k = s.size := by omega
                    have HN2 : Hid (val (((by_ s).drop p).take (s.size - p)) = val (((by_ s).drop p).take n)) := Lib.hid (by rw [HNQ.out])
                    have v9 := HVB.out s.size hk1 (by omega) (by omega)
                    generalize hvk : val (((by_ s).drop p).take (s.size - p)) = vk at *
                    rw [← HN2.out] at HN
                    clear HN2 HVB HVS
                    have sz := hO.below.size
                    go_wp2_with (first
                      | (at_builtin; refine wpList_append_own _ rfl _ _ 66 rfl w.heap.size 72 i0 (.agg #[.int .i64 0, .int .i64 0, .int .i64 0, .string ⟨#[]⟩]) 4 40 underT hi hz0 hz1 hz2 rfl (by decide) _ a.length (tks a) rfl ((hO.a.alloc _).alloc _) ⟨wr.heap.size + 1, 0, none⟩ 1 1 [.int .i64 2, .int .i64 (p : Nat), .int .i64 vk, .string ⟨#[]⟩] rfl rfl ?h5a ?h5b ?h5c ?h5d ?h5e ?h5m))
                    try case h5a =>
                      intro j u hj
                      match j, hj with
                      | 0, hj => simp at hj; subst hj; simp [Addr.add, go_sem]
                      | 1, hj => simp at hj; subst hj; simp [Addr.add, go_sem]
                      | 2, hj => simp at hj; subst hj; simp [Addr.add, go_sem]
                      | 3, hj => simp at hj; subst hj; simp [Addr.add, go_sem]
                    case h5b => first | exact ⟨rfl, rfl, rfl, rfl⟩ | (intro u hu; simp at hu; rcases hu with rfl | rfl | rfl | rfl <;> rfl)
                    case h5c => unfold maxLen; omega
                    case h5d => omega
                    case h5e => first | omega | (simp; omega)
                    intro v3 w3 hown3 hg3 _
                    have X3 := (hO.kept (balloc (Below.refl _ _) (.cells #[.int .i64 2, .int .i64 (p : Nat), .int .i64 vk, .string ⟨#[]⟩] 72))).grow (t := ⟨2, p, vk, []⟩) (v2 := v3) (by exact hown3) hg3
                    clear hown3 hg3 hO sz
                    go_wp2_with fail
                    go_roundw
                    case rel => exact ⟨s.size, _, hqs, by go_num, X3, by simp; omega, HN⟩
                    case measure => simp [intOf]; omega
              · go_wp2_with fail
                go_loop [10, 11] (fun N J => ∃ k : Nat, p ≤ k ∧ k ≤ s.size ∧ J = .int .i64 k ∧ N = .int .i64 (val (((by_ s).drop p).take (k - p)) : Nat)) (fun _ J => 65537 - (intOf J).toNat)
                case atStart => exact ⟨p, by omega, by omega, rfl, by rw [Nat.sub_self]; rfl⟩
                case round =>
                  obtain ⟨k, hk1, hk2, rfl, rfl⟩ := hrel
                  by_cases hkq : k < s.size
                  · obtain ⟨hks, hdk⟩ := F1.out k (by omega) hkq
                    have hs := HVS.out k hk1 hks
                    have hb1 := HVB.out k hk1 (by omega) (by omega)
                    have hb2 := HVB.out (k + 1) (by omega) (by omega) (by omega)
                    have hdb := digit_bd hdk
                    have hx : Hid ((val (((by_ s).drop p).take (k + 1 - p)) : Int) = 10 * (val (((by_ s).drop p).take (k - p)) : Int) + ((s[k].toNat : Int) - 48)) := Lib.hid (by omega)
                    have c0 : (48 : Int) ≤ (s[k].toNat : Int) := by omega
                    have c9 : (s[k].toNat : Int) ≤ 57 := by omega
                    have v9 : (val (((by_ s).drop p).take (k - p)) : Int) ≤ 99999999 := by
                      have := hx.out; omega
                    have v0 : (0 : Int) ≤ (val (((by_ s).drop p).take (k - p)) : Int) := by omega
                    clear hs hb1 hb2 hdb hdk
                    generalize (val (((by_ s).drop p).take (k - p)) : Int) = V at *
                    generalize hC : (s[k].toNat : Int) = C at *
                    go_wp2_with fail
                    go_round
                    case rel => exact ⟨k + 1, by omega, by omega, by go_num, by rw [hx.out]⟩
                    case measure => simp [intOf]; omega
                  · obtain rfl : k = s.size := by omega
                    have HN2 : Hid (val (((by_ s).drop p).take (s.size - p)) = val (((by_ s).drop p).take n)) := Lib.hid (by rw [HNQ.out])
                    have v9 := HVB.out s.size hk1 (by omega) (by omega)
                    generalize hvk : val (((by_ s).drop p).take (s.size - p)) = vk at *
                    rw [← HN2.out] at HN
                    clear HN2 HVB HVS
                    have sz := hO.below.size
                    go_wp2_with (first
                      | (at_builtin; refine wpList_append_own _ rfl _ _ 66 rfl w.heap.size 72 i0 (.agg #[.int .i64 0, .int .i64 0, .int .i64 0, .string ⟨#[]⟩]) 4 40 underT hi hz0 hz1 hz2 rfl (by decide) _ a.length (tks a) rfl ((hO.a.alloc _).alloc _) ⟨wr.heap.size + 1, 0, none⟩ 1 1 [.int .i64 2, .int .i64 (p : Nat), .int .i64 vk, .string ⟨#[]⟩] rfl rfl ?h6a ?h6b ?h6c ?h6d ?h6e ?h6m))
                    try case h6a =>
                      intro j u hj
                      match j, hj with
                      | 0, hj => simp at hj; subst hj; simp [Addr.add, go_sem]
                      | 1, hj => simp at hj; subst hj; simp [Addr.add, go_sem]
                      | 2, hj => simp at hj; subst hj; simp [Addr.add, go_sem]
                      | 3, hj => simp at hj; subst hj; simp [Addr.add, go_sem]
                    case h6b => first | exact ⟨rfl, rfl, rfl, rfl⟩ | (intro u hu; simp at hu; rcases hu with rfl | rfl | rfl | rfl <;> rfl)
                    case h6c => unfold maxLen; omega
                    case h6d => omega
                    case h6e => first | omega | (simp; omega)
                    intro v3 w3 hown3 hg3 _
                    have X3 := (hO.kept (balloc (Below.refl _ _) (.cells #[.int .i64 2, .int .i64 (p : Nat), .int .i64 vk, .string ⟨#[]⟩] 72))).grow (t := ⟨2, p, vk, []⟩) (v2 := v3) (by exact hown3) hg3
                    clear hown3 hg3 hO sz
                    go_wp2_with fail
                    go_roundw
                    case rel => exact ⟨s.size, _, hqs, by go_num, X3, by simp; omega, HN⟩
                    case measure => simp [intOf]; omega
      have hd' : digit s[p] = false := by simpa using hd
      rw [hd'] at cd
      have hk3 : 3 ≤ kb := by
        rcases kindB_cases s[p] with ⟨h, h1⟩ | ⟨h, _, h1⟩ | ⟨h, _⟩ | ⟨h, _⟩ | ⟨h, _⟩ | ⟨h, _⟩
        · rw [hl'] at h1; cases h1
        · rw [hd'] at h1; cases h1
        all_goals omega
      have hsg : sign s[p] = kb := by rw [← hkb]; unfold sign kindB; rw [hl', hd']; simp
      rw [hsg] at ck
      have HN := ht0 _ _ _ _ (step_sign (by rw [hkb]; exact hk3)) (by omega)
      rw [hkb] at HN
      have hk5 : kb ≤ 5 := by rcases kindB_cases s[p] with ⟨h, _⟩ | ⟨h, _⟩ | ⟨h, _⟩ | ⟨h, _⟩ | ⟨h, _⟩ | ⟨h, _⟩ <;> omega
      have hkz : ((kb : Int) == 0) = false := beq_eq_false_iff_ne.2 (by omega)
      obtain ⟨q, hq⟩ : ∃ q, p + 1 = q := ⟨_, rfl⟩
      rw [hq] at HN
      have hqs : q ≤ s.size := by omega
      have hpq : p < q := by omega
      have S1 : IntKind.i64.wrap ((p : Int) + 1) = (q : Int) := by rw [IntWalk.i64_in _ (by omega)]; omega
      clear hsg hd hd' hl hl' hkb hk0 hns hnw hbl h35 HD hT hfull ht0 he0 hq
      go_wp2_with fail
      refine (cl _).mono ?_
      rintro e w0 ⟨rfl, rfl⟩
      go_wp2_with fail
      refine (cd _).mono ?_
      rintro e w0 ⟨rfl, rfl⟩
      go_wp2_with fail
      refine (ck _).mono ?_
      rintro e w0 ⟨rfl, rfl⟩
      go_wp2_with fail
      refine (ck _).mono ?_
      rintro e w0 ⟨rfl, rfl⟩
      go_wp2_with fail
      refine (cl _).mono ?_
      rintro e w0 ⟨rfl, rfl⟩
      go_wp2_with fail
      refine (cd _).mono ?_
      rintro e w0 ⟨rfl, rfl⟩
      have sz := hO.below.size
      go_wp2_with (first
        | (at_builtin; refine wpList_append_own _ rfl _ _ 66 rfl w.heap.size 72 i0 (.agg #[.int .i64 0, .int .i64 0, .int .i64 0, .string ⟨#[]⟩]) 4 40 underT hi hz0 hz1 hz2 rfl (by decide) _ a.length (tks a) rfl ((hO.a.alloc _).alloc _) ⟨wr.heap.size + 1, 0, none⟩ 1 1 [.int .i64 (kb : Nat), .int .i64 (p : Nat), .int .i64 0, .string ⟨#[]⟩] rfl rfl ?h7a ?h7b ?h7c ?h7d ?h7e ?h7m))
      try case h7a =>
        intro j u hj
        match j, hj with
        | 0, hj => simp at hj; subst hj; simp [Addr.add, go_sem]
        | 1, hj => simp at hj; subst hj; simp [Addr.add, go_sem]
        | 2, hj => simp at hj; subst hj; simp [Addr.add, go_sem]
        | 3, hj => simp at hj; subst hj; simp [Addr.add, go_sem]
      case h7b => first | exact ⟨rfl, rfl, rfl, rfl⟩ | (intro u hu; simp at hu; rcases hu with rfl | rfl | rfl | rfl <;> rfl)
      case h7c => unfold maxLen; omega
      case h7d => omega
      case h7e => first | omega | (simp; omega)
      intro v3 w3 hown3 hg3 _
      have X3 := (hO.kept (balloc (Below.refl _ _) (.cells #[.int .i64 (kb : Nat), .int .i64 (p : Nat), .int .i64 0, .string ⟨#[]⟩] 72))).grow (t := ⟨kb, p, 0, []⟩) (v2 := v3) (by exact hown3) hg3
      clear hown3 hg3 hO sz
      go_wp2_with fail
      go_roundw
      case rel => exact ⟨q, _, hqs, by go_num, X3, by simp; omega, HN⟩
      case measure => simp [intOf]; omega
    · have hE : Hid (R = .ok a) := Lib.hid (by rw [← hT.out, List.drop_eq_nil_of_le (by rw [by_len]; omega), tot_nil])
      obtain rfl : p = s.size := by omega
      have Y : Hid (CutRes R w (.returned (.tuple #[.slice ptr a.length cap, .int .i64 0, .int .i64 0])) wr) := Lib.hid (by rw [hE.out]; exact ⟨_, rfl, hO⟩)
      clear hO
      go_wp2_with fail
      exact bodyPost_ret (v := .tuple #[.slice ptr a.length cap, .int .i64 0, .int .i64 0]) (by simp [results, Tryz.results31, go_sem]) rfl Y.out

end Go.Proofs.YtabhbcedldjjjaaGreatDoor.Zr
