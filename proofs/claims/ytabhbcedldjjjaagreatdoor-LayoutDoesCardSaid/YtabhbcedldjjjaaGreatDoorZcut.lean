/- What Cut of package lex comes to. -/
import Derived.Test.YtabhbcedldjjjaaGreatDoorZcode2
import Derived.Test.YtabhbcedldjjjaaGreatDoorZrow
import Derived.OwnWalk
namespace Go.Proofs.YtabhbcedldjjjaaGreatDoor.Zp
set_option linter.unusedSimpArgs false
set_option linter.unusedVariables false
open Go.RowKit Go.Maps Go.Proofs.YtabhbcedldjjjaaGreatDoor.Zm Go.Proofs.YtabhbcedldjjjaaGreatDoor.Zr Go.Proofs.YtabhbcedldjjjaaGreatDoor.Bn Go.Proofs.YtabhbcedldjjjaaGreatDoor.Zk

set_option maxHeartbeats 1000000

/-- what Cut tells, the slice's base at B -/
def CutRes (R : Except (Nat × Nat) (List Tk)) (w : World) (e : Ending) (w' : World) : Prop :=
  match R with
  | .ok a => ∃ v, e = .returned (.tuple #[v, .int .i64 0, .int .i64 0]) ∧ OneT 72 w w' v a
  | .error (er, q) => e = .returned (.tuple #[.slice none 0 0, .int .i64 (q : Nat), .int .i64 (er : Nat)]) ∧ Below w.heap.size w w'

/-- what Cut tells of a text -/
def cutR (s : ByteArray) : Except (Nat × Nat) (List Tk) := if 65536 < s.size then .error (6, 0) else cut (by_ s) 0 0

theorem infoT : (Tryz.prog.info? 72).map (fun i => (i.zero, i.size, i.bytes)) = some (some (.agg #[.int .i64 0, .int .i64 0, .int .i64 0, .string ⟨#[]⟩]), 4, 40) := by kernel_rfl
theorem underT : Tryz.prog.underlying 66 = some (.slice 72) := by kernel_rfl

theorem tot_zero (l : List UInt8) : tot l 0 [] = cut l 0 0 := by unfold tot; cases cut l 0 0 <;> rfl

set_option maxRecDepth 100000 in
theorem Cut_any (s : ByteArray) (w : World) (R : Except (Nat × Nat) (List Tk)) (hm : s.size ≤ maxLen) (hR : Hid (cutR s = R)) :
    Calls Tryz.prog 29 #[.string s] w fun e w' => CutRes R w e w' := by
  unfold maxLen at hm
  by_cases h0 : 65536 < s.size
  · have d1 : decide ((65536 : Int) < (s.size : Int)) = true := decide_eq_true (by omega)
    have Y : Hid (R = .error (6, 0)) := Lib.hid (by rw [← hR.out, cutR, if_pos h0])
    clear h0 hR hm
    go_enter Tryz.func29, Tryz.ntmps29
    go_wp2_with fail
    refine bodyPost_ret (v := .tuple #[.slice none 0 0, .int .i64 0, .int .i64 6]) (by simp [results, Tryz.results29, go_sem]) rfl ?_
    rw [Y.out]; exact ⟨rfl, Below.refl _ _⟩
  have d1 : decide ((65536 : Int) < (s.size : Int)) = false := decide_eq_false (by omega)
  have h65 : s.size ≤ 65536 := by omega
  have HR : Hid (cut (by_ s) 0 0 = R) := Lib.hid (by rw [← hR.out, cutR, if_neg h0])
  clear h0 hR hm
  have ck := fun w => signKinds_any w
  have cp := fun w => pass_any s 0 w (by omega) (by omega)
  obtain ⟨i0, hi, hz0, hz1, hz2⟩ := info_parts infoT
  go_enter Tryz.func29, Tryz.ntmps29
  go_wp2_with fail
  refine (ck _).mono ?_
  rintro e w1 ⟨b, rfl, S, hb, hB⟩
  go_wp2_with fail
  refine (cp _).mono ?_
  rintro e w' ⟨p0, rfl, ⟨hp1, hp2, hp3, hp4⟩, rfl⟩
  have HP : Hid (tot ((by_ s).drop p0) p0 [] = R) := Lib.hid (by rw [← HR.out, hp3, List.drop_zero, tot_zero])
  have HB := Lib.hid hp4
  clear hp3 hp4 ck cp HR hp1
  go_wp2_with fail
  go_loopw [5, 7] (fun L I wr => ∃ (p : Nat) (a : List Tk), p ≤ s.size ∧ I = .int .i64 p ∧ OneT 72 w wr L a ∧ a.length ≤ 8192 ∧ Signs wr b ∧ Hid (tot ((by_ s).drop p) p a = R) ∧ Hid (∀ h : p < s.size, Zm.blank s[p] = false ∧ s[p].toNat ≠ 35)) (fun _ I _ => s.size - (intOf I).toNat)
  case atStart => exact ⟨p0, [], hp2, rfl, OneT.start _ _ hB, by simp, S, HP, HB⟩
  case round =>
    clear S hB HP HB hp2 hb
    obtain ⟨p, a, hp, rfl, hO, ha, S, HT, HB⟩ := hrel
    obtain ⟨ptr, cap, rfl⟩ := hO.form
    by_cases hlt : p < s.size
    · obtain ⟨kb, hkb⟩ : ∃ kb, kindB s[p] = kb := ⟨_, rfl⟩
      have ck := kindOf_any s[p] b wr S
      rw [hkb] at ck
      obtain ⟨hbl, h35⟩ := HB.out hlt
      have HD := Lib.hid (drop_at s p hlt)
      by_cases hk0 : kb = 0
      · have Y : Hid (R = .error (5, p)) := Lib.hid (by rw [← HT.out, HD.out, tot_wrong _ _ (step_wrong hbl h35 (hkb.trans hk0))])
        have hBw := hO.below
        subst hk0
        clear hbl h35 hkb HD HT HB hO
        go_wp2_with fail
        refine ck.mono ?_
        rintro e w' ⟨rfl, rfl⟩
        go_wp2_with fail
        refine bodyPost_ret (v := .tuple #[.slice none 0 0, .int .i64 p, .int .i64 5]) (by simp [results, Tryz.results29, go_sem]) rfl ?_
        rw [Y.out]; exact ⟨rfl, hBw⟩
      · have k0 : ((kb : Int) == 0) = false := beq_eq_false_iff_ne.2 (by omega)
        by_cases hfull : a.length = 8192
        · have d2 : ((a.length : Int) == 8192) = true := beq_iff_eq.2 (by omega)
          have Y : Hid (R = .error (6, p)) := Lib.hid (by rw [← HT.out, HD.out, tot_full _ _ (step_not_skip hbl h35) (step_not_wrong (by rw [hkb]; exact hk0)) hfull])
          have hBw := hO.below
          clear hbl h35 hkb HD HT HB hO hfull hk0
          go_wp2_with fail
          refine ck.mono ?_
          rintro e w' ⟨rfl, rfl⟩
          go_wp2_with fail
          refine bodyPost_ret (v := .tuple #[.slice none 0 0, .int .i64 p, .int .i64 6]) (by simp [results, Tryz.results29, go_sem]) rfl ?_
          rw [Y.out]; exact ⟨rfl, hBw⟩
        · have d2 : ((a.length : Int) == 8192) = false := beq_eq_false_iff_ne.2 (by omega)
          obtain ⟨st, hst⟩ : ∃ st, Zm.step s[p] ((by_ s).drop (p + 1)) = st := ⟨_, rfl⟩
          have cc := fun w => cutOne_any s p kb w st h65 hlt hkb hk0 (Lib.hid hst)
          have ns := step_not_skip (r := (by_ s).drop (p + 1)) hbl h35
          have nw := step_not_wrong (c := s[p]) (r := (by_ s).drop (p + 1)) (by rw [hkb]; exact hk0)
          rw [hst] at ns nw
          cases st with
          | skip n => exact absurd rfl (ns n)
          | wrong => exact absurd rfl nw
          | err er o =>
            have Y : Hid (R = .error (er, p + o)) := Lib.hid (by rw [← HT.out, HD.out, tot_err _ _ hst hfull])
            have her : ((er : Int) != 0) = true := by
              rcases (step_err hst).1 with rfl | rfl <;> rfl
            clear hbl h35 hkb HD HT HB hfull hk0 hst ns nw
            go_wp2_with fail
            refine ck.mono ?_
            rintro e w' ⟨rfl, rfl⟩
            go_wp2_with fail
            refine (cc _).mono ?_
            rintro e w2 ⟨rfl, hb2⟩
            have hBw := (hO.kept hb2).below
            clear hO cc hb2
            go_wp2_with fail
            refine bodyPost_ret (v := .tuple #[.slice none 0 0, .int .i64 ((p + o : Nat) : Int), .int .i64 (er : Nat)]) (by simp [results, Tryz.results29, go_sem]) rfl ?_
            rw [Y.out]; exact ⟨rfl, balloc hBw _⟩
          | tok k n t len =>
            have hlen := step_tok_le hst
            have hlen2 : p + len ≤ s.size := by have := hlen.2; rw [List.length_drop, by_len] at this; omega
            obtain ⟨q, hq⟩ : ∃ q, p + len = q := ⟨_, rfl⟩
            have hpq : p < q := by omega
            have hqs : q ≤ s.size := by omega
            have HN : Hid (tot ((by_ s).drop q) q (a ++ [⟨k, p, n, t⟩]) = R) := Lib.hid (by
              rw [← HT.out, HD.out, tot_tok _ _ hst hfull, List.drop_drop, show p + 1 + (len - 1) = q by omega, hq])
            have cp := fun w => pass_any s q w hqs (by omega)
            have cc : ∀ w, Calls Tryz.prog 45 #[.string s, .int .i64 p, .int .i64 (kb : Nat)] w fun e w' =>
                e = .returned (.tuple #[.agg #[.int .i64 (k : Nat), .int .i64 (p : Nat), .int .i64 (n : Nat), .string ⟨t.toArray⟩], .int .i64 (q : Nat), .int .i64 0]) ∧ Below w.heap.size w w' :=
              fun w => (cc w).mono (fun e w' h => ⟨by rw [← hq]; exact h.1, h.2⟩)
            have hal : a.length < 8192 := by omega
            clear hbl h35 hkb HD HT HB hfull hk0 hst ns nw hlen hlen2 hq
            go_wp2_with fail
            refine ck.mono ?_
            rintro e w' ⟨rfl, rfl⟩
            go_wp2_with fail
            refine (cc _).mono ?_
            rintro e w2 ⟨rfl, hb2⟩
            replace hO := hO.kept hb2
            replace S := S.kept hb2
            clear cc hb2
            have sz := hO.below.size
            go_wp2_with (first
              | (at_builtin; refine wpList_append_own _ rfl _ _ 66 rfl w.heap.size 72 i0 (.agg #[.int .i64 0, .int .i64 0, .int .i64 0, .string ⟨#[]⟩]) 4 40 underT hi hz0 hz1 hz2 rfl (by decide) _ a.length (tks a) rfl ((hO.a.alloc _).alloc _) ⟨w2.heap.size + 1, 0, none⟩ 1 1 [.int .i64 (k : Nat), .int .i64 (p : Nat), .int .i64 (n : Nat), .string ⟨t.toArray⟩] rfl rfl ?c1 ?c2 ?c3 ?c4 ?c5 ?m1))
            case c1 =>
              intro j u hj
              match j, hj with
              | 0, hj => simp at hj; subst hj; simp [Addr.add, go_sem]
              | 1, hj => simp at hj; subst hj; simp [Addr.add, go_sem]
              | 2, hj => simp at hj; subst hj; simp [Addr.add, go_sem]
              | 3, hj => simp at hj; subst hj; simp [Addr.add, go_sem]
            case c2 => intro u hu; simp at hu; rcases hu with rfl | rfl | rfl | rfl <;> rfl
            case c3 => unfold maxLen; omega
            case c4 => omega
            case c5 => simp; omega
            intro v3 w3 hown3 hg3 _
            have S3 : Signs w3 b := ((S.alloc _).alloc _).grown ((hO.a.alloc _).alloc _) hg3
            have X3 := (hO.kept (balloc (Below.refl _ _) (.cells #[.int .i64 (k : Nat), .int .i64 (p : Nat), .int .i64 (n : Nat), .string ⟨t.toArray⟩] 72))).grow (t := ⟨k, p, n, t⟩) hown3 hg3
            clear hown3 hg3 hO S sz
            go_wp2_with fail
            refine (cp _).mono ?_
            rintro e w' ⟨p2, rfl, ⟨hp1, hp2, hp3, hp4⟩, rfl⟩
            have HN2 : Hid (tot ((by_ s).drop p2) p2 (a ++ [⟨k, p, n, t⟩]) = R) := Lib.hid (by rw [hp3]; exact HN.out)
            have HB2 := Lib.hid hp4
            clear hp3 hp4 cp HN
            go_wp2_with fail
            go_roundw
            case rel => exact ⟨p2, _, hp2, by go_num, X3, by simp; omega, S3, HN2, HB2⟩
            case measure => simp [intOf]; omega
    · have hE : Hid (R = .ok a) := Lib.hid (by rw [← HT.out, List.drop_eq_nil_of_le (by rw [by_len]; omega), tot_nil])
      have Y : Hid (CutRes R w (.returned (.tuple #[.slice ptr a.length cap, .int .i64 0, .int .i64 0])) wr) := Lib.hid (by rw [hE.out]; exact ⟨_, rfl, hO⟩)
      clear hO HB
      go_wp2_with fail
      exact bodyPost_ret (v := .tuple #[.slice ptr a.length cap, .int .i64 0, .int .i64 0]) (by simp [results, Tryz.results29, go_sem]) rfl Y.out

end Go.Proofs.YtabhbcedldjjjaaGreatDoor.Zp
