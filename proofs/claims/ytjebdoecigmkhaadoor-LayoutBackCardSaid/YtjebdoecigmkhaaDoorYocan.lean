/- LayoutCanon, walked. -/
import Derived.Test.YtjebdoecigmkhaaDoorJYo
import Derived.Test.YtjebdoecigmkhaaDoorYtoks
namespace Go.Proofs.YtjebdoecigmkhaaDoor.Yl
set_option linter.unusedSimpArgs false
set_option linter.unusedVariables false
open Go Go.RowKit Go.Proofs.YtjebdoecigmkhaaDoor.Zm Go.Proofs.YtjebdoecigmkhaaDoor.Ym Go.Proofs.YtjebdoecigmkhaaDoor.Bn Go.Proofs.YtjebdoecigmkhaaDoor.Zp Go.Proofs.YtjebdoecigmkhaaDoor.Zk Go.Proofs.YtjebdoecigmkhaaDoor.Yp Go.Proofs.YtjebdoecigmkhaaDoor.Zr Go.Proofs.YtjebdoecigmkhaaDoor.Yg

set_option maxHeartbeats 2000000

mutual
theorem eq_countN : ∀ n n' : Nd, EqN n n' → countN n' = countN n
  | .mk nm a ws b ks, .mk nm' a' ws' b' ks', h => by
    obtain ⟨_, _, _, hk⟩ := h
    simp only [countN, eq_countL ks ks' hk]
theorem eq_countL : ∀ l l' : List Nd, EqL l l' → countL l' = countL l
  | [], l', h => by
    have : l' = [] := by simpa [EqL] using h
    subst this; rfl
  | n :: l, l', h => by
    simp only [EqL] at h
    obtain ⟨x, k, rfl, h1, h2⟩ := h
    simp only [countL, eq_countN n x h1, eq_countL l k h2]
end
/-- a text that was read, written anew, and all that follows -/
theorem canon_all {s : ByteArray} {l : List Nd} (hs : s.size ≤ 400) (h : parseR s = .ok l) (h6 : ¬ 65536 < (prtL 0 l).length) : ∃ a b, cutR s = .ok a ∧ cutR ⟨(prtL 0 l).toArray⟩ = .ok b ∧ a.length ≤ 8192 ∧ b.length ≤ 8192 ∧ a.map bare = b.map bare ∧
    canonR s = (⟨(prtL 0 l).toArray⟩, 0, 0) ∧ canonR ⟨(prtL 0 l).toArray⟩ = (⟨(prtL 0 l).toArray⟩, 0, 0) ∧ countL l ≤ 400 ∧ ∀ l', parseR ⟨(prtL 0 l).toArray⟩ = .ok l' → countL l' ≤ 400 := by
  obtain ⟨a, ha⟩ := parseR_cut_ok h
  obtain ⟨_, hcut⟩ := cutR_ok ha
  have hp : parse (by_ s) = .ok l := by rw [← parseR_small (by omega)]; exact h
  obtain ⟨p1, p2, _, p4, p5⟩ := parse_right hp hcut
  rw [by_len] at p5
  have hal : a.length ≤ 8192 := by omega
  have hfl : (flatL l).length ≤ 8192 := by rw [p2, List.length_map]; exact hal
  obtain ⟨T, e1, e2⟩ := cut_print p1 hfl
  obtain ⟨l', q1, q2, q3⟩ := print_again p1 hfl
  have hsz : (⟨(prtL 0 l).toArray⟩ : ByteArray).size = (prtL 0 l).length := by simp [ByteArray.size]
  have hby : by_ ⟨(prtL 0 l).toArray⟩ = prtL 0 l := by simp [by_]
  have hc2 : cutR ⟨(prtL 0 l).toArray⟩ = .ok T := by rw [cutR, if_neg (by rw [hsz]; exact h6), hby, e2]
  have hp2 : parseR ⟨(prtL 0 l).toArray⟩ = .ok l' := by rw [parseR, if_neg (by rw [hsz]; exact h6), hby, q2]
  have hTl : T.length ≤ 8192 := by
    have := congrArg List.length e1
    rw [List.length_map] at this
    omega
  refine ⟨a, T, ha, hc2, hal, hTl, by rw [e1, p2], ?_, ?_, by omega, fun m hm => ?_⟩
  · rw [canonR, h]; simp only; rw [if_neg h6]
  · rw [canonR, hp2]; simp only; rw [q3, if_neg h6]
  · rw [hp2] at hm
    injection hm with hm
    subst hm
    rw [eq_countL l l' q1]; omega

set_option maxRecDepth 100000 in
theorem canon_walk (s : ByteArray) (w : World) (hm : s.size ≤ maxLen) (tb : Pows w) : Calls Tryd.prog 11 #[.string s] w fun e w' => e = .returned (.bool true) ∧ Below w.heap.size w w' := by
  have cl := yolive_ok w tb
  have hm' := hm
  unfold maxLen at hm
  by_cases h4 : 400 < s.size
  · have d1 : decide ((400 : Int) < (s.size : Int)) = true := decide_eq_true (by omega)
    clear h4
    go_enter Tryd.func11, Tryd.ntmps11
    go_wp2_with fail
    refine cl.mono ?_
    rintro e w1 ⟨rfl, hb⟩
    go_wp2_with fail
    go_ret
    exact ⟨rfl, hb⟩
  have d1 : decide ((400 : Int) < (s.size : Int)) = false := decide_eq_false (by omega)
  have hs4 : s.size ≤ 400 := by omega
  clear h4
  by_cases hok : ∃ l, parseR s = .ok l ∧ ¬ 65536 < (prtL 0 l).length
  · obtain ⟨l, hR, h6⟩ := hok
    obtain ⟨a, b, ha, hb, hal, hbl, hab, k1, k2, hn1, hn2⟩ := canon_all hs4 hR h6
    have ht : (prtL 0 l).length ≤ 65536 := by omega
    obtain ⟨t, hte⟩ : ∃ t, (⟨(prtL 0 l).toArray⟩ : ByteArray) = t := ⟨_, rfl⟩
    have hts : t.size ≤ maxLen := by
      rw [← hte]; simp [ByteArray.size]; unfold maxLen; omega
    rw [hte] at hb k1 k2 hn2
    have cs := fun w P => Canon_any s w (t, 0, 0) hm' P (Lib.hid (fun l' h => by rw [hR] at h; injection h with h; subst h; omega)) (Lib.hid k1)
    have ct := fun w P => Canon_any t w (t, 0, 0) hts P (Lib.hid (fun l' h => by have := hn2 l' h; omega)) (Lib.hid k2)
    have ca := fun w => Cut_any s w (.ok a) hm' (Lib.hid ha)
    have cb := fun w => Cut_any t w (.ok b) hts (Lib.hid hb)
    have HB := Lib.hid (bare_tk hab)
    clear hR ha hb k1 k2 hn1 hn2 hte hts ht h6 hab hm'
    go_enter Tryd.func11, Tryd.ntmps11
    go_wp2_with fail
    refine cl.mono ?_
    rintro e w1 ⟨rfl, hb1⟩
    go_wp2_with fail
    refine (cs _ (tb.kept hb1)).mono ?_
    rintro e w2 ⟨rfl, hb2⟩
    have B2 := bthen hb1 hb2
    go_wp2_with fail
    refine (ct _ (tb.kept B2)).mono ?_
    rintro e w3 ⟨rfl, hb3⟩
    have B3 := bthen B2 hb3
    go_wp2_with fail
    refine (ca _).mono ?_
    rintro e w4 ⟨va, rfl, hO4⟩
    have T4 := TokAt.of_own hO4
    have B4 := bthen B3 hO4.below
    clear hb1 hb2 B2 hb3 B3 hO4 cs ct ca cl
    go_wp2_with fail
    refine (cb _).mono ?_
    rintro e w5 ⟨vb, rfl, hO5⟩
    have T5 := TokAt.of_own hO5
    have T4' := T4.kept hO5.below
    have B5 := bthen B4 hO5.below
    clear T4 hO5 cb B4
    go_wp2_with fail
    refine (rSame_any va vb a.length b.length _ _ true _ T4' T5 (by omega) (by omega) (Lib.hid ⟨fun _ => HB.out, fun _ => rfl⟩)).mono ?_
    rintro e w6 ⟨rfl, hb6⟩
    have B := bthen B5 hb6
    clear T4' T5 hb6 HB B5
    go_wp2_with fail
    go_ret
    exact ⟨rfl, B⟩
  · have hbad : ∃ q er, er ≠ 0 ∧ canonR s = (⟨#[]⟩, q, er) := by
      rw [canonR]
      cases hR : parseR s with
      | error x =>
        obtain ⟨er, q⟩ := x
        exact ⟨q, er, by rcases parseR_er hR with rfl | rfl | rfl <;> decide, rfl⟩
      | ok l =>
        have h6 : 65536 < (prtL 0 l).length := Classical.byContradiction (fun h => hok ⟨l, hR, h⟩)
        simp only
        rw [if_pos h6]
        exact ⟨0, 6, by decide, rfl⟩
    obtain ⟨q, er, he, hk⟩ := hbad
    have d3 : ((er : Int) != 0) = true := by
      have : ((er : Int) == 0) = false := beq_eq_false_iff_ne.2 (by omega)
      simp [bne, this]
    have cs := fun w P => Canon_any s w (⟨#[]⟩, q, er) hm' P (Lib.hid (fun l' h => by
      have hp : parse (by_ s) = .ok l' := by rw [← parseR_small (by omega)]; exact h
      obtain ⟨a, ha⟩ := parseR_cut_ok h
      obtain ⟨_, _, _, p4, p5⟩ := parse_right hp (cutR_ok ha).2
      rw [by_len] at p5
      omega)) (Lib.hid hk)
    clear hok hk hm'
    go_enter Tryd.func11, Tryd.ntmps11
    go_wp2_with fail
    refine cl.mono ?_
    rintro e w1 ⟨rfl, hb1⟩
    go_wp2_with fail
    refine (cs _ (tb.kept hb1)).mono ?_
    rintro e w2 ⟨rfl, hb2⟩
    have B2 := bthen hb1 hb2
    go_wp2_with fail
    go_ret
    exact ⟨rfl, B2⟩

end Go.Proofs.YtjebdoecigmkhaaDoor.Yl
