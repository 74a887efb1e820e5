/- LayoutTokens, walked. -/
import Derived.Test.YtjebdoecigmkhaaDoorYocan
import Derived.Test.YtjebdoecigmkhaaDoorJYo
namespace Go.Proofs.YtjebdoecigmkhaaDoor.Yl
set_option linter.unusedSimpArgs false
set_option linter.unusedVariables false
open Go Go.RowKit Go.Proofs.YtjebdoecigmkhaaDoor.Zm Go.Proofs.YtjebdoecigmkhaaDoor.Ym Go.Proofs.YtjebdoecigmkhaaDoor.Bn Go.Proofs.YtjebdoecigmkhaaDoor.Zp Go.Proofs.YtjebdoecigmkhaaDoor.Zk Go.Proofs.YtjebdoecigmkhaaDoor.Yp Go.Proofs.YtjebdoecigmkhaaDoor.Zr Go.Proofs.YtjebdoecigmkhaaDoor.Yg

set_option maxHeartbeats 2000000

/-- two texts of the same tokens are written the same -/
theorem canon_same {s t : ByteArray} {a b : List Tk} (ha : cutR s = .ok a) (hb : cutR t = .ok b) (h : a.map bare = b.map bare) (hl : a.length ≤ 400) :
    ∃ x p q e, canonR s = (x, p, e) ∧ canonR t = (x, q, e) ∧ (∀ l, parseR s = .ok l → countL l ≤ 400) ∧ (∀ l, parseR t = .ok l → countL l ≤ 400) := by
  obtain ⟨s1, s2⟩ := cutR_ok ha
  obtain ⟨t1, t2⟩ := cutR_ok hb
  have es : parseR s = parse (by_ s) := by rw [parseR, if_neg s1]
  have et : parseR t = parse (by_ t) := by rw [parseR, if_neg t1]
  have hbl : b.length = a.length := by have := congrArg List.length h; simpa using this.symm
  have cs : ∀ l, parseR s = .ok l → countL l ≤ 400 := fun l hl' => by
    rw [es] at hl'
    obtain ⟨_, _, _, p4, _⟩ := parse_right hl' s2
    omega
  have ct : ∀ l, parseR t = .ok l → countL l ≤ 400 := fun l hl' => by
    rw [et] at hl'
    obtain ⟨_, _, _, p4, _⟩ := parse_right hl' t2
    omega
  rcases parse_same s2 t2 h with ⟨l, m, h1, h2, h3⟩ | ⟨e, p, q, h1, h2⟩
  · have hpe := prtL_eq 0 l m h3
    by_cases h6 : 65536 < (prtL 0 l).length
    · refine ⟨⟨#[]⟩, 0, 0, 6, ?_, ?_, cs, ct⟩
      · rw [canonR, es, h1]; simp only; rw [if_pos h6]
      · rw [canonR, et, h2]; simp only; rw [← hpe, if_pos h6]
    · refine ⟨⟨(prtL 0 l).toArray⟩, 0, 0, 0, ?_, ?_, cs, ct⟩
      · rw [canonR, es, h1]; simp only; rw [if_neg h6]
      · rw [canonR, et, h2]; simp only; rw [← hpe, if_neg h6]
  · refine ⟨⟨#[]⟩, p, q, e, ?_, ?_, cs, ct⟩
    · rw [canonR, es, h1]
    · rw [canonR, et, h2]

set_option maxRecDepth 100000 in
theorem otoks_walk (s : ByteArray) (w : World) (hm : s.size ≤ maxLen) (tb : Pows w) : Calls Tryd.prog 12 #[.string s] w fun e w' => e = .returned (.bool true) ∧ Below w.heap.size w w' := by
  have cl := yolive_ok w tb
  have hm' := hm
  unfold maxLen at hm
  by_cases h4 : 400 < s.size
  · have d1 : decide ((400 : Int) < (s.size : Int)) = true := decide_eq_true (by omega)
    clear h4
    go_enter Tryd.func12, Tryd.ntmps12
    go_wp2_with fail
    refine cl.mono ?_
    rintro e w1 ⟨rfl, hb⟩
    go_wp2_with fail
    go_ret
    exact ⟨rfl, hb⟩
  have d1 : decide ((400 : Int) < (s.size : Int)) = false := decide_eq_false (by omega)
  have hs4 : s.size ≤ 400 := by omega
  clear h4
  obtain ⟨C, hC⟩ : ∃ C, cutR s = C := ⟨_, rfl⟩
  have cc := fun w => Cut_any s w C hm' (Lib.hid hC)
  cases C with
  | error x =>
    obtain ⟨er, q⟩ := x
    have d3 : ((er : Int) != 0) = true := by rcases cut_er hC with rfl | rfl <;> rfl
    clear hC hm'
    go_enter Tryd.func12, Tryd.ntmps12
    go_wp2_with fail
    refine cl.mono ?_
    rintro e w1 ⟨rfl, hb⟩
    go_wp2_with fail
    refine (cc _).mono ?_
    rintro e w2 ⟨rfl, hb2⟩
    have B := bthen hb hb2
    go_wp2_with fail
    go_ret
    exact ⟨rfl, B⟩
  | ok a =>
    obtain ⟨_, hcut⟩ := cutR_ok hC
    obtain ⟨hf, hal, _⟩ := cut_tokens _ _ _ _ _ (Nat.le_refl _) hcut
    rw [by_len] at hal
    have haf : ∀ t ∈ a, Fine t := fun t ht => (hf t ht).1
    have hjl := join_len a haf
    obtain ⟨b, hb, hbare⟩ := cut_join a haf 0 0 (by omega)
    have hz : (⟨(join a).toArray⟩ : ByteArray).size = (join a).length := by simp [ByteArray.size]
    have hcb : cutR ⟨(join a).toArray⟩ = .ok b := by rw [cutR, if_neg (by rw [hz]; omega), by_mk]; exact hb
    obtain ⟨x, p, q, e, k1, k2, n1, n2⟩ := canon_same hC hcb hbare.symm (by omega)
    have cj := fun w v T P => Join_any v a.length (fun i => tkI (a.getD i ⟨0, 0, 0, []⟩)) (join a) 0 w T P (by omega) (Lib.hid (wf_own haf (by omega))) (Lib.hid (.inr ⟨by omega, fun i hi => by
      have e : a.getD i ⟨0, 0, 0, []⟩ = a[i] := by simp [List.getD, hi]
      show FineI (tkI (a.getD i ⟨0, 0, 0, []⟩)); rw [e]; exact fine_tkI (haf _ (List.getElem_mem _)), .inr ⟨rfl, by rw [toks_own], by omega⟩⟩))
    obtain ⟨t, ht⟩ : ∃ t, (⟨(join a).toArray⟩ : ByteArray) = t := ⟨_, rfl⟩
    have hts : t.size ≤ maxLen := by rw [← ht, hz]; unfold maxLen; omega
    rw [ht] at k2 n2 hz
    simp only [ht] at cj
    have ca := fun w P => Canon_any s w (x, p, e) hm' P (Lib.hid (fun l h => by have := n1 l h; omega)) (Lib.hid k1)
    have cb := fun w P => Canon_any t w (x, q, e) hts P (Lib.hid (fun l h => by have := n2 l h; omega)) (Lib.hid k2)
    clear hC hcut hf hal haf hjl hb hbare hz hcb k1 k2 n1 n2 ht hts hm'
    go_enter Tryd.func12, Tryd.ntmps12
    go_wp2_with fail
    refine cl.mono ?_
    rintro e w1 ⟨rfl, hb1⟩
    go_wp2_with fail
    refine (cc _).mono ?_
    rintro e w2 ⟨v, rfl, hO⟩
    have T := TokAt.of_own hO
    have B2 := bthen hb1 hO.below
    clear hO hb1 cc
    go_wp2_with fail
    refine (cj _ v T (tb.kept B2)).mono ?_
    rintro e w3 ⟨rfl, hb3⟩
    have B3 := bthen B2 hb3
    clear hb3 cj T
    go_wp2_with fail
    refine (ca _ (tb.kept B3)).mono ?_
    rintro e w4 ⟨rfl, hb4⟩
    have B4 := bthen B3 hb4
    clear hb4 ca
    go_wp2_with fail
    refine (cb _ (tb.kept B4)).mono ?_
    rintro e w5 ⟨rfl, hb5⟩
    have B5 := bthen B4 hb5
    clear hb5 cb
    go_wp2_with fail
    go_ret
    exact ⟨rfl, B5⟩

end Go.Proofs.YtjebdoecigmkhaaDoor.Yl
