/- LexBack, walked. -/
import Derived.Test.YtknecagkgegclaaDoorZahead
import Derived.Test.YtknecagkgegclaaDoorZjoin
import Derived.Test.YtknecagkgegclaaDoorZapp
namespace Go.Proofs.YtknecagkgegclaaDoor.Zl
set_option linter.unusedSimpArgs false
set_option linter.unusedVariables false
open Go.RowKit Go.Proofs.YtknecagkgegclaaDoor.Zm Go.Proofs.YtknecagkgegclaaDoor.Zr Go.Proofs.YtknecagkgegclaaDoor.Zp Go.Proofs.YtknecagkgegclaaDoor.Zk Go.Proofs.YtknecagkgegclaaDoor.Bn

set_option maxHeartbeats 1000000

theorem tokN_tkI (t : Tk) : tokN (tkI t) = t := by
  obtain ⟨k, a, n, s⟩ := t
  simp [tokN, tkI, by_]

theorem fine_tkI {t : Tk} (h : Fine t) : FineI (tkI t) := by
  obtain ⟨k, a, n, s⟩ := t
  rcases h with ⟨h1, h2, h3⟩ | ⟨h1, h2, h3⟩ | ⟨h1, h2, h3⟩
  · simp only at h1 h2 h3; subst h1 h2; exact .inl ⟨rfl, rfl, by simpa [tkI, by_] using h3⟩
  · simp only at h1 h2 h3; subst h1 h2; exact .inr (.inl ⟨rfl, rfl, by simp only [tkI]; omega, by simp only [tkI]; omega⟩)
  · simp only at h1 h2 h3; subst h2 h3
    refine .inr (.inr ⟨?_, rfl, rfl⟩)
    simp only [tkI]; omega

theorem fineI_bare {t : TkI} (h : FineI t) : bareI (tkI (tokN t)) = bareI t := by
  obtain ⟨k, a, n, s⟩ := t
  have hs : (⟨(by_ s).toArray⟩ : ByteArray) = s := by apply ByteArray.ext; simp [by_]
  rcases h with ⟨h1, h2, h3⟩ | ⟨h1, h2, h3, h4⟩ | ⟨h1, h2, h3⟩
  · simp only at h1 h2; subst h1 h2; simp [bareI, tkI, tokN, hs]
  · simp only at h1 h2 h3 h4; subst h1 h2; simp [bareI, tkI, tokN]; omega
  · simp only at h1 h2 h3; subst h2 h3; simp [bareI, tkI, tokN]; omega

/-- own tokens, put together, are those of the list -/
theorem toks_own (a : List Tk) : toks (fun i => tkI (a.getD i ⟨0, 0, 0, []⟩)) a.length = a := by
  apply List.ext_getElem
  · rw [toks_len]
  · intro i h1 h2
    simp [toks, tokN_tkI, h2]

/-- what was cut out of the tokens that were put together -/
theorem bare_frame {z : Nat → TkI} {n : Nat} {b : List Tk} (h : b.map bare = (toks z n).map bare) (hf : ∀ i, i < n → FineI (z i)) :
    b.length = n ∧ ∀ i, i < b.length → bareI (tkI (b.getD i ⟨0, 0, 0, []⟩)) = bareI (z i) := by
  obtain ⟨h1, h2⟩ := bare_tk h
  rw [toks_len] at h1
  refine ⟨h1, fun i hi => (h2 i hi).trans ?_⟩
  have e : (toks z n).getD i ⟨0, 0, 0, []⟩ = tokN (z i) := by simp [List.getD, toks, show i < n by omega]
  rw [e]; exact fineI_bare (hf i (by omega))

theorem joinIs_exists (n : Nat) (z : Nat → TkI) (hn : n ≤ 1000) : (JoinIs n z [] 1 ∧ ∃ i, i < n ∧ ¬ FineI (z i)) ∨ (JoinIs n z (join (toks z n)) 0 ∧ (∀ i, i < n → FineI (z i)) ∧ (join (toks z n)).length ≤ 17 * n) := by
  by_cases h : ∀ i, i < n → FineI (z i)
  · have hl := join_len (toks z n) (toks_fine h)
    rw [toks_len] at hl
    exact .inr ⟨.inr ⟨by omega, h, .inr ⟨rfl, rfl, by omega⟩⟩, h, hl⟩
  · have : ∃ i, i < n ∧ ¬ FineI (z i) := by
      refine Classical.byContradiction fun hc => h fun i hi => Classical.byContradiction fun hf => hc ⟨i, hi, hf⟩
    exact .inl ⟨.inl ⟨rfl, rfl, .inr this⟩, this⟩

theorem wf_own {a : List Tk} (hf : ∀ t ∈ a, Fine t) (ha : a.length ≤ 1000000) : ∀ i, i < a.length → (Lit.int .i64 (tkI (a.getD i ⟨0, 0, 0, []⟩)).k).wf = true ∧ (tkI (a.getD i ⟨0, 0, 0, []⟩)).s.size ≤ maxLen := by
  intro i hi
  have e : a.getD i ⟨0, 0, 0, []⟩ = a[i] := by simp [List.getD, hi]
  rw [e]
  have h := hf a[i] (List.getElem_mem _)
  generalize a[i] = t at h
  obtain ⟨k, p, n, s⟩ := t
  have hz : (⟨s.toArray⟩ : ByteArray).size = s.length := by simp [ByteArray.size]
  have ht := text_len h
  rcases h with ⟨h1, h2, h3⟩ | ⟨h1, h2, h3⟩ | ⟨h1, h2, h3⟩
  · simp only at h1 h2 h3; subst h1 h2
    refine ⟨by simp only [tkI]; exact WalkArith.wf_i64 (by omega), ?_⟩
    simp only [tkI, hz]
    simp [text] at ht
    unfold maxLen; omega
  · simp only at h1 h2 h3; subst h1 h2
    exact ⟨by simp only [tkI]; exact WalkArith.wf_i64 (by omega), by simp only [tkI, hz]; simp⟩
  · simp only at h1 h2 h3; subst h2 h3
    exact ⟨by simp only [tkI]; exact WalkArith.wf_i64 (by omega), by simp only [tkI, hz]; simp⟩

set_option maxRecDepth 100000 in
theorem lexback_walk (s : ByteArray) (A : Option Addr) (n cap : Nat) (z : Nat → TkI) (w : World) (hm : s.size ≤ maxLen) (hz : TokensOf w A n cap z) (tb : Pows w) :
    Calls Tryd.prog 5 #[.string s, .slice A n cap] w fun e w' => e = .returned (.bool true) ∧ Below w.heap.size w w' := by
  have cl := fun w => zlive_ok w
  have hm' := hm
  have hcap := Nat.le_trans hz.1 hz.2.1
  unfold maxLen at hm hcap
  by_cases h4 : 400 < s.size
  · have d1 : decide ((400 : Int) < (s.size : Int)) = true := decide_eq_true (by omega)
    clear h4 hz
    go_enter Tryd.func5, Tryd.ntmps5
    go_wp2_with fail
    refine (cl _).mono ?_
    rintro e w1 ⟨rfl, hb⟩
    go_wp2_with fail
    go_ret
    exact ⟨rfl, hb⟩
  have d1 : decide ((400 : Int) < (s.size : Int)) = false := decide_eq_false (by omega)
  by_cases h5 : 100 < n
  · have d2 : decide ((100 : Int) < (n : Int)) = true := decide_eq_true (by omega)
    clear h4 h5 hz
    go_enter Tryd.func5, Tryd.ntmps5
    go_wp2_with fail
    refine (cl _).mono ?_
    rintro e w1 ⟨rfl, hb⟩
    go_wp2_with fail
    go_ret
    exact ⟨rfl, hb⟩
  have d2 : decide ((100 : Int) < (n : Int)) = false := decide_eq_false (by omega)
  have hs4 : s.size ≤ 400 := by omega
  have hn4 : n ≤ 100 := by omega
  have T := TokAt.of_frame hz
  have hW : Hid (∀ i, i < n → (Lit.int .i64 (z i).k).wf = true ∧ (z i).s.size ≤ maxLen) := Lib.hid (fun i hi => by obtain ⟨h1, _, _, h4⟩ := hz.2.2.1 i hi; exact ⟨h1, h4⟩)
  clear h4 h5 hz
  obtain ⟨R, hR⟩ : ∃ R, cutR s = R := ⟨_, rfl⟩
  have cc := fun w => Cut_any s w R hm' (Lib.hid hR)
  have hcut : cut (by_ s) 0 0 = R := by rw [← hR, cutR, if_neg (by omega)]
  rcases joinIs_exists n z (by omega) with ⟨hJ, hbad⟩ | ⟨hJ, hfine, hlen⟩
  · have cj := fun w T P => Join_any (.slice A n cap) n z [] 1 w T P (by omega) hW (Lib.hid hJ)
    clear hJ hbad
    cases R with
    | error x =>
      obtain ⟨er, qq⟩ := x
      have d3 : ((er : Int) == 0) = false := by rcases err_ne hR with rfl | rfl <;> rfl
      have d4 : ((er : Int) != 0) = true := by rcases err_ne hR with rfl | rfl <;> rfl
      clear hcut hR hm'
      go_enter Tryd.func5, Tryd.ntmps5
      go_wp2_with fail
      refine (cl _).mono ?_
      rintro e w1 ⟨rfl, hb⟩
      go_wp2_with fail
      refine (cj _ (T.kept hb) (tb.kept hb)).mono ?_
      rintro e w2 ⟨rfl, hb2⟩
      have B := bthen hb hb2
      clear hb hb2 cl cj
      go_wp2_with fail
      refine (cc _).mono ?_
      rintro e w5 ⟨rfl, hb5⟩
      replace B := bthen B hb5
      clear hb5 cc
      go_wp2_with fail
      go_ret
      exact ⟨rfl, B⟩
    | ok a =>
      obtain ⟨ha1, ha2, ha3⟩ := cut_tokens _ _ _ _ _ (Nat.le_refl _) hcut
      rw [by_len] at ha2
      have haf : ∀ t ∈ a, Fine t := fun t ht => (ha1 t ht).1
      have hjl := join_len a haf
      have cj2 := fun w v T P => Join_any v a.length (fun i => tkI (a.getD i ⟨0, 0, 0, []⟩)) (join a) 0 w T P (by omega) (Lib.hid (wf_own haf (by omega))) (Lib.hid (.inr ⟨by omega, fun i hi => by
        have e : a.getD i ⟨0, 0, 0, []⟩ = a[i] := by simp [List.getD, hi]
        show FineI (tkI (a.getD i ⟨0, 0, 0, []⟩)); rw [e]; exact fine_tkI (haf _ (List.getElem_mem _)), .inr ⟨rfl, by rw [toks_own], by omega⟩⟩))
      obtain ⟨c, hc, hbare⟩ := cut_join a haf 0 0 (by omega)
      have hbare7 := Lib.hid hbare
      have hcl : c.length ≤ 1000 := by have := congrArg List.length hbare; simp at this; omega
      have hz7 : (⟨(join a).toArray⟩ : ByteArray).size = (join a).length := by simp [ByteArray.size]
      have c7 := fun w => Cut_any ⟨(join a).toArray⟩ w (.ok c) (by rw [hz7]; unfold maxLen; omega) (Lib.hid (by rw [cutR, if_neg (by rw [hz7]; omega), by_mk]; exact hc))
      clear hcut hR hm' ha1 ha3 haf hjl hc hbare hz7
      go_enter Tryd.func5, Tryd.ntmps5
      go_wp2_with fail
      refine (cl _).mono ?_
      rintro e w1 ⟨rfl, hb⟩
      go_wp2_with fail
      refine (cj _ (T.kept hb) (tb.kept hb)).mono ?_
      rintro e w2 ⟨rfl, hb2⟩
      have B := bthen hb hb2
      clear hb hb2 cl cj
      go_wp2_with fail
      refine (cc _).mono ?_
      rintro e w5 ⟨v5, rfl, hO5⟩
      obtain ⟨ptr5, cap5, rfl⟩ := hO5.form
      replace B := bthen B hO5.below
      clear cc
      go_wp2_with fail
      refine (cj2 _ _ (TokAt.of_own hO5) (tb.kept B)).mono ?_
      rintro e w6 ⟨rfl, hb6⟩
      replace B := bthen B hb6
      replace hO5 := hO5.kept hb6
      clear hb6 cj2
      go_wp2_with fail
      refine (c7 _).mono ?_
      rintro e w7 ⟨v7, rfl, hO7⟩
      obtain ⟨ptr7, cap7, rfl⟩ := hO7.form
      replace B := bthen B hO7.below
      have cs7 := rSame_any _ _ _ _ _ _ true _ (TokAt.of_own (hO5.kept hO7.below)) (TokAt.of_own hO7) (by omega) (by omega) (Lib.hid (by simp only [true_iff]; exact bare_tk hbare7.out.symm))
      clear hO7 c7 hO5
      go_wp2_with fail
      refine cs7.mono ?_
      rintro e w8 ⟨rfl, hb8⟩
      go_wp2_with fail
      go_ret
      exact ⟨rfl, bthen B hb8⟩
  · have cj := fun w T P => Join_any (.slice A n cap) n z (join (toks z n)) 0 w T P (by omega) hW (Lib.hid hJ)
    obtain ⟨b, hb0, hbare0⟩ := cut_join (toks z n) (toks_fine hfine) 0 0 (by rw [toks_len]; omega)
    have hbf := Lib.hid (bare_frame hbare0 hfine)
    have hbl : b.length ≤ 1000 := by have := hbf.out.1; omega
    have hz2 : (⟨(join (toks z n)).toArray⟩ : ByteArray).size = (join (toks z n)).length := by simp [ByteArray.size]
    have c2 := fun w => Cut_any ⟨(join (toks z n)).toArray⟩ w (.ok b) (by rw [hz2]; unfold maxLen; omega) (Lib.hid (by rw [cutR, if_neg (by rw [hz2]; omega), by_mk]; exact hb0))
    clear hJ hfine hlen hb0 hbare0 hz2
    cases R with
    | error x =>
      obtain ⟨er, qq⟩ := x
      have d3 : ((er : Int) == 0) = false := by rcases err_ne hR with rfl | rfl <;> rfl
      have d4 : ((er : Int) != 0) = true := by rcases err_ne hR with rfl | rfl <;> rfl
      clear hcut hR hm'
      go_enter Tryd.func5, Tryd.ntmps5
      go_wp2_with fail
      refine (cl _).mono ?_
      rintro e w1 ⟨rfl, hb⟩
      go_wp2_with fail
      refine (cj _ (T.kept hb) (tb.kept hb)).mono ?_
      rintro e w2 ⟨rfl, hb2⟩
      have B := bthen hb hb2
      clear hb hb2 cl cj
      go_wp2_with fail
      refine (c2 _).mono ?_
      rintro e w3 ⟨v3, rfl, hO3⟩
      obtain ⟨ptr3, cap3, rfl⟩ := hO3.form
      replace B := bthen B hO3.below
      have cs3 := rSame_any _ _ _ _ _ _ true _ (TokAt.of_own hO3) (T.kept B) (by omega) (by omega) (Lib.hid (by simp only [true_iff]; exact hbf.out))
      clear hO3 c2
      go_wp2_with fail
      refine cs3.mono ?_
      rintro e w4 ⟨rfl, hb4⟩
      replace B := bthen B hb4
      clear cs3 hb4
      go_wp2_with fail
      refine (cc _).mono ?_
      rintro e w5 ⟨rfl, hb5⟩
      replace B := bthen B hb5
      clear hb5 cc
      go_wp2_with fail
      go_ret
      exact ⟨rfl, B⟩
    | ok a =>
      obtain ⟨ha1, ha2, ha3⟩ := cut_tokens _ _ _ _ _ (Nat.le_refl _) hcut
      rw [by_len] at ha2
      have haf : ∀ t ∈ a, Fine t := fun t ht => (ha1 t ht).1
      have hjl := join_len a haf
      have cj2 := fun w v T P => Join_any v a.length (fun i => tkI (a.getD i ⟨0, 0, 0, []⟩)) (join a) 0 w T P (by omega) (Lib.hid (wf_own haf (by omega))) (Lib.hid (.inr ⟨by omega, fun i hi => by
        have e : a.getD i ⟨0, 0, 0, []⟩ = a[i] := by simp [List.getD, hi]
        show FineI (tkI (a.getD i ⟨0, 0, 0, []⟩)); rw [e]; exact fine_tkI (haf _ (List.getElem_mem _)), .inr ⟨rfl, by rw [toks_own], by omega⟩⟩))
      obtain ⟨c, hc, hbare⟩ := cut_join a haf 0 0 (by omega)
      have hbare7 := Lib.hid hbare
      have hcl : c.length ≤ 1000 := by have := congrArg List.length hbare; simp at this; omega
      have hz7 : (⟨(join a).toArray⟩ : ByteArray).size = (join a).length := by simp [ByteArray.size]
      have c7 := fun w => Cut_any ⟨(join a).toArray⟩ w (.ok c) (by rw [hz7]; unfold maxLen; omega) (Lib.hid (by rw [cutR, if_neg (by rw [hz7]; omega), by_mk]; exact hc))
      clear hcut hR hm' ha1 ha3 haf hjl hc hbare hz7
      go_enter Tryd.func5, Tryd.ntmps5
      go_wp2_with fail
      refine (cl _).mono ?_
      rintro e w1 ⟨rfl, hb⟩
      go_wp2_with fail
      refine (cj _ (T.kept hb) (tb.kept hb)).mono ?_
      rintro e w2 ⟨rfl, hb2⟩
      have B := bthen hb hb2
      clear hb hb2 cl cj
      go_wp2_with fail
      refine (c2 _).mono ?_
      rintro e w3 ⟨v3, rfl, hO3⟩
      obtain ⟨ptr3, cap3, rfl⟩ := hO3.form
      replace B := bthen B hO3.below
      have cs3 := rSame_any _ _ _ _ _ _ true _ (TokAt.of_own hO3) (T.kept B) (by omega) (by omega) (Lib.hid (by simp only [true_iff]; exact hbf.out))
      clear hO3 c2
      go_wp2_with fail
      refine cs3.mono ?_
      rintro e w4 ⟨rfl, hb4⟩
      replace B := bthen B hb4
      clear cs3 hb4
      go_wp2_with fail
      refine (cc _).mono ?_
      rintro e w5 ⟨v5, rfl, hO5⟩
      obtain ⟨ptr5, cap5, rfl⟩ := hO5.form
      replace B := bthen B hO5.below
      clear cc
      go_wp2_with fail
      refine (cj2 _ _ (TokAt.of_own hO5) (tb.kept B)).mono ?_
      rintro e w6 ⟨rfl, hb6⟩
      replace B := bthen B hb6
      replace hO5 := hO5.kept hb6
      clear hb6 cj2
      go_wp2_with fail
      refine (c7 _).mono ?_
      rintro e w7 ⟨v7, rfl, hO7⟩
      obtain ⟨ptr7, cap7, rfl⟩ := hO7.form
      replace B := bthen B hO7.below
      have cs7 := rSame_any _ _ _ _ _ _ true _ (TokAt.of_own (hO5.kept hO7.below)) (TokAt.of_own hO7) (by omega) (by omega) (Lib.hid (by simp only [true_iff]; exact bare_tk hbare7.out.symm))
      clear hO7 c7 hO5
      go_wp2_with fail
      refine cs7.mono ?_
      rintro e w8 ⟨rfl, hb8⟩
      go_wp2_with fail
      go_ret
      exact ⟨rfl, bthen B hb8⟩

end Go.Proofs.YtknecagkgegclaaDoor.Zl
