/- Texts that are joined: Yolm, Yoind, Yotwp, Yoone, Yotw. -/
import Derived.Test.YtjebdoecigmkhaaDoorJYo
import Derived.Test.YtjebdoecigmkhaaDoorYgen2
import Derived.Test.YtjebdoecigmkhaaDoorYdeep2
import Derived.Test.YtjebdoecigmkhaaDoorYlive
import Derived.Test.YtjebdoecigmkhaaDoorFrameN
import Derived.Test.YtjebdoecigmkhaaDoorYrleft
import Derived.Test.YtjebdoecigmkhaaDoorYflat
namespace Go.Proofs.YtjebdoecigmkhaaDoor.Ym
set_option linter.unusedSimpArgs false
set_option linter.unusedVariables false
open Go.Proofs.YtjebdoecigmkhaaDoor.Zm
open Go.Lib (decDigits)

/-- bytes among which is no line's end, no tab, no remark's sign, and behind each blank another byte -/
def Tidy : List UInt8 → Prop
  | [] => True
  | c :: l => (c ≠ 10 ∧ c ≠ 9 ∧ c ≠ 35) ∧ (c = 32 → ∃ d m, l = d :: m ∧ d ≠ 32) ∧ Tidy l
theorem Tidy.append : ∀ {x y : List UInt8}, Tidy x → Tidy y → Tidy (x ++ y)
  | [], y, _, h => h
  | c :: l, y, ⟨h1, h2, h3⟩, h => ⟨h1, fun e => by
      obtain ⟨d, m, rfl, hd⟩ := h2 e
      exact ⟨d, m ++ y, rfl, hd⟩, h3.append h⟩
theorem Tidy.inner : ∀ {x : List UInt8}, (∀ c ∈ x, Zm.inner c = true) → Tidy x
  | [], _ => trivial
  | c :: l, h => by
    have hc := h c (by simp)
    have n : ∀ d : UInt8, Zm.inner d = false → c ≠ d := fun d hd e => by rw [e, hd] at hc; cases hc
    exact ⟨⟨n 10 (by decide), n 9 (by decide), n 35 (by decide)⟩, fun e => absurd e (n 32 (by decide)), Tidy.inner (fun c hc => h c (by simp [hc]))⟩
theorem Tidy.end10 : ∀ {x : List UInt8}, Tidy x → ∀ c ∈ x, c ≠ 10
  | [], _, c, h => by cases h
  | d :: l, ⟨h1, _, h3⟩, c, h => by
    rcases List.mem_cons.1 h with rfl | h
    · exact h1.1
    · exact h3.end10 c h
/-- what stands at a place -/
theorem Tidy.at_ : ∀ {x : List UInt8}, Tidy x → ∀ k, k + 1 < x.length → ¬ (x.getD k 0 = 32 ∧ x.getD (k + 1) 0 = 32) ∧ x.getD k 0 ≠ 9 ∧ x.getD k 0 ≠ 35
  | [], _, k, h => by simp at h
  | d :: l, ⟨h1, h2, h3⟩, 0, h => by
    refine ⟨fun ⟨e1, e2⟩ => ?_, h1.2.1, h1.2.2⟩
    obtain ⟨c, m, rfl, hc⟩ := h2 e1
    exact hc e2
  | d :: l, ⟨h1, h2, h3⟩, k + 1, h => by
    have := h3.at_ k (by simpa using h)
    simpa using this
theorem name_inner {nm : List UInt8} (h : name nm = true) : ∀ c ∈ nm, inner c = true := by
  cases nm with
  | nil => simp [name] at h
  | cons c r =>
    simp only [name, Bool.and_eq_true, decide_eq_true_eq, List.all_eq_true] at h
    obtain ⟨⟨h1, h2⟩, _⟩ := h
    intro d hd
    rcases List.mem_cons.1 hd with rfl | hd
    · simp [inner, h1]
    · exact h2 d hd
theorem dec_inner (n : Nat) : ∀ c ∈ decDigits n, inner c = true := by
  intro c hc
  have := (dec_num n).1.2.1 c hc
  simp [inner, this]
theorem dec_ne (n : Nat) : decDigits n ≠ [] := (dec_num n).1.1
theorem word_inner {w : Wd} (h : WdFine w) : (∀ c ∈ text (wtk w), inner c = true) ∧ text (wtk w) ≠ [] := by
  obtain ⟨num, n, s, a⟩ := w
  cases num with
  | true => exact ⟨dec_inner n, dec_ne n⟩
  | false =>
    have hs : name s = true := by
      rcases h with h | h
      · cases h.1
      · exact h.2.2
    refine ⟨name_inner hs, ?_⟩
    show s ≠ []
    intro e; subst e; simp [name] at hs
theorem Tidy.words : ∀ ws : List Wd, (∀ w ∈ ws, WdFine w) → Tidy (prtWs ws)
  | [], _ => trivial
  | w :: ws, h => by
    obtain ⟨h1, h2⟩ := word_inner (h w (by simp))
    simp only [prtWs, wtk_text]
    refine Tidy.append ⟨⟨by decide, by decide, by decide⟩, fun _ => ?_, Tidy.inner h1⟩ (Tidy.words ws (fun w hw => h w (by simp [hw])))
    cases e : text (wtk w) with
    | nil => exact absurd e h2
    | cons c m => exact ⟨c, m, rfl, fun e' => by
        have := h1 c (by rw [e]; simp)
        rw [e'] at this; revert this; decide⟩

/-- a line, ahead of which d blocks are open and behind which d' are -/
def LineOk (d : Nat) (ln : List UInt8) (d' : Nat) : Prop :=
  ∃ m c x z e, ln = mar m ++ (c :: x) ∧ c ≠ 32 ∧ Tidy (c :: x) ∧ c :: x = z ++ [e] ∧ ((e = 125 ∧ d = m + 1 ∧ d' = m) ∨ (e = 123 ∧ d = m ∧ d' = m + 1) ∨ (e = 59 ∧ d = m ∧ d' = m))
inductive Lines : List UInt8 → Nat → Nat → Prop
  | nil (d : Nat) : Lines [] d d
  | line {ln more : List UInt8} {d d' d'' : Nat} : LineOk d ln d' → (∀ c ∈ ln, c ≠ 10) → Lines more d' d'' → Lines (ln ++ 10 :: more) d d''
theorem Lines.append {x y : List UInt8} {d d' d'' : Nat} (h : Lines x d d') (h' : Lines y d' d'') : Lines (x ++ y) d d'' := by
  induction h with
  | nil => exact h'
  | line h1 h2 _ ih =>
    rw [List.append_assoc, List.cons_append]
    exact .line h1 h2 (ih h')
theorem mar_end (m : Nat) : ∀ c ∈ mar m, c ≠ 10 := by
  intro c hc
  have := List.eq_of_mem_replicate hc
  subst this; decide
theorem Lines.one {m : Nat} {nm z : List UInt8} {e : UInt8} {d d' : Nat} (hn : nm ≠ []) (hc : ∀ c ∈ nm, inner c = true) (hz : Tidy (z ++ [e])) (he : (e = 125 ∧ d = m + 1 ∧ d' = m) ∨ (e = 123 ∧ d = m ∧ d' = m + 1) ∨ (e = 59 ∧ d = m ∧ d' = m)) : Lines (mar m ++ (nm ++ (z ++ [e])) ++ [10]) d d' := by
  cases nm with
  | nil => exact absurd rfl hn
  | cons c r =>
    have t : Tidy ((c :: r) ++ (z ++ [e])) := (Tidy.inner hc).append hz
    have h32 : c ≠ 32 := fun e' => by
      have := hc c (by simp)
      rw [e'] at this; revert this; decide
    refine .line ⟨m, c, r ++ (z ++ [e]), (c :: r) ++ z, e, rfl, h32, t, by simp, he⟩ ?_ (.nil _)
    intro x hx
    rcases List.mem_append.1 hx with hx | hx
    · exact mar_end m x hx
    · exact t.end10 x hx
theorem Lines.close (m : Nat) : Lines (mar m ++ [125] ++ [10]) (m + 1) m := by
  refine .line ⟨m, 125, [], [], 125, rfl, by decide, ⟨by decide, fun h => absurd h (by decide), trivial⟩, rfl, .inl ⟨rfl, rfl, rfl⟩⟩ ?_ (.nil _)
  intro x hx
  rcases List.mem_append.1 hx with hx | hx
  · exact mar_end m x hx
  · have : x = 125 := by simpa using hx
    subst this; decide
mutual
theorem lines_N (d k : Nat) : ∀ n : Nd, RightN k n → Lines (prtN d n) d d
  | .mk nm a ws b ks, h => by
    obtain ⟨h1, _, h3, _, _, h6⟩ := h
    have hne : nm ≠ [] := fun e => by subst e; simp [name] at h1
    cases b with
    | true =>
      have l1 : Lines (mar d ++ (nm ++ ((prtWs ws ++ [32]) ++ [123])) ++ [10]) d (d + 1) :=
        Lines.one hne (name_inner h1) (by
          rw [List.append_assoc]
          exact (Tidy.words ws h3).append ⟨by decide, fun _ => ⟨123, [], rfl, by decide⟩, by decide, fun h => absurd h (by decide), trivial⟩) (.inr (.inl ⟨rfl, rfl, rfl⟩))
      have := (l1.append (lines_L (d + 1) (k + 1) ks h6)).append (Lines.close d)
      simpa [prtN] using this
    | false =>
      have l1 : Lines (mar d ++ (nm ++ (prtWs ws ++ [59])) ++ [10]) d d :=
        Lines.one hne (name_inner h1) ((Tidy.words ws h3).append ⟨by decide, fun h => absurd h (by decide), trivial⟩) (.inr (.inr ⟨rfl, rfl, rfl⟩))
      simpa [prtN] using l1
theorem lines_L (d k : Nat) : ∀ l : List Nd, RightL k l → Lines (prtL d l) d d
  | [], _ => by simp only [prtL]; exact .nil d
  | n :: l, h => by
    simp only [prtL]
    exact (lines_N d k n h.1).append (lines_L d k l h.2)
end

/-- what is left of a text, within a line -/
def LeftT (rest : List UInt8) (d : Nat) (line : List UInt8) : Prop :=
  (rest = [] ∧ d = 0 ∧ line = []) ∨ ∃ x more d', rest = x ++ 10 :: more ∧ (∀ c ∈ x, c ≠ 10) ∧ LineOk d (line ++ x) d' ∧ Lines more d' 0
theorem LeftT.start {rest : List UInt8} {d : Nat} (h : Lines rest d 0) : LeftT rest d [] := by
  cases h with
  | nil => exact .inl ⟨rfl, rfl, rfl⟩
  | line h1 h2 h3 => exact .inr ⟨_, _, _, rfl, h2, h1, h3⟩
theorem LeftT.step {c : UInt8} {rest : List UInt8} {d : Nat} {line : List UInt8} (h : LeftT (c :: rest) d line) : (c ≠ 10 ∧ LeftT rest d (line ++ [c])) ∨ (c = 10 ∧ ∃ d', LineOk d line d' ∧ LeftT rest d' []) := by
  rcases h with ⟨h, _⟩ | ⟨x, more, d', e, h1, h2, h3⟩
  · cases h
  · cases x with
    | nil =>
      injection e with e1 e2
      subst e1; subst e2
      rw [List.append_nil] at h2
      exact .inr ⟨rfl, d', h2, LeftT.start h3⟩
    | cons y x =>
      injection e with e1 e2
      subst e1; subst e2
      refine .inl ⟨h1 c (by simp), .inr ⟨x, more, d', rfl, fun c hc => h1 c (by simp [hc]), by simpa using h2, h3⟩⟩
theorem LeftT.end_ {d : Nat} {line : List UInt8} (h : LeftT [] d line) : d = 0 ∧ line = [] := by
  rcases h with ⟨_, h⟩ | ⟨x, more, d', e, _⟩
  · exact h
  · cases x <;> cases e
theorem getD_l {x y : List UInt8} {i : Nat} (h : i < x.length) : (x ++ y).getD i 0 = x.getD i 0 := by
  simp [List.getD_eq_getElem?_getD, List.getElem?_append_left h]
theorem getD_r {x y : List UInt8} {i : Nat} (h : x.length ≤ i) : (x ++ y).getD i 0 = y.getD (i - x.length) 0 := by
  simp [List.getD_eq_getElem?_getD, List.getElem?_append_right h]
/-- a line, by its places -/
theorem LineOk.at_ {d : Nat} {ln : List UInt8} {d' : Nat} (h : LineOk d ln d') : ∃ m e, 2 * m < ln.length ∧ (∀ i, i < 2 * m → ln.getD i 0 = 32) ∧ ln.getD (2 * m) 0 ≠ 32 ∧
    (∀ k, 2 * m ≤ k → k + 1 < ln.length → ¬ (ln.getD k 0 = 32 ∧ ln.getD (k + 1) 0 = 32) ∧ ln.getD k 0 ≠ 9 ∧ ln.getD k 0 ≠ 35) ∧ ln.getD (ln.length - 1) 0 = e ∧
    ((e = 125 ∧ d = m + 1 ∧ d' = m) ∨ (e = 123 ∧ d = m ∧ d' = m + 1) ∨ (e = 59 ∧ d = m ∧ d' = m)) := by
  obtain ⟨m, c, x, z, e, rfl, hc, ht, hz, he⟩ := h
  have hm : (mar m).length = 2 * m := by simp [mar]
  have g1 : ∀ i, i < 2 * m → (mar m ++ c :: x).getD i 0 = 32 := fun i hi => by
    rw [getD_l (by omega)]
    simp [mar, List.getD_eq_getElem?_getD, hi]
  have g2 : ∀ i, (mar m ++ c :: x).getD (2 * m + i) 0 = (c :: x).getD i 0 := fun i => by
    rw [getD_r (by omega), hm, show 2 * m + i - 2 * m = i by omega]
  refine ⟨m, e, by simp [hm], g1, ?_, fun k h1 h2 => ?_, ?_, he⟩
  · have := g2 0
    rw [Nat.add_zero] at this
    rw [this]; exact hc
  · obtain ⟨j, rfl⟩ : ∃ j, k = 2 * m + j := ⟨k - 2 * m, by omega⟩
    rw [List.length_append, hm] at h2
    rw [g2, show 2 * m + j + 1 = 2 * m + (j + 1) by omega, g2]
    exact ht.at_ j (by omega)
  · rw [List.length_append, hm]
    simp only [List.length_cons]
    rw [show 2 * m + (x.length + 1) - 1 = 2 * m + x.length by omega, g2, hz]
    have hl : z.length = x.length := by
      have := congrArg List.length hz
      simp at this; omega
    rw [getD_r (by omega), hl]
    simp

end Go.Proofs.YtjebdoecigmkhaaDoor.Ym

namespace Go.Proofs.YtjebdoecigmkhaaDoor.Ym
set_option linter.unusedSimpArgs false
set_option linter.unusedVariables false
open Go.Proofs.YtjebdoecigmkhaaDoor.Zm
open Go.Lib (decDigits)

/-- two blanks ahead of each line; whether a line begins here -/
def ind : Bool → List UInt8 → List UInt8
  | _, [] => []
  | f, c :: l => (if f then [32, 32] else []) ++ c :: ind (decide (c = 10)) l
theorem ind_in : ∀ (x y : List UInt8), (∀ c ∈ x, c ≠ 10) → ind false (x ++ 10 :: y) = x ++ 10 :: ind true y
  | [], y, _ => rfl
  | c :: x, y, h => by
    have hc : decide (c = 10) = false := decide_eq_false (h c (by simp))
    have := ind_in x y (fun c hc => h c (by simp [hc]))
    simp only [List.cons_append, ind, hc, this]
    rfl
def Shift (x x' : List UInt8) : Prop := ∀ y, ind true (x ++ y) = x' ++ ind true y
theorem Shift.nil : Shift [] [] := fun y => rfl
theorem Shift.append {x x' y y' : List UInt8} (h : Shift x x') (k : Shift y y') : Shift (x ++ y) (x' ++ y') := fun z => by
  rw [List.append_assoc, h, k, List.append_assoc]
theorem Shift.line {ln : List UInt8} (hn : ln ≠ []) (h : ∀ c ∈ ln, c ≠ 10) : Shift (ln ++ [10]) (32 :: 32 :: ln ++ [10]) := fun y => by
  cases ln with
  | nil => exact absurd rfl hn
  | cons c r =>
    have hc : decide (c = 10) = false := decide_eq_false (h c (by simp))
    have := ind_in r y (fun c hc => h c (by simp [hc]))
    simp only [List.cons_append, List.append_assoc, List.nil_append, ind, hc, this]
    rfl
theorem mar_more (d : Nat) : mar (d + 1) = 32 :: 32 :: mar d := by
  unfold mar
  rw [show 2 * (d + 1) = 2 * d + 1 + 1 by omega, List.replicate_succ, List.replicate_succ]
theorem tidy_end {x : List UInt8} {e : UInt8} (h : Tidy (x ++ [e])) : ∀ c ∈ x, c ≠ 10 := fun c hc => h.end10 c (by simp [hc])
mutual
theorem shift_N (d k : Nat) : ∀ n : Nd, RightN k n → Shift (prtN d n) (prtN (d + 1) n)
  | .mk nm a ws b ks, h => by
    obtain ⟨h1, _, h3, _, _, h6⟩ := h
    have hne : nm ≠ [] := fun e => by subst e; simp [name] at h1
    have hi : ∀ c ∈ nm, c ≠ 10 := (Tidy.inner (name_inner h1)).end10
    have hw : ∀ c ∈ prtWs ws, c ≠ 10 := (Tidy.words ws h3).end10
    have hh : ∀ t : List UInt8, (∀ c ∈ t, c ≠ 10) → ∀ c ∈ mar d ++ (nm ++ (prtWs ws ++ t)), c ≠ 10 := fun t ht c hc => by
      rcases List.mem_append.1 hc with hc | hc
      · exact mar_end d c hc
      rcases List.mem_append.1 hc with hc | hc
      · exact hi c hc
      rcases List.mem_append.1 hc with hc | hc
      · exact hw c hc
      · exact ht c hc
    have hl : ∀ t : List UInt8, mar d ++ (nm ++ (prtWs ws ++ t)) ≠ [] := fun t e => by
      have := congrArg List.length e
      simp at this
      exact hne this.2.1
    cases b with
    | true =>
      have l1 := Shift.line (hl [32, 123]) (hh [32, 123] (by decide))
      have l2 := shift_L (d + 1) (k + 1) ks h6
      have l3 : Shift (mar d ++ [125] ++ [10]) (32 :: 32 :: (mar d ++ [125]) ++ [10]) := Shift.line (by simp) (fun c hc => by
        rcases List.mem_append.1 hc with hc | hc
        · exact mar_end d c hc
        · have : c = 125 := by simpa using hc
          subst this; decide)
      have := (l1.append l2).append l3
      simpa [prtN, mar_more d] using this
    | false =>
      have l1 := Shift.line (hl [59]) (hh [59] (by decide))
      simpa [prtN, mar_more d] using l1
theorem shift_L (d k : Nat) : ∀ l : List Nd, RightL k l → Shift (prtL d l) (prtL (d + 1) l)
  | [], _ => by simp only [prtL]; exact Shift.nil
  | n :: l, h => by
    simp only [prtL]
    exact (shift_N d k n h.1).append (shift_L d k l h.2)
end
theorem prt_more {l : List Nd} {k d : Nat} (h : RightL k l) : prtL (d + 1) l = ind true (prtL d l) := by
  have := shift_L d k l h []
  simpa [ind] using this.symm

end Go.Proofs.YtjebdoecigmkhaaDoor.Ym

namespace Go.Proofs.YtjebdoecigmkhaaDoor.Yg
set_option linter.unusedSimpArgs false
set_option linter.unusedVariables false
open Go Go.RowKit Go.Proofs.YtjebdoecigmkhaaDoor.Zm Go.Proofs.YtjebdoecigmkhaaDoor.Ym Go.Proofs.YtjebdoecigmkhaaDoor.Bn Go.Proofs.YtjebdoecigmkhaaDoor.Zp Go.Proofs.YtjebdoecigmkhaaDoor.Zk

theorem chkL_append (d : Nat) : ∀ l m : List NI, chkL d (l ++ m) = if chkL d l ≠ 0 then chkL d l else chkL d m
  | [], m => by simp [chkL]
  | n :: l, m => by
    have := chkL_append d l m
    by_cases h : chkN d n ≠ 0
    · simp only [List.cons_append, chkL, if_pos h]
    · simp only [List.cons_append, chkL, if_neg h, this]
theorem cntL_append : ∀ l m : List NI, cntL (l ++ m) = cntL l + cntL m
  | [], m => by simp [cntL]
  | n :: l, m => by simp only [List.cons_append, cntL, cntL_append l m]; omega
theorem WsL.append {M : Nat} : ∀ {l m : List NI}, WsL M l → WsL M m → WsL M (l ++ m)
  | [], m, _, h => h
  | n :: l, m, h, k => by
    simp only [List.cons_append, WsL] at h ⊢
    exact ⟨h.1, WsL.append h.2 k⟩
theorem WfL.append : ∀ {l m : List NI}, WfL l → WfL m → WfL (l ++ m)
  | [], m, _, h => h
  | n :: l, m, h, k => by
    simp only [List.cons_append, WfL] at h ⊢
    exact ⟨h.1, WfL.append h.2 k⟩
mutual
theorem chk_upN : ∀ (d : Nat) (n : NI), d ≤ 6 → chkN d n = 0 → (dpN n ≠ 0 → d + dpN n ≤ 6) ∧ chkN (d + 1) n = if dpN n ≠ 0 ∧ d + dpN n = 6 then 7 else 0
  | d, .mk nm a ws b ks, hd, h => by
    simp only [chkN] at h
    split at h
    · omega
    rename_i h1
    split at h
    · omega
    rename_i h2
    cases b with
    | false =>
      have hk : ks = [] := by
        cases ks with
        | nil => rfl
        | cons k l => exact absurd (.inr ⟨by simp, rfl⟩) h1
      subst hk
      refine ⟨fun q => absurd (by simp [dpN, dpL]) q, ?_⟩
      rw [if_neg (by simp [dpN, dpL])]
      simp only [chkN]
      rw [if_neg h1, if_neg (by simp)]
      simp [chkL]
    | true =>
      have hd6 : d < 6 := by
        have : ¬ d = 6 := fun q => h2 ⟨rfl, q⟩
        omega
      obtain ⟨i1, i2⟩ := chk_upL (d + 1) ks (by omega) h
      have e : dpN (.mk nm a ws true ks) = 1 + dpL ks := by simp [dpN]
      rw [e]
      simp only [chkN]
      rw [if_neg h1]
      refine ⟨fun _ => by
        by_cases q : dpL ks = 0
        · omega
        · have := i1 q
          omega, ?_⟩
      by_cases h5 : d = 5
      · subst h5
        have : dpL ks = 0 := Classical.byContradiction (fun q => by have := i1 q; omega)
        rw [if_pos (by decide), if_pos (by omega)]
      · rw [if_neg (by omega), i2]
        by_cases q : dpL ks = 0
        · rw [if_neg (by omega), if_neg (by omega)]
        · by_cases q2 : d + 1 + dpL ks = 6
          · rw [if_pos ⟨q, q2⟩, if_pos (by omega)]
          · rw [if_neg (by omega), if_neg (by omega)]
theorem chk_upL : ∀ (d : Nat) (l : List NI), d ≤ 6 → chkL d l = 0 → (dpL l ≠ 0 → d + dpL l ≤ 6) ∧ chkL (d + 1) l = if dpL l ≠ 0 ∧ d + dpL l = 6 then 7 else 0
  | d, [], _, _ => by simp [dpL, chkL]
  | d, n :: l, hd, h => by
    simp only [chkL] at h
    split at h
    · omega
    rename_i h1
    obtain ⟨a1, a2⟩ := chk_upN d n hd (by omega)
    obtain ⟨b1, b2⟩ := chk_upL d l hd h
    obtain ⟨M, hM⟩ : ∃ M, dpL (n :: l) = M := ⟨_, rfl⟩
    have hM2 : max (dpN n) (dpL l) = M := by rw [← hM]; simp only [dpL]
    rw [hM]
    simp only [chkL]
    rw [a2, b2]
    refine ⟨fun q => ?_, ?_⟩
    · by_cases qa : dpN n = 0
      · have := b1 (by omega); omega
      · have := a1 qa
        by_cases qb : dpL l = 0
        · omega
        · have := b1 qb; omega
    · by_cases qa : dpN n ≠ 0 ∧ d + dpN n = 6
      · rw [if_pos qa, if_pos (by decide), if_pos]
        by_cases qb : dpL l = 0
        · omega
        · have := b1 qb; omega
      · rw [if_neg qa, if_neg (by decide)]
        by_cases qb : dpL l ≠ 0 ∧ d + dpL l = 6
        · rw [if_pos qb, if_pos]
          by_cases qc : dpN n = 0
          · omega
          · have := a1 qc; omega
        · rw [if_neg qb, if_neg]
          rintro ⟨q1, q2⟩
          have : M = dpN n ∨ M = dpL l := by omega
          rcases this with e | e
          · rw [e] at q1 q2; exact qa ⟨q1, q2⟩
          · rw [e] at q1 q2; exact qb ⟨q1, q2⟩
end
/-- items that may be and are few, written -/
theorem print_few {l : List NI} {c : Nat} (hcm : c ≤ 100) (hc : cntL l ≤ c) (hws : WsL 20 l) (h0 : chkL 0 l = 0) : printI l = (⟨(prtL 0 (toL l)).toArray⟩, 0) ∧ (prtL 0 (toL l)).length ≤ 200 * c := by
  obtain ⟨hr, hs⟩ := chk_rightL 0 l (by omega) h0
  have htk := tk_fewL l 20 hws
  have hlen := prtL_len 0 (by omega) (toL l) hr
  rw [cnt_toL] at hlen
  exact ⟨by rw [printI, if_neg (by rw [h0]; decide), if_neg (by omega), if_neg (by omega)], by omega⟩
theorem print_no {l : List NI} {E : Nat} (h : chkL 0 l = E) (hE : E ≠ 0) : printI l = (⟨#[]⟩, E) := by rw [printI, if_pos (by rw [h]; exact hE), h]
/-- two rows of items, one behind the other -/
theorem two_no1 {l m : List NI} {E : Nat} (h : chkL 0 l = E) (hE : E ≠ 0) : printI (l ++ m) = (⟨#[]⟩, E) := print_no (by rw [chkL_append, if_pos (by rw [h]; exact hE), h]) hE
theorem two_no2 {l m : List NI} {E : Nat} (h0 : chkL 0 l = 0) (h : chkL 0 m = E) (hE : E ≠ 0) : printI (l ++ m) = (⟨#[]⟩, E) := print_no (by rw [chkL_append, if_neg (by rw [h0]; decide), h]) hE
theorem two_ok {l m : List NI} (hl : cntL l ≤ 40) (hm : cntL m ≤ 40) (hwl : WsL 20 l) (hwm : WsL 20 m) (h0 : chkL 0 l = 0) (h1 : chkL 0 m = 0) :
    printI (l ++ m) = (⟨(prtL 0 (toL l)).toArray⟩ ++ ⟨(prtL 0 (toL m)).toArray⟩, 0) := by
  have := (print_few (l := l ++ m) (c := 80) (by omega) (by rw [cntL_append]; omega) (hwl.append hwm) (by rw [chkL_append, if_neg (by rw [h0]; decide), h1])).1
  rw [this, toL_append, prtL_append, ByteArray.mk_append_mk]
/-- items in a block -/
def inX (l : List NI) : List NI := [.mk ⟨#[120]⟩ 0 [] true l]
theorem inx_head : HeadOk ⟨#[120]⟩ [] := ⟨by simp, by decide, by simp⟩
theorem inx_chk {l : List NI} (h0 : chkL 0 l = 0) : chkL 0 (inX l) = if dpL l = 6 then 7 else 0 := by
  have h := (chk_upL 0 l (by omega) h0).2
  have hn : chkN 0 (.mk ⟨#[120]⟩ 0 [] true l) = chkL 1 l := by
    simp only [chkN]
    rw [if_neg (show ¬ (¬ HeadOk ⟨#[120]⟩ [] ∨ (0 < l.length ∧ true = false)) from by
      rintro (q | ⟨_, q⟩)
      · exact q inx_head
      · cases q), if_neg (by decide)]
  rw [Nat.zero_add, Nat.zero_add] at h
  have h2 : chkL 1 l = if dpL l = 6 then 7 else 0 := by
    rw [h]
    by_cases q : dpL l = 6
    · rw [if_pos ⟨by omega, q⟩, if_pos q]
    · rw [if_neg (fun z => q z.2), if_neg q]
  simp only [inX, chkL]
  rw [hn, h2]
  by_cases q : dpL l = 6
  · rw [if_pos q]; rfl
  · rw [if_neg q]; rfl
theorem inx_ws {l : List NI} {M : Nat} (h : WsL M l) : WsL M (inX l) := by
  simp only [inX, WsL, WsN]
  exact ⟨⟨by simp, h⟩, trivial⟩
theorem inx_wf {l : List NI} (h : WfL l) : WfL (inX l) := by
  simp only [inX, WfL, WfN]
  exact ⟨⟨by decide, by simp, h⟩, trivial⟩
theorem inx_cnt (l : List NI) : cntL (inX l) = 1 + cntL l := by simp [inX, cntL, cntN]
theorem inx_ok {l : List NI} (hl : cntL l ≤ 40) (hw : WsL 20 l) (h0 : chkL 0 l = 0) (hd : dpL l ≠ 6) : printI (inX l) = (⟨([120, 32, 123, 10] ++ (ind true (prtL 0 (toL l)) ++ [125, 10])).toArray⟩, 0) := by
  have h1 : chkL 0 (inX l) = 0 := by rw [inx_chk h0, if_neg hd]
  have := (print_few (l := inX l) (c := 41) (by omega) (by rw [inx_cnt]; omega) (inx_ws hw) h1).1
  rw [this, ← prt_more (chk_rightL 0 l (by omega) h0).1]
  simp [inX, toL, toN, prtL, prtN, mar, prtWs]
theorem inx_no {l : List NI} (h0 : chkL 0 l = 0) (hd : dpL l = 6) : printI (inX l) = (⟨#[]⟩, 7) := print_no (by rw [inx_chk h0, if_pos hd]) (by decide)

end Go.Proofs.YtjebdoecigmkhaaDoor.Yg

namespace Go.Proofs.YtjebdoecigmkhaaDoor.Yl
set_option linter.unusedSimpArgs false
set_option linter.unusedVariables false
open Go Go.RowKit Go.Proofs.YtjebdoecigmkhaaDoor.Zm Go.Proofs.YtjebdoecigmkhaaDoor.Zr Go.Proofs.YtjebdoecigmkhaaDoor.Zp Go.Proofs.YtjebdoecigmkhaaDoor.Zk Go.Proofs.YtjebdoecigmkhaaDoor.Ym Go.Proofs.YtjebdoecigmkhaaDoor.Yp

theorem slice_one (s : ByteArray) (i : Nat) (h : i < s.size) : ∃ t : ByteArray, by_ t = [s[i]] ∧ t.size = 1 ∧
    ∀ w, (Instr.slice 9 (.string s) (some (.int .i64 (i : Int))) (some (.int .i64 ((i : Int) + 1))) none).run Tryd.prog w = .ok (.string t) w := by
  have hl : (by_ s).length = s.size := by_len s
  refine ⟨s.extract i (i + 1), ?_, ?_, fun w => ?_⟩
  · rw [by_extract s i (i + 1) (by omega) (by omega)]
    have := drop_at s i h
    rw [List.drop_take, this]
    simp [show i + 1 - i = 1 by omega]
  · rw [ByteArray.size_extract]; omega
  · rw [run_slice_string _ _ _ _ _ _ _ Tryd.underlying9 (by omega) (by omega) (by omega)]
    rw [show ((i : Int) + 1).toNat = i + 1 by omega, show ((i : Int)).toNat = i by omega]

end Go.Proofs.YtjebdoecigmkhaaDoor.Yl

namespace Go.Proofs.YtjebdoecigmkhaaDoor.Yl
set_option linter.unusedSimpArgs false
set_option linter.unusedVariables false
open Go Go.RowKit Go.Proofs.YtjebdoecigmkhaaDoor.Zm Go.Proofs.YtjebdoecigmkhaaDoor.Ym Go.Proofs.YtjebdoecigmkhaaDoor.Bn Go.Proofs.YtjebdoecigmkhaaDoor.Zp Go.Proofs.YtjebdoecigmkhaaDoor.Zk Go.Proofs.YtjebdoecigmkhaaDoor.Yp Go.Proofs.YtjebdoecigmkhaaDoor.Zr Go.Proofs.YtjebdoecigmkhaaDoor.Yg

set_option maxHeartbeats 2000000

theorem few_40 {l : List NI} (h : decide (0 ≤ lft 12 l 40) = true) : cntL l ≤ 40 ∧ WsL 20 l := by
  have f0 := lft_few 12 l 40 (of_decide_eq_true h)
  have := of_decide_eq_true h
  exact ⟨by omega, f0.2⟩
/-- one item in a block, in memory -/
theorem inx_at {W : World} {S : Nat → Prop} {l : List NI} {p : Option Addr} {n c : Nat} (g : Nat) (hg : W.heap.size = g) (h : NsV S W (.slice p n c) l) (hS : ∀ b, S b → b < W.heap.size) :
    NsV (fun b => S b ∨ b = g) (W.alloc (.cells #[.string ⟨#[120]⟩, .int .i64 0, .slice none 0 0, .bool true, .slice p n c] 40 (0, 0))) (.slice (some ⟨g, 0, none⟩) 1 1) (inX l) := by
  have B := balloc (Below.refl W.heap.size W) (.cells #[.string ⟨#[120]⟩, .int .i64 0, .slice none 0 0, .bool true, .slice p n c] 40 (0, 0))
  have hb : Blk (W.alloc (.cells #[.string ⟨#[120]⟩, .int .i64 0, .slice none 0 0, .bool true, .slice p n c] 40 (0, 0))) g 40 #[.string ⟨#[120]⟩, .int .i64 0, .slice none 0 0, .bool true, .slice p n c] := Blk.at_ hg
  have h' := (h.on hS B).mono (T := fun b => S b ∨ b = g) (fun b q => .inl q)
  refine ⟨_, 1, rfl, .inr ⟨g, 0, rfl, ?_⟩⟩
  obtain ⟨p', c', e, h'⟩ := h'
  injection e with e1 e2 e3
  subst e1 e2 e3
  simp only [inX, NsFrom, NAt]
  exact ⟨⟨by simp, hb.cell 0, hb.cell 1, ⟨_, hb.cell 2, none, 0, rfl, .inl rfl⟩, hb.cell 3, _, _, hb.cell 4, h'⟩, trivial⟩

set_option maxRecDepth 100000 in
theorem ltwo_walk (a0 : Option Addr) (n0 c0 : Nat) (l : List NI) (a1 : Option Addr) (n1 c1 : Nat) (m : List NI) (w : World) (hl : ItemsOf w a0 n0 c0 l) (hm : ItemsOf w a1 n1 c1 m) (tb : Pows w) :
    Calls Tryd.prog 14 #[.slice a0 n0 c0, .slice a1 n1 c1] w fun e w' => e = .returned (.bool true) ∧ Below w.heap.size w w' := by
  have cl := yolive_ok w tb
  obtain ⟨e0, l1, l2, l3, l4⟩ := hl
  obtain ⟨e1, m1, m2, m3, m4⟩ := hm
  subst e0 e1
  have sS : ∀ W, Below w.heap.size w W → ∀ b, b < w.heap.size → b < W.heap.size := fun W hB b hb => Nat.lt_of_lt_of_le hb hB.size
  have on_ : ∀ W v x, Below w.heap.size w W → NsV (· < w.heap.size) w v x → NsV (· < w.heap.size) W v x := fun W v x hB h => h.on (fun b hb => hb) hB
  obtain ⟨r0, hr0⟩ : ∃ r, decide (0 ≤ lft 12 l 40) = r := ⟨_, rfl⟩
  obtain ⟨r1, hr1⟩ : ∃ r, decide (0 ≤ lft 12 m 40) = r := ⟨_, rfl⟩
  have cf0 := Lib.hid (fun W (hB : Below w.heap.size w W) => rFewI_any l (.slice a0 l.length c0) (· < w.heap.size) W 40 r0 (on_ W _ _ hB l4) (sS W hB) l1 l3 (by omega) (by omega) (Lib.hid hr0))
  have cf1 := Lib.hid (fun W (hB : Below w.heap.size w W) => rFewI_any m (.slice a1 m.length c1) (· < w.heap.size) W 40 r1 (on_ W _ _ hB m4) (sS W hB) m1 m3 (by omega) (by omega) (Lib.hid hr1))
  cases r0 with
  | false =>
    clear hr0 hr1 on_ sS l4 m4 l3 m3 l2 m2 l1 m1
    go_enter Tryd.func14, Tryd.ntmps14
    go_wp2_with fail
    refine cl.mono ?_
    rintro e w1 ⟨rfl, hb⟩
    go_wp2_with fail
    refine (cf0.out _ hb).mono ?_
    rintro e w2 ⟨rfl, hb2⟩
    have B2 := bthen hb hb2
    clear hb hb2
    go_wp2_with fail
    go_ret
    exact ⟨rfl, B2⟩
  | true =>
    cases r1 with
    | false =>
      clear hr0 hr1 on_ sS l4 m4 l3 m3 l2 m2 l1 m1
      go_enter Tryd.func14, Tryd.ntmps14
      go_wp2_with fail
      refine cl.mono ?_
      rintro e w1 ⟨rfl, hb⟩
      go_wp2_with fail
      refine (cf0.out _ hb).mono ?_
      rintro e w2 ⟨rfl, hb2⟩
      have B2 := bthen hb hb2
      clear hb hb2
      go_wp2_with fail
      refine (cf1.out _ B2).mono ?_
      rintro e w3 ⟨rfl, hb3⟩
      have B3 := bthen B2 hb3
      clear hb3 B2
      go_wp2_with fail
      go_ret
      exact ⟨rfl, B3⟩
    | true =>
      obtain ⟨hcl, hwl⟩ := few_40 hr0
      obtain ⟨hcm, hwm⟩ := few_40 hr1
      have hll := cnt_len l
      have hlm := cnt_len m
      have HW := Lib.hid (And.intro (hwl.mono (b := 1000000) (by omega)) (hwm.mono (b := 1000000) (by omega)))
      have HF := Lib.hid (And.intro l2 m2)
      have kl := Lib.hid (fun W (hB : Below w.heap.size w W) => on_ W _ _ hB l4)
      have km := Lib.hid (fun W (hB : Below w.heap.size w W) => on_ W _ _ hB m4)
      have KP := fun r (hr : printI l = r) => Lib.hid (fun W (hB : Below w.heap.size w W) => Print_any l (.slice a0 l.length c0) (· < w.heap.size) W r (by omega) HW.out.1 l2 (on_ W _ _ hB l4) (sS W hB) (tb.kept hB) (Lib.hid hr))
      have KQ := fun r (hr : printI m = r) => Lib.hid (fun W (hB : Below w.heap.size w W) => Print_any m (.slice a1 m.length c1) (· < w.heap.size) W r (by omega) HW.out.2 m2 (on_ W _ _ hB m4) (sS W hB) (tb.kept hB) (Lib.hid hr))
      obtain ⟨E, hE⟩ : ∃ E, chkL 0 l = E := ⟨_, rfl⟩
      obtain ⟨E2, hE2⟩ : ∃ E, chkL 0 m = E := ⟨_, rfl⟩
      by_cases h0 : E = 0
      · subst h0
        by_cases h1 : E2 = 0
        · subst h1
          obtain ⟨pa, na⟩ := print_few (c := 40) (by omega) hcl hwl hE
          obtain ⟨pb, nb⟩ := print_few (c := 40) (by omega) hcm hwm hE2
          have pc := two_ok hcl hcm hwl hwm hE hE2
          have px := inx_no (l := l) hE
          have py := inx_ok hcl hwl hE
          have hw1 := inx_ws (HW.out.1)
          have hf1 := inx_wf (l := l) l2
          obtain ⟨A, hA⟩ : ∃ A, prtL 0 (toL l) = A := ⟨_, rfl⟩
          rw [hA] at pa pc py na
          obtain ⟨a, ha⟩ : ∃ a, (⟨A.toArray⟩ : ByteArray) = a := ⟨_, rfl⟩
          have ha' : by_ a = A := by rw [← ha]
          have hsz : a.size ≤ 8000 := by rw [← by_len, ha']; omega
          obtain ⟨b, hb0⟩ : ∃ b, (⟨(prtL 0 (toL m)).toArray⟩ : ByteArray) = b := ⟨_, rfl⟩
          have hszb : b.size ≤ 8000 := by rw [← hb0]; simp [ByteArray.size]; omega
          rw [ha] at pa pc
          rw [hb0] at pb pc
          have kp := KP _ pa
          have kq := KQ _ pb
          have pc := Lib.hid pc
          obtain ⟨pcv, hpcv⟩ : ∃ p, (a ++ b, 0) = p := ⟨_, rfl⟩
          rw [hpcv] at pc
          have HX := Lib.hid (And.intro hw1 hf1)
          obtain ⟨D, hD⟩ : ∃ D, dpL l = D := ⟨_, rfl⟩
          rw [hD] at px py
          have kd := Lib.hid (fun W (hB : Below w.heap.size w W) => pDeepI_any 1000 (by omega) l (.slice a0 l.length c0) (· < w.heap.size) W (by omega) (on_ W _ _ hB l4) (sS W hB))
          rw [hD] at kd
          have hxc := inx_cnt l
          by_cases h6 : D = 6
          · subst h6
            have PX := Lib.hid (px rfl)
            obtain ⟨pxv, hpxv⟩ : ∃ p : ByteArray × Nat, ((⟨#[]⟩, 7) : ByteArray × Nat) = p := ⟨_, rfl⟩
            rw [hpxv] at PX
            clear hr0 hr1 on_ sS l4 m4 l3 m3 l2 m2 l1 m1 hE hE2 hwl hwm KP KQ px py hw1 hf1 hA ha ha' hb0 pa pb na nb hD
            go_enter Tryd.func14, Tryd.ntmps14
            go_wp2_with fail
            refine cl.mono ?_
            rintro e w1 ⟨rfl, hb⟩
            go_wp2_with fail
            refine (cf0.out _ hb).mono ?_
            rintro e w2 ⟨rfl, hb2⟩
            have B2 := bthen hb hb2
            clear hb hb2
            go_wp2_with fail
            refine (cf1.out _ B2).mono ?_
            rintro e w3 ⟨rfl, hb3⟩
            have B3 := bthen B2 hb3
            clear hb3 B2
            go_wp2_with fail
            refine (kp.out _ B3).mono ?_
            rintro e w4 ⟨rfl, hb4⟩
            have B4 := bthen B3 hb4
            clear hb4 B3
            go_wp2_with fail
            refine (kq.out _ B4).mono ?_
            rintro e w5 ⟨rfl, hb5⟩
            have B5 := bthen B4 hb5
            have Z5 := B5.size
            clear hb5 B4 cf0 cf1 cl
            have NL5 := kl.out _ B5
            have NM5 := km.out _ B5
            obtain ⟨xa, Ha, Ca⟩ := NL5.cells
            have X0 := OneC.start 40 5 w5 (Below.refl w5.heap.size w5)
            have S5 : ∀ b, b < w.heap.size → b < w5.heap.size := fun b hb => Nat.lt_of_lt_of_le hb Z5
            go_wp2_with (first | (at_builtin; refine put_c 23 underI infoI (by rfl) (by decide) (by go_simp) _ _ rfl X0 rfl rfl Ha (by omega) (by unfold maxLen; omega) ?_))
            intro v6 w6 X6 _
            have X6 : OneC 40 5 w5 w6 v6 l.length xa := by simpa using X6
            have NA6 : NCs (· < w.heap.size) w6 xa l := Ca.kept ((Stay.below X6.below).mono S5)
            have NM6 := NM5.on S5 X6.below
            obtain ⟨xb, Hb, Cb⟩ := NM6.cells
            clear X0 NL5 Ha Ca NM5 NM6
            go_wp2_with (first | (at_builtin; refine put_c 23 underI infoI (by rfl) (by decide) (by go_simp) _ _ rfl X6 rfl rfl Hb (by omega) (by unfold maxLen; omega) ?_))
            intro v7 w7 X7 _
            have B7 : Below w.heap.size w w7 := bthen B5 X7.below
            have g5 : ∀ y, y < w5.heap.size → w7.heap[y]? = w5.heap[y]? := fun y hy => X7.below.block y hy
            have g6 : ∀ y, y < w5.heap.size → w6.heap[y]? = w5.heap[y]? := fun y hy => X6.below.block y hy
            have kS : Stay (· < w.heap.size) w6 w7 := fun y hy => (g5 y (S5 y hy)).trans (g6 y (S5 y hy)).symm
            have l7 := X7.below.size
            have NR := (NA6.kept kS).append (Cb.kept kS)
            have e7 : l.length + m.length = (l ++ m).length := by simp
            rw [e7] at X7
            have NF := X7.items NR
            have kc := Print_any (l ++ m) v7 (fun y => y < w.heap.size ∨ v7.ownBlock = some y) w7 pcv (by rw [cntL_append]; omega) (HW.out.1.append HW.out.2) (HF.out.1.append HF.out.2) NF (by
              rintro y (h | h)
              · have := S5 y h; omega
              · exact (X7.own h).2) (tb.kept B7) pc
            clear X6 X7 NA6 Hb Cb NR NF kS g5 g6 S5 e7 l7 Z5
            go_wp2_with fail
            refine kc.mono ?_
            rintro e w8 ⟨rfl, hb8⟩
            have B8 := bthen B7 hb8
            clear kc hb8 B7 B5
            subst hpcv
            go_wp2_with fail
            have kx := Print_any (inX l) (.slice (some ⟨w8.heap.size, 0, none⟩) 1 1) (fun b => b < w.heap.size ∨ b = w8.heap.size) (w8.alloc (.cells #[.string ⟨#[120]⟩, .int .i64 0, .slice none 0 0, .bool true, .slice a0 l.length c0] 40)) pxv (by omega) HX.out.1 HX.out.2 (inx_at w8.heap.size rfl (kl.out _ B8) (fun b hb => Nat.lt_of_lt_of_le hb B8.size)) (by
              rintro y (h | h)
              · have := B8.size; simp; omega
              · subst h; simp) (tb.kept (balloc B8 _)) PX
            have B9 := balloc B8 (.cells #[.string ⟨#[120]⟩, .int .i64 0, .slice none 0 0, .bool true, .slice a0 l.length c0] 40)
            clear B8
            go_wp2_with fail
            refine kx.mono ?_
            rintro e w10 ⟨rfl, hb10⟩
            have B10 := bthen B9 hb10
            clear kx hb10 B9
            subst hpxv
            go_wp2_with fail
            refine (kd.out _ B10).mono ?_
            rintro e w11 ⟨rfl, hb11⟩
            have B11 := bthen B10 hb11
            clear hb11 B10 kd
            go_wp2_with fail
            go_ret
            exact ⟨rfl, B11⟩
          · have d6 : ((D : Int) == 6) = false := beq_eq_false_iff_ne.2 (by omega)
            have PX := Lib.hid (py h6)
            obtain ⟨G, hG⟩ : ∃ G, [120, 32, 123, 10] ++ ind true A = G := ⟨_, rfl⟩
            have hG2 : [120, 32, 123, 10] ++ (ind true A ++ [125, 10]) = G ++ [125, 10] := by rw [← hG]; simp
            obtain ⟨t, ht⟩ : ∃ t, (⟨(G ++ [125, 10]).toArray⟩ : ByteArray) = t := ⟨_, rfl⟩
            rw [hG2, ht] at PX
            have ht' : by_ t = G ++ [125, 10] := by rw [← ht]
            obtain ⟨pxv, hpxv⟩ : ∃ p : ByteArray × Nat, (t, 0) = p := ⟨_, rfl⟩
            rw [hpxv] at PX
            rw [← ha'] at hG
            have HG := Lib.hid hG
            have HT := Lib.hid ht'
            clear hr0 hr1 on_ sS l4 m4 l3 m3 l2 m2 l1 m1 hE hE2 hwl hwm KP KQ px py hw1 hf1 hA ha ha' hb0 pa pb na nb hD hG hG2 ht ht'
            go_enter Tryd.func14, Tryd.ntmps14
            go_wp2_with fail
            refine cl.mono ?_
            rintro e w1 ⟨rfl, hb⟩
            go_wp2_with fail
            refine (cf0.out _ hb).mono ?_
            rintro e w2 ⟨rfl, hb2⟩
            have B2 := bthen hb hb2
            clear hb hb2
            go_wp2_with fail
            refine (cf1.out _ B2).mono ?_
            rintro e w3 ⟨rfl, hb3⟩
            have B3 := bthen B2 hb3
            clear hb3 B2
            go_wp2_with fail
            refine (kp.out _ B3).mono ?_
            rintro e w4 ⟨rfl, hb4⟩
            have B4 := bthen B3 hb4
            clear hb4 B3
            go_wp2_with fail
            refine (kq.out _ B4).mono ?_
            rintro e w5 ⟨rfl, hb5⟩
            have B5 := bthen B4 hb5
            have Z5 := B5.size
            clear hb5 B4 cf0 cf1 cl
            have NL5 := kl.out _ B5
            have NM5 := km.out _ B5
            obtain ⟨xa, Ha, Ca⟩ := NL5.cells
            have X0 := OneC.start 40 5 w5 (Below.refl w5.heap.size w5)
            have S5 : ∀ b, b < w.heap.size → b < w5.heap.size := fun b hb => Nat.lt_of_lt_of_le hb Z5
            go_wp2_with (first | (at_builtin; refine put_c 23 underI infoI (by rfl) (by decide) (by go_simp) _ _ rfl X0 rfl rfl Ha (by omega) (by unfold maxLen; omega) ?_))
            intro v6 w6 X6 _
            have X6 : OneC 40 5 w5 w6 v6 l.length xa := by simpa using X6
            have NA6 : NCs (· < w.heap.size) w6 xa l := Ca.kept ((Stay.below X6.below).mono S5)
            have NM6 := NM5.on S5 X6.below
            obtain ⟨xb, Hb, Cb⟩ := NM6.cells
            clear X0 NL5 Ha Ca NM5 NM6
            go_wp2_with (first | (at_builtin; refine put_c 23 underI infoI (by rfl) (by decide) (by go_simp) _ _ rfl X6 rfl rfl Hb (by omega) (by unfold maxLen; omega) ?_))
            intro v7 w7 X7 _
            have B7 : Below w.heap.size w w7 := bthen B5 X7.below
            have g5 : ∀ y, y < w5.heap.size → w7.heap[y]? = w5.heap[y]? := fun y hy => X7.below.block y hy
            have g6 : ∀ y, y < w5.heap.size → w6.heap[y]? = w5.heap[y]? := fun y hy => X6.below.block y hy
            have kS : Stay (· < w.heap.size) w6 w7 := fun y hy => (g5 y (S5 y hy)).trans (g6 y (S5 y hy)).symm
            have l7 := X7.below.size
            have NR := (NA6.kept kS).append (Cb.kept kS)
            have e7 : l.length + m.length = (l ++ m).length := by simp
            rw [e7] at X7
            have NF := X7.items NR
            have kc := Print_any (l ++ m) v7 (fun y => y < w.heap.size ∨ v7.ownBlock = some y) w7 pcv (by rw [cntL_append]; omega) (HW.out.1.append HW.out.2) (HF.out.1.append HF.out.2) NF (by
              rintro y (h | h)
              · have := S5 y h; omega
              · exact (X7.own h).2) (tb.kept B7) pc
            clear X6 X7 NA6 Hb Cb NR NF kS g5 g6 S5 e7 l7 Z5
            go_wp2_with fail
            refine kc.mono ?_
            rintro e w8 ⟨rfl, hb8⟩
            have B8 := bthen B7 hb8
            clear kc hb8 B7 B5
            subst hpcv
            go_wp2_with fail
            have kx := Print_any (inX l) (.slice (some ⟨w8.heap.size, 0, none⟩) 1 1) (fun b => b < w.heap.size ∨ b = w8.heap.size) (w8.alloc (.cells #[.string ⟨#[120]⟩, .int .i64 0, .slice none 0 0, .bool true, .slice a0 l.length c0] 40)) pxv (by omega) HX.out.1 HX.out.2 (inx_at w8.heap.size rfl (kl.out _ B8) (fun b hb => Nat.lt_of_lt_of_le hb B8.size)) (by
              rintro y (h | h)
              · have := B8.size; simp; omega
              · subst h; simp) (tb.kept (balloc B8 _)) PX
            have B9 := balloc B8 (.cells #[.string ⟨#[120]⟩, .int .i64 0, .slice none 0 0, .bool true, .slice a0 l.length c0] 40)
            clear B8
            go_wp2_with fail
            refine kx.mono ?_
            rintro e w10 ⟨rfl, hb10⟩
            have B10 := bthen B9 hb10
            clear kx hb10 B9
            subst hpxv
            go_wp2_with fail
            refine (kd.out _ B10).mono ?_
            rintro e w11 ⟨rfl, hb11⟩
            have B11 := bthen B10 hb11
            clear hb11 B10 kd
            go_wp2_with fail
            go_loopw [13, 14, 89] (fun U F I wr => ∃ (i : Nat) (f : Bool) (u : ByteArray), i ≤ a.size ∧ I = .int .i64 i ∧ F = .bool f ∧ U = .string u ∧ u.size ≤ 10 + 3 * i ∧ Hid (by_ u ++ ind f ((by_ a).drop i) = G) ∧ Below w.heap.size w wr) (fun _ _ I _ => a.size - (intOf I).toNat)
            case atStart => exact ⟨0, true, _, by omega, rfl, rfl, rfl, by decide, Lib.hid (by rw [List.drop_zero, ← HG.out]), B11⟩
            case round =>
              clear B11
              obtain ⟨i, f, u, hi, rfl, rfl, rfl, hu, hI, B⟩ := hrel
              by_cases hlt : i < a.size
              · have hd := drop_at a i hlt
                have hx := hI.out
                rw [hd, ind] at hx
                obtain ⟨c, hc, hcz, cs⟩ := slice_one a i hlt
                obtain ⟨b10, e10⟩ : ∃ b, ((a[i].toNat : Int) == 10) = b := ⟨_, rfl⟩
                have hb10 : decide (a[i] = 10) = b10 := by
                  rw [← e10]
                  by_cases q : a[i] = 10
                  · rw [decide_eq_true q, q]; rfl
                  · rw [decide_eq_false q, eq_comm, beq_eq_false_iff_ne]
                    intro h
                    exact q (UInt8.toNat_inj.1 (by have : a[i].toNat = 10 := by omega
                                                   rw [this]; rfl))
                rw [hb10] at hx
                cases f with
                | true =>
                  obtain ⟨u1, k1, z1, s1⟩ := sum_two u ⟨#[32, 32]⟩ (by omega) (by decide)
                  have z1' : u1.size = u.size + 2 := z1
                  obtain ⟨u2, k2, z2, s2⟩ := sum_two u1 c (by omega) (by omega)
                  have HN : Hid (by_ u2 ++ ind b10 ((by_ a).drop (i + 1)) = G) := Lib.hid (by rw [k2, k1, hc, ← hx]; simp [by_])
                  clear hx hd hI hc k1 k2 hb10 z1
                  go_wp2_with fail
                  go_roundw
                  case rel => exact ⟨i + 1, b10, u2, by omega, by go_num, rfl, rfl, by omega, HN, B⟩
                  case measure => simp [intOf]; omega
                | false =>
                  obtain ⟨u2, k2, z2, s2⟩ := sum_two u c (by omega) (by omega)
                  have HN : Hid (by_ u2 ++ ind b10 ((by_ a).drop (i + 1)) = G) := Lib.hid (by rw [k2, hc, ← hx]; simp [by_])
                  clear hx hd hI hc k2 hb10
                  go_wp2_with fail
                  go_roundw
                  case rel => exact ⟨i + 1, b10, u2, by omega, by go_num, rfl, rfl, by omega, HN, B⟩
                  case measure => simp [intOf]; omega
              · obtain rfl : i = a.size := by omega
                obtain ⟨u2, k2, z2, s2⟩ := sum_two u ⟨#[125, 10]⟩ (by omega) (by decide)
                have hut : u2 = t := by
                  have h1 : by_ u2 = by_ t := by
                    rw [k2, HT.out, ← hI.out, List.drop_eq_nil_of_le (by rw [by_len]; omega)]
                    simp [by_, ind]
                  apply ByteArray.ext
                  exact Array.toList_inj.1 h1
                subst hut
                clear k2 z2 hI
                go_wp2_with fail
                go_ret
                exact ⟨rfl, B⟩
        · have hq : ((E2 : Int) != 0) = true := by
            have : ((E2 : Int) == 0) = false := beq_eq_false_iff_ne.2 (by omega)
            simp [bne, this]
          obtain ⟨pa, _⟩ := print_few (c := 40) (by omega) hcl hwl hE
          have pc := Lib.hid (two_no2 (l := l) hE hE2 h1)
          have kp := KP _ pa
          have kq := KQ _ (print_no hE2 h1)
          obtain ⟨a, ha⟩ : ∃ a, (⟨(prtL 0 (toL l)).toArray⟩ : ByteArray) = a := ⟨_, rfl⟩
          rw [ha] at kp
          obtain ⟨pcv, hpcv⟩ : ∃ p : ByteArray × Nat, ((⟨#[]⟩, E2) : ByteArray × Nat) = p := ⟨_, rfl⟩
          rw [hpcv] at pc
          clear hr0 hr1 on_ sS l4 m4 l3 m3 l2 m2 l1 m1 hE hE2 hwl hwm KP KQ pa ha
          go_enter Tryd.func14, Tryd.ntmps14
          go_wp2_with fail
          refine cl.mono ?_
          rintro e w1 ⟨rfl, hb⟩
          go_wp2_with fail
          refine (cf0.out _ hb).mono ?_
          rintro e w2 ⟨rfl, hb2⟩
          have B2 := bthen hb hb2
          clear hb hb2
          go_wp2_with fail
          refine (cf1.out _ B2).mono ?_
          rintro e w3 ⟨rfl, hb3⟩
          have B3 := bthen B2 hb3
          clear hb3 B2
          go_wp2_with fail
          refine (kp.out _ B3).mono ?_
          rintro e w4 ⟨rfl, hb4⟩
          have B4 := bthen B3 hb4
          clear hb4 B3
          go_wp2_with fail
          refine (kq.out _ B4).mono ?_
          rintro e w5 ⟨rfl, hb5⟩
          have B5 := bthen B4 hb5
          have Z5 := B5.size
          clear hb5 B4 cf0 cf1 cl
          have NL5 := kl.out _ B5
          have NM5 := km.out _ B5
          obtain ⟨xa, Ha, Ca⟩ := NL5.cells
          have X0 := OneC.start 40 5 w5 (Below.refl w5.heap.size w5)
          have S5 : ∀ b, b < w.heap.size → b < w5.heap.size := fun b hb => Nat.lt_of_lt_of_le hb Z5
          go_wp2_with (first | (at_builtin; refine put_c 23 underI infoI (by rfl) (by decide) (by go_simp) _ _ rfl X0 rfl rfl Ha (by omega) (by unfold maxLen; omega) ?_))
          intro v6 w6 X6 _
          have X6 : OneC 40 5 w5 w6 v6 l.length xa := by simpa using X6
          have NA6 : NCs (· < w.heap.size) w6 xa l := Ca.kept ((Stay.below X6.below).mono S5)
          have NM6 := NM5.on S5 X6.below
          obtain ⟨xb, Hb, Cb⟩ := NM6.cells
          clear X0 NL5 Ha Ca NM5 NM6
          go_wp2_with (first | (at_builtin; refine put_c 23 underI infoI (by rfl) (by decide) (by go_simp) _ _ rfl X6 rfl rfl Hb (by omega) (by unfold maxLen; omega) ?_))
          intro v7 w7 X7 _
          have B7 : Below w.heap.size w w7 := bthen B5 X7.below
          have g5 : ∀ y, y < w5.heap.size → w7.heap[y]? = w5.heap[y]? := fun y hy => X7.below.block y hy
          have g6 : ∀ y, y < w5.heap.size → w6.heap[y]? = w5.heap[y]? := fun y hy => X6.below.block y hy
          have kS : Stay (· < w.heap.size) w6 w7 := fun y hy => (g5 y (S5 y hy)).trans (g6 y (S5 y hy)).symm
          have l7 := X7.below.size
          have NR := (NA6.kept kS).append (Cb.kept kS)
          have e7 : l.length + m.length = (l ++ m).length := by simp
          rw [e7] at X7
          have NF := X7.items NR
          have kc := Print_any (l ++ m) v7 (fun y => y < w.heap.size ∨ v7.ownBlock = some y) w7 pcv (by rw [cntL_append]; omega) (HW.out.1.append HW.out.2) (HF.out.1.append HF.out.2) NF (by
            rintro y (h | h)
            · have := S5 y h; omega
            · exact (X7.own h).2) (tb.kept B7) pc
          clear X6 X7 NA6 Hb Cb NR NF kS g5 g6 S5 e7 l7 Z5
          go_wp2_with fail
          refine kc.mono ?_
          rintro e w8 ⟨rfl, hb8⟩
          have B8 := bthen B7 hb8
          clear kc hb8 B7 B5
          subst hpcv
          go_wp2_with fail
          go_ret
          exact ⟨rfl, B8⟩
      · have hq : ((E : Int) != 0) = true := by
          have : ((E : Int) == 0) = false := beq_eq_false_iff_ne.2 (by omega)
          simp [bne, this]
        have pc := Lib.hid (two_no1 (m := m) hE h0)
        obtain ⟨p, hp⟩ : ∃ p, printI m = p := ⟨_, rfl⟩
        obtain ⟨b, F⟩ := p
        have kp := KP _ (print_no hE h0)
        have kq := KQ _ hp
        obtain ⟨pcv, hpcv⟩ : ∃ p : ByteArray × Nat, ((⟨#[]⟩, E) : ByteArray × Nat) = p := ⟨_, rfl⟩
        rw [hpcv] at pc
        clear hr0 hr1 on_ sS l4 m4 l3 m3 l2 m2 l1 m1 hE hE2 hwl hwm KP KQ hp
        go_enter Tryd.func14, Tryd.ntmps14
        go_wp2_with fail
        refine cl.mono ?_
        rintro e w1 ⟨rfl, hb⟩
        go_wp2_with fail
        refine (cf0.out _ hb).mono ?_
        rintro e w2 ⟨rfl, hb2⟩
        have B2 := bthen hb hb2
        clear hb hb2
        go_wp2_with fail
        refine (cf1.out _ B2).mono ?_
        rintro e w3 ⟨rfl, hb3⟩
        have B3 := bthen B2 hb3
        clear hb3 B2
        go_wp2_with fail
        refine (kp.out _ B3).mono ?_
        rintro e w4 ⟨rfl, hb4⟩
        have B4 := bthen B3 hb4
        clear hb4 B3
        go_wp2_with fail
        refine (kq.out _ B4).mono ?_
        rintro e w5 ⟨rfl, hb5⟩
        have B5 := bthen B4 hb5
        have Z5 := B5.size
        clear hb5 B4 cf0 cf1 cl
        have NL5 := kl.out _ B5
        have NM5 := km.out _ B5
        obtain ⟨xa, Ha, Ca⟩ := NL5.cells
        have X0 := OneC.start 40 5 w5 (Below.refl w5.heap.size w5)
        have S5 : ∀ b, b < w.heap.size → b < w5.heap.size := fun b hb => Nat.lt_of_lt_of_le hb Z5
        go_wp2_with (first | (at_builtin; refine put_c 23 underI infoI (by rfl) (by decide) (by go_simp) _ _ rfl X0 rfl rfl Ha (by omega) (by unfold maxLen; omega) ?_))
        intro v6 w6 X6 _
        have X6 : OneC 40 5 w5 w6 v6 l.length xa := by simpa using X6
        have NA6 : NCs (· < w.heap.size) w6 xa l := Ca.kept ((Stay.below X6.below).mono S5)
        have NM6 := NM5.on S5 X6.below
        obtain ⟨xb, Hb, Cb⟩ := NM6.cells
        clear X0 NL5 Ha Ca NM5 NM6
        go_wp2_with (first | (at_builtin; refine put_c 23 underI infoI (by rfl) (by decide) (by go_simp) _ _ rfl X6 rfl rfl Hb (by omega) (by unfold maxLen; omega) ?_))
        intro v7 w7 X7 _
        have B7 : Below w.heap.size w w7 := bthen B5 X7.below
        have g5 : ∀ y, y < w5.heap.size → w7.heap[y]? = w5.heap[y]? := fun y hy => X7.below.block y hy
        have g6 : ∀ y, y < w5.heap.size → w6.heap[y]? = w5.heap[y]? := fun y hy => X6.below.block y hy
        have kS : Stay (· < w.heap.size) w6 w7 := fun y hy => (g5 y (S5 y hy)).trans (g6 y (S5 y hy)).symm
        have l7 := X7.below.size
        have NR := (NA6.kept kS).append (Cb.kept kS)
        have e7 : l.length + m.length = (l ++ m).length := by simp
        rw [e7] at X7
        have NF := X7.items NR
        have kc := Print_any (l ++ m) v7 (fun y => y < w.heap.size ∨ v7.ownBlock = some y) w7 pcv (by rw [cntL_append]; omega) (HW.out.1.append HW.out.2) (HF.out.1.append HF.out.2) NF (by
          rintro y (h | h)
          · have := S5 y h; omega
          · exact (X7.own h).2) (tb.kept B7) pc
        clear X6 X7 NA6 Hb Cb NR NF kS g5 g6 S5 e7 l7 Z5
        go_wp2_with fail
        refine kc.mono ?_
        rintro e w8 ⟨rfl, hb8⟩
        have B8 := bthen B7 hb8
        clear kc hb8 B7 B5
        subst hpcv
        go_wp2_with fail
        go_ret
        exact ⟨rfl, B8⟩

end Go.Proofs.YtjebdoecigmkhaaDoor.Yl
