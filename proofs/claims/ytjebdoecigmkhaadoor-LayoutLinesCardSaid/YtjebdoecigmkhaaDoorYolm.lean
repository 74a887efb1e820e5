/- The lines of items that are written. No condition. -/
import Derived.Test.YtjebdoecigmkhaaDoorJYo
namespace Go.Proofs.YtjebdoecigmkhaaDoor.Ym
set_option linter.unusedSimpArgs false
set_option linter.unusedVariables false
open Go.Proofs.YtjebdoecigmkhaaDoor.Zm
open Go.Lib (decDigits)

/-- bytes among which is no line's end, no tab, no remark's sign, and behind each blank another byte -/
def Tidy : List UInt8 → Prop
  | [] => True
  | c :: l => (c ≠ 10 ∧ c ≠ 9 ∧ c ≠ 35) ∧ (c = 32 → ∃ d m, l = d :: m ∧ d ≠ 32) ∧ Tidy l
theorem Tidy.append : ∀ {x y : List UInt8}, Tidy x → Tidy y → Tidy (x ++ y)
  | [], y, _, h => h
  | c :: l, y, ⟨h1, h2, h3⟩, h => ⟨h1, fun e => by
      obtain ⟨d, m, rfl, hd⟩ := h2 e
      exact ⟨d, m ++ y, rfl, hd⟩, h3.append h⟩
theorem Tidy.inner : ∀ {x : List UInt8}, (∀ c ∈ x, Zm.inner c = true) → Tidy x
  | [], _ => trivial
  | c :: l, h => by
    have hc := h c (by simp)
    have n : ∀ d : UInt8, Zm.inner d = false → c ≠ d := fun d hd e => by rw [e, hd] at hc; cases hc
    exact ⟨⟨n 10 (by decide), n 9 (by decide), n 35 (by decide)⟩, fun e => absurd e (n 32 (by decide)), Tidy.inner (fun c hc => h c (by simp [hc]))⟩
theorem Tidy.end10 : ∀ {x : List UInt8}, Tidy x → ∀ c ∈ x, c ≠ 10
  | [], _, c, h => by cases h
  | d :: l, ⟨h1, _, h3⟩, c, h => by
    rcases List.mem_cons.1 h with rfl | h
    · exact h1.1
    · exact h3.end10 c h
/-- what stands at a place -/
theorem Tidy.at_ : ∀ {x : List UInt8}, Tidy x → ∀ k, k + 1 < x.length → ¬ (x.getD k 0 = 32 ∧ x.getD (k + 1) 0 = 32) ∧ x.getD k 0 ≠ 9 ∧ x.getD k 0 ≠ 35
  | [], _, k, h => by simp at h
  | d :: l, ⟨h1, h2, h3⟩, 0, h => by
    refine ⟨fun ⟨e1, e2⟩ => ?_, h1.2.1, h1.2.2⟩
    obtain ⟨c, m, rfl, hc⟩ := h2 e1
    exact hc e2
  | d :: l, ⟨h1, h2, h3⟩, k + 1, h => by
    have := h3.at_ k (by simpa using h)
    simpa using this
theorem name_inner {nm : List UInt8} (h : name nm = true) : ∀ c ∈ nm, inner c = true := by
  cases nm with
  | nil => simp [name] at h
  | cons c r =>
    simp only [name, Bool.and_eq_true, decide_eq_true_eq, List.all_eq_true] at h
    obtain ⟨⟨h1, h2⟩, _⟩ := h
    intro d hd
    rcases List.mem_cons.1 hd with rfl | hd
    · simp [inner, h1]
    · exact h2 d hd
theorem dec_inner (n : Nat) : ∀ c ∈ decDigits n, inner c = true := by
  intro c hc
  have := (dec_num n).1.2.1 c hc
  simp [inner, this]
theorem dec_ne (n : Nat) : decDigits n ≠ [] := (dec_num n).1.1
theorem word_inner {w : Wd} (h : WdFine w) : (∀ c ∈ text (wtk w), inner c = true) ∧ text (wtk w) ≠ [] := by
  obtain ⟨num, n, s, a⟩ := w
  cases num with
  | true => exact ⟨dec_inner n, dec_ne n⟩
  | false =>
    have hs : name s = true := by
      rcases h with h | h
      · cases h.1
      · exact h.2.2
    refine ⟨name_inner hs, ?_⟩
    show s ≠ []
    intro e; subst e; simp [name] at hs
theorem Tidy.words : ∀ ws : List Wd, (∀ w ∈ ws, WdFine w) → Tidy (prtWs ws)
  | [], _ => trivial
  | w :: ws, h => by
    obtain ⟨h1, h2⟩ := word_inner (h w (by simp))
    simp only [prtWs, wtk_text]
    refine Tidy.append ⟨⟨by decide, by decide, by decide⟩, fun _ => ?_, Tidy.inner h1⟩ (Tidy.words ws (fun w hw => h w (by simp [hw])))
    cases e : text (wtk w) with
    | nil => exact absurd e h2
    | cons c m => exact ⟨c, m, rfl, fun e' => by
        have := h1 c (by rw [e]; simp)
        rw [e'] at this; revert this; decide⟩

/-- a line, ahead of which d blocks are open and behind which d' are -/
def LineOk (d : Nat) (ln : List UInt8) (d' : Nat) : Prop :=
  ∃ m c x z e, ln = mar m ++ (c :: x) ∧ c ≠ 32 ∧ Tidy (c :: x) ∧ c :: x = z ++ [e] ∧ ((e = 125 ∧ d = m + 1 ∧ d' = m) ∨ (e = 123 ∧ d = m ∧ d' = m + 1) ∨ (e = 59 ∧ d = m ∧ d' = m))
inductive Lines : List UInt8 → Nat → Nat → Prop
  | nil (d : Nat) : Lines [] d d
  | line {ln more : List UInt8} {d d' d'' : Nat} : LineOk d ln d' → (∀ c ∈ ln, c ≠ 10) → Lines more d' d'' → Lines (ln ++ 10 :: more) d d''
theorem Lines.append {x y : List UInt8} {d d' d'' : Nat} (h : Lines x d d') (h' : Lines y d' d'') : Lines (x ++ y) d d'' := by
  induction h with
  | nil => exact h'
  | line h1 h2 _ ih =>
    rw [List.append_assoc, List.cons_append]
    exact .line h1 h2 (ih h')
theorem mar_end (m : Nat) : ∀ c ∈ mar m, c ≠ 10 := by
  intro c hc
  have := List.eq_of_mem_replicate hc
  subst this; decide
theorem Lines.one {m : Nat} {nm z : List UInt8} {e : UInt8} {d d' : Nat} (hn : nm ≠ []) (hc : ∀ c ∈ nm, inner c = true) (hz : Tidy (z ++ [e])) (he : (e = 125 ∧ d = m + 1 ∧ d' = m) ∨ (e = 123 ∧ d = m ∧ d' = m + 1) ∨ (e = 59 ∧ d = m ∧ d' = m)) : Lines (mar m ++ (nm ++ (z ++ [e])) ++ [10]) d d' := by
  cases nm with
  | nil => exact absurd rfl hn
  | cons c r =>
    have t : Tidy ((c :: r) ++ (z ++ [e])) := (Tidy.inner hc).append hz
    have h32 : c ≠ 32 := fun e' => by
      have := hc c (by simp)
      rw [e'] at this; revert this; decide
    refine .line ⟨m, c, r ++ (z ++ [e]), (c :: r) ++ z, e, rfl, h32, t, by simp, he⟩ ?_ (.nil _)
    intro x hx
    rcases List.mem_append.1 hx with hx | hx
    · exact mar_end m x hx
    · exact t.end10 x hx
theorem Lines.close (m : Nat) : Lines (mar m ++ [125] ++ [10]) (m + 1) m := by
  refine .line ⟨m, 125, [], [], 125, rfl, by decide, ⟨by decide, fun h => absurd h (by decide), trivial⟩, rfl, .inl ⟨rfl, rfl, rfl⟩⟩ ?_ (.nil _)
  intro x hx
  rcases List.mem_append.1 hx with hx | hx
  · exact mar_end m x hx
  · have : x = 125 := by simpa using hx
    subst this; decide
mutual
theorem lines_N (d k : Nat) : ∀ n : Nd, RightN k n → Lines (prtN d n) d d
  | .mk nm a ws b ks, h => by
    obtain ⟨h1, _, h3, _, _, h6⟩ := h
    have hne : nm ≠ [] := fun e => by subst e; simp [name] at h1
    cases b with
    | true =>
      have l1 : Lines (mar d ++ (nm ++ ((prtWs ws ++ [32]) ++ [123])) ++ [10]) d (d + 1) :=
        Lines.one hne (name_inner h1) (by
          rw [List.append_assoc]
          exact (Tidy.words ws h3).append ⟨by decide, fun _ => ⟨123, [], rfl, by decide⟩, by decide, fun h => absurd h (by decide), trivial⟩) (.inr (.inl ⟨rfl, rfl, rfl⟩))
      have := (l1.append (lines_L (d + 1) (k + 1) ks h6)).append (Lines.close d)
      simpa [prtN] using this
    | false =>
      have l1 : Lines (mar d ++ (nm ++ (prtWs ws ++ [59])) ++ [10]) d d :=
        Lines.one hne (name_inner h1) ((Tidy.words ws h3).append ⟨by decide, fun h => absurd h (by decide), trivial⟩) (.inr (.inr ⟨rfl, rfl, rfl⟩))
      simpa [prtN] using l1
theorem lines_L (d k : Nat) : ∀ l : List Nd, RightL k l → Lines (prtL d l) d d
  | [], _ => by simp only [prtL]; exact .nil d
  | n :: l, h => by
    simp only [prtL]
    exact (lines_N d k n h.1).append (lines_L d k l h.2)
end

/-- what is left of a text, within a line -/
def LeftT (rest : List UInt8) (d : Nat) (line : List UInt8) : Prop :=
  (rest = [] ∧ d = 0 ∧ line = []) ∨ ∃ x more d', rest = x ++ 10 :: more ∧ (∀ c ∈ x, c ≠ 10) ∧ LineOk d (line ++ x) d' ∧ Lines more d' 0
theorem LeftT.start {rest : List UInt8} {d : Nat} (h : Lines rest d 0) : LeftT rest d [] := by
  cases h with
  | nil => exact .inl ⟨rfl, rfl, rfl⟩
  | line h1 h2 h3 => exact .inr ⟨_, _, _, rfl, h2, h1, h3⟩
theorem LeftT.step {c : UInt8} {rest : List UInt8} {d : Nat} {line : List UInt8} (h : LeftT (c :: rest) d line) : (c ≠ 10 ∧ LeftT rest d (line ++ [c])) ∨ (c = 10 ∧ ∃ d', LineOk d line d' ∧ LeftT rest d' []) := by
  rcases h with ⟨h, _⟩ | ⟨x, more, d', e, h1, h2, h3⟩
  · cases h
  · cases x with
    | nil =>
      injection e with e1 e2
      subst e1; subst e2
      rw [List.append_nil] at h2
      exact .inr ⟨rfl, d', h2, LeftT.start h3⟩
    | cons y x =>
      injection e with e1 e2
      subst e1; subst e2
      refine .inl ⟨h1 c (by simp), .inr ⟨x, more, d', rfl, fun c hc => h1 c (by simp [hc]), by simpa using h2, h3⟩⟩
theorem LeftT.end_ {d : Nat} {line : List UInt8} (h : LeftT [] d line) : d = 0 ∧ line = [] := by
  rcases h with ⟨_, h⟩ | ⟨x, more, d', e, _⟩
  · exact h
  · cases x <;> cases e
theorem getD_l {x y : List UInt8} {i : Nat} (h : i < x.length) : (x ++ y).getD i 0 = x.getD i 0 := by
  simp [List.getD_eq_getElem?_getD, List.getElem?_append_left h]
theorem getD_r {x y : List UInt8} {i : Nat} (h : x.length ≤ i) : (x ++ y).getD i 0 = y.getD (i - x.length) 0 := by
  simp [List.getD_eq_getElem?_getD, List.getElem?_append_right h]
/-- a line, by its places -/
theorem LineOk.at_ {d : Nat} {ln : List UInt8} {d' : Nat} (h : LineOk d ln d') : ∃ m e, 2 * m < ln.length ∧ (∀ i, i < 2 * m → ln.getD i 0 = 32) ∧ ln.getD (2 * m) 0 ≠ 32 ∧
    (∀ k, 2 * m ≤ k → k + 1 < ln.length → ¬ (ln.getD k 0 = 32 ∧ ln.getD (k + 1) 0 = 32) ∧ ln.getD k 0 ≠ 9 ∧ ln.getD k 0 ≠ 35) ∧ ln.getD (ln.length - 1) 0 = e ∧
    ((e = 125 ∧ d = m + 1 ∧ d' = m) ∨ (e = 123 ∧ d = m ∧ d' = m + 1) ∨ (e = 59 ∧ d = m ∧ d' = m)) := by
  obtain ⟨m, c, x, z, e, rfl, hc, ht, hz, he⟩ := h
  have hm : (mar m).length = 2 * m := by simp [mar]
  have g1 : ∀ i, i < 2 * m → (mar m ++ c :: x).getD i 0 = 32 := fun i hi => by
    rw [getD_l (by omega)]
    simp [mar, List.getD_eq_getElem?_getD, hi]
  have g2 : ∀ i, (mar m ++ c :: x).getD (2 * m + i) 0 = (c :: x).getD i 0 := fun i => by
    rw [getD_r (by omega), hm, show 2 * m + i - 2 * m = i by omega]
  refine ⟨m, e, by simp [hm], g1, ?_, fun k h1 h2 => ?_, ?_, he⟩
  · have := g2 0
    rw [Nat.add_zero] at this
    rw [this]; exact hc
  · obtain ⟨j, rfl⟩ : ∃ j, k = 2 * m + j := ⟨k - 2 * m, by omega⟩
    rw [List.length_append, hm] at h2
    rw [g2, show 2 * m + j + 1 = 2 * m + (j + 1) by omega, g2]
    exact ht.at_ j (by omega)
  · rw [List.length_append, hm]
    simp only [List.length_cons]
    rw [show 2 * m + (x.length + 1) - 1 = 2 * m + x.length by omega, g2, hz]
    have hl : z.length = x.length := by
      have := congrArg List.length hz
      simp at this; omega
    rw [getD_r (by omega), hl]
    simp

end Go.Proofs.YtjebdoecigmkhaaDoor.Ym
