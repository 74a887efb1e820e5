/- Texts that are joined: Yomath, Yomath2, Yolike, Yohead, Yojoin, Yobuf, Yobuf2, Yoline, Yowrite, Yotok, Yoprint, Yocanon, Yolive. -/
import Derived.Test.YtabhbcedldjjjaaGreatDoorJYa
import Derived.Test.YtabhbcedldjjjaaGreatDoorYgen
import Derived.Test.YtabhbcedldjjjaaGreatDoorYsame
import Derived.Test.YtabhbcedldjjjaaGreatDoorYput
import Derived.Test.YtabhbcedldjjjaaGreatDoorZjoin
import Derived.Lib.Join
import Derived.Test.YtabhbcedldjjjaaGreatDoorShelf
import Derived.Test.YtabhbcedldjjjaaGreatDoorJK
import Derived.Lib.AppendStr
import Derived.Lib.OthersKept
import Derived.OwnWalk
import Derived.Shelf.Strings.Builder1
import Derived.Test.YtabhbcedldjjjaaGreatDoorShelf2
import Derived.BigRegion
import Derived.Deep.Cut
import Derived.Deep.CutRange
import Derived.Test.YtabhbcedldjjjaaGreatDoorYlive
import Derived.Test.YtabhbcedldjjjaaGreatDoorYgen2
import Derived.Test.YtabhbcedldjjjaaGreatDoorYchk
import Derived.Test.YtabhbcedldjjjaaGreatDoorYparse
import Derived.Test.YtabhbcedldjjjaaGreatDoorYnrow
namespace Go.Proofs.YtabhbcedldjjjaaGreatDoor.Ym
set_option linter.unusedSimpArgs false
set_option linter.unusedVariables false
open Go.Proofs.YtabhbcedldjjjaaGreatDoor.Zm
open Go.Lib (decDigits)

/-- a word's token -/
def wtk (w : Wd) : Tk := if w.num then ⟨2, 0, w.n, []⟩ else ⟨1, 0, 0, w.s⟩
/-- a word, behind a blank -/
def prtW (w : Wd) : List UInt8 := 32 :: (if w.num then decDigits w.n else w.s)
def prtWs : List Wd → List UInt8
  | [] => []
  | w :: l => prtW w ++ prtWs l
def mar (d : Nat) : List UInt8 := List.replicate (2 * d) 32
mutual
def prtN (d : Nat) : Nd → List UInt8
  | .mk nm _ ws b ks => mar d ++ (nm ++ (prtWs ws ++ (if b then 32 :: 123 :: 10 :: (prtL (d + 1) ks ++ (mar d ++ [125, 10])) else [59, 10])))
def prtL (d : Nat) : List Nd → List UInt8
  | [] => []
  | n :: l => prtN d n ++ prtL d l
end

/-! ## what is written is cut into the items' tokens -/
/-- a text that is cut into these tokens, whatever follows -/
def Cuts (x : List UInt8) (F : List (Nat × Nat × List UInt8)) : Prop :=
  ∀ cnt p, cnt + F.length ≤ 8192 → ∃ T : List Tk, T.map bare = F ∧ ∀ m, cut (x ++ m) cnt p = (cut m (cnt + F.length) (p + x.length)).map (T ++ ·)
theorem map_map (f g : List Tk → List Tk) (x : Except (Nat × Nat) (List Tk)) : (x.map f).map g = x.map (fun a => g (f a)) := by cases x <;> rfl
theorem Cuts.nil : Cuts [] [] := fun cnt p _ => ⟨[], rfl, fun m => by
  cases h : cut m cnt p <;> simp [h, Except.map]⟩
theorem Cuts.append {x y : List UInt8} {F G : List (Nat × Nat × List UInt8)} (hx : Cuts x F) (hy : Cuts y G) : Cuts (x ++ y) (F ++ G) := by
  intro cnt p h
  simp only [List.length_append] at h
  obtain ⟨T, e1, h1⟩ := hx cnt p (by omega)
  obtain ⟨U, e2, h2⟩ := hy (cnt + F.length) (p + x.length) (by omega)
  refine ⟨T ++ U, by simp [e1, e2], fun m => ?_⟩
  rw [List.append_assoc, h1, h2, map_map]
  simp only [List.length_append, Nat.add_assoc, List.append_assoc]
theorem Cuts.blank {c : UInt8} (h : Zm.blank c = true) : Cuts [c] [] := fun cnt p _ => ⟨[], rfl, fun m => by
  rw [List.cons_append, List.nil_append, cut_blank h]
  cases hh : cut m cnt (p + 1) <;> simp [hh, Except.map]⟩
theorem Cuts.mar (d : Nat) : Cuts (mar d) [] := by
  unfold Ym.mar
  induction 2 * d with
  | zero => exact Cuts.nil
  | succ n ih => exact (Cuts.blank (c := 32) (by decide)).append ih
theorem Cuts.sign {c : UInt8} {k : Nat} (h : text ⟨k, 0, 0, []⟩ = [c]) (hk : k = 3 ∨ k = 4 ∨ k = 5) : Cuts [c] [(k, 0, [])] := by
  intro cnt p hc
  refine ⟨[⟨k, p, 0, []⟩], rfl, fun m => ?_⟩
  have := cut_text (t := ⟨k, 0, 0, []⟩) (m := m) cnt p (.inr (.inr ⟨hk, rfl, rfl⟩)) (fun q => by simp only at q; omega) (by simp at hc; omega)
  rw [h] at this
  rw [this]
  rfl
/-- a name or a number, behind which stands what is no part of it -/
theorem Cuts.word {t : Tk} {c : UInt8} {y : List UInt8} {G : List (Nat × Nat × List UInt8)} (ht : Fine t) (hc : inner c = false) (hy : Cuts (c :: y) G) : Cuts (text t ++ (c :: y)) (bare t :: G) := by
  intro cnt p h
  simp only [List.length_cons] at h
  obtain ⟨U, e2, h2⟩ := hy (cnt + 1) (p + (text t).length) (by omega)
  refine ⟨⟨t.k, p, t.n, t.s⟩ :: U, by simp [e2, bare], fun m => ?_⟩
  rw [List.append_assoc, cut_text cnt p ht (fun _ => by simp [startsInner, hc]) (by omega), h2, map_map]
  simp only [List.length_append, List.length_cons, Nat.add_assoc]
  rw [Nat.add_comm 1 G.length]
  rfl
theorem wtk_fine {w : Wd} (h : WdFine w) : Fine (wtk w) := by
  obtain ⟨num, n, s, a⟩ := w
  unfold WdFine at h
  cases num with
  | true => simp [wtk, Fine] at h ⊢; omega
  | false => simp [wtk, Fine] at h ⊢; exact h.2
theorem wtk_text (w : Wd) : prtW w = 32 :: text (wtk w) := by
  obtain ⟨num, n, s, a⟩ := w
  cases num <;> rfl
theorem wtk_bare (w : Wd) : bare (wtk w) = flatW w := by
  obtain ⟨num, n, s, a⟩ := w
  cases num <;> rfl
/-- words, behind which stands what is no part of them -/
theorem cuts_words {c : UInt8} {y : List UInt8} {G : List (Nat × Nat × List UInt8)} (hc : inner c = false) (hy : Cuts (c :: y) G) : ∀ ws : List Wd, (∀ w ∈ ws, WdFine w) → ∃ c' y', prtWs ws ++ (c :: y) = c' :: y' ∧ inner c' = false ∧ Cuts (c' :: y') (ws.map flatW ++ G)
  | [], _ => ⟨c, y, rfl, hc, hy⟩
  | w :: ws, h => by
    obtain ⟨c1, y1, e, h1, h2⟩ := cuts_words hc hy ws (fun w hw => h w (by simp [hw]))
    refine ⟨32, text (wtk w) ++ (c1 :: y1), ?_, by decide, ?_⟩
    · simp only [prtWs, wtk_text, List.cons_append, List.append_assoc, e]
    · have := (Cuts.blank (c := 32) (by decide)).append ((wtk_fine (h w (by simp))) |> fun f => Cuts.word f h1 h2)
      simpa [wtk_bare] using this
theorem name_fine {nm : List UInt8} (h : name nm = true) : Fine ⟨1, 0, 0, nm⟩ := .inl ⟨rfl, rfl, h⟩
mutual
theorem cuts_N (d k : Nat) : ∀ n : Nd, RightN k n → Cuts (prtN d n) (flatN n)
  | .mk nm a ws b ks, h => by
    obtain ⟨h1, _, h3, h4, _, h6⟩ := h
    cases b with
    | true =>
      have tl : Cuts (32 :: 123 :: 10 :: (prtL (d + 1) ks ++ (mar d ++ [125, 10]))) ((3, 0, []) :: flatL ks ++ [(4, 0, [])]) := by
        have := (Cuts.blank (c := 32) (by decide)).append ((Cuts.sign (c := 123) (k := 3) (by rfl) (by omega)).append ((Cuts.blank (c := 10) (by decide)).append ((cuts_L (d + 1) (k + 1) ks h6).append ((Cuts.mar d).append ((Cuts.sign (c := 125) (k := 4) (by rfl) (by omega)).append (Cuts.blank (c := 10) (by decide)))))))
        simpa using this
      obtain ⟨c, y, e, hc, hy⟩ := cuts_words (by decide) tl ws h3
      have := (Cuts.mar d).append (Cuts.word (name_fine h1) hc hy)
      simp only [prtN, flatN, if_true]
      rw [e]
      simpa [text, bare] using this
    | false =>
      have tl : Cuts [59, 10] [(5, 0, [])] := by
        have := (Cuts.sign (c := 59) (k := 5) (by rfl) (by omega)).append (Cuts.blank (c := 10) (by decide))
        simpa using this
      obtain ⟨c, y, e, hc, hy⟩ := cuts_words (by decide) tl ws h3
      have := (Cuts.mar d).append (Cuts.word (name_fine h1) hc hy)
      simp only [prtN, flatN]
      rw [if_neg (by decide), if_neg (by decide), e]
      simpa [text, bare] using this
theorem cuts_L (d k : Nat) : ∀ l : List Nd, RightL k l → Cuts (prtL d l) (flatL l)
  | [], _ => by simp only [prtL, flatL]; exact Cuts.nil
  | n :: l, h => by
    simp only [prtL, flatL]
    exact (cuts_N d k n h.1).append (cuts_L d k l h.2)
end
theorem cut_print {l : List Nd} (h : RightL 0 l) (hl : (flatL l).length ≤ 8192) : ∃ T, T.map bare = flatL l ∧ cut (prtL 0 l) 0 0 = .ok T := by
  obtain ⟨T, e, h⟩ := cuts_L 0 0 l h 0 0 (by omega)
  have := h []
  rw [List.append_nil, cut_nil] at this
  refine ⟨T, e, ?_⟩
  rw [this]
  simp [Except.map]

end Go.Proofs.YtabhbcedldjjjaaGreatDoor.Ym

namespace Go.Proofs.YtabhbcedldjjjaaGreatDoor.Ym
set_option linter.unusedSimpArgs false
set_option linter.unusedVariables false
open Go.Proofs.YtabhbcedldjjjaaGreatDoor.Zm
open Go.Lib (decDigits)

def strW (w : Wd) : Bool × Nat × List UInt8 := (w.num, w.n, w.s)
mutual
/-- the same but for places -/
def EqN : Nd → Nd → Prop
  | .mk nm _ ws b ks, .mk nm' _ ws' b' ks' => nm = nm' ∧ b = b' ∧ ws.map strW = ws'.map strW ∧ EqL ks ks'
def EqL : List Nd → List Nd → Prop
  | [], m => m = []
  | n :: l, m => ∃ x k, m = x :: k ∧ EqN n x ∧ EqL l k
end
theorem wd_str {t : Tk} {w : Wd} (h : bare t = flatW w) (hf : WdFine w) : (t.k = 1 ∨ t.k = 2) ∧ strW (wd t) = strW w := by
  obtain ⟨num, n, s, a⟩ := w
  obtain ⟨k, a', n', s'⟩ := t
  unfold WdFine at hf
  cases num with
  | true =>
    simp [bare, flatW] at h hf
    obtain ⟨rfl, rfl, rfl⟩ := h
    obtain ⟨rfl, _⟩ := hf
    exact ⟨.inr rfl, rfl⟩
  | false =>
    simp [bare, flatW] at h hf
    obtain ⟨rfl, rfl, rfl⟩ := h
    obtain ⟨rfl, _⟩ := hf
    exact ⟨.inl rfl, rfl⟩
theorem run_words : ∀ (ws : List Wd) (Tw : List Tk), Tw.map bare = ws.map flatW → (∀ w ∈ ws, WdFine w) → ∃ ws' : List Wd, ws.map strW = ws'.map strW ∧
    ∀ top nm a w0 b ks st rest, w0.length + ws.length ≤ 8 → run (Tw ++ rest) ⟨true, top, ⟨nm, a, w0, b, ks⟩ :: st⟩ = run rest ⟨true, top, ⟨nm, a, w0 ++ ws', b, ks⟩ :: st⟩
  | [], Tw, h, _ => by
    have : Tw = [] := by simpa using h
    subst this
    exact ⟨[], rfl, fun top nm a w0 b ks st rest _ => by simp⟩
  | w :: ws, Tw, h, hf => by
    cases Tw with
    | nil => simp at h
    | cons t Tw =>
      simp only [List.map_cons, List.cons.injEq] at h
      obtain ⟨hk, hs⟩ := wd_str h.1 (hf w (by simp))
      obtain ⟨ws', e, hr⟩ := run_words ws Tw h.2 (fun w hw => hf w (by simp [hw]))
      refine ⟨wd t :: ws', by simp [hs, e], fun top nm a w0 b ks st rest hl => ?_⟩
      simp only [List.length_cons] at hl
      simp only [List.cons_append, run, take]
      rw [if_neg (by omega), if_neg (by omega), if_neg (by omega), if_neg (by omega)]
      simp only
      rw [hr top nm a (w0 ++ [wd t]) b ks st rest (by simp; omega)]
      simp
mutual
theorem run_N (d : Nat) : ∀ (n : Nd) (T : List Tk), RightN d n → T.map bare = flatN n → ∃ n', EqN n n' ∧ ∀ top st rest, st.length = d → run (T ++ rest) ⟨false, top, st⟩ = run rest (addK top st [n'])
  | .mk nm a ws b ks, T, h, hT => by
    obtain ⟨h1, h2, h3, h4, h5, h6⟩ := h
    cases b with
    | true =>
      simp only [flatN, if_true, List.cons_append] at hT
      cases T with
      | nil => simp at hT
      | cons t0 T =>
        simp only [List.map_cons, List.cons.injEq] at hT
        obtain ⟨e0, hT⟩ := hT
        obtain ⟨Tw, T, rfl, ew, hT⟩ := List.map_eq_append_iff.1 hT
        cases T with
        | nil => simp at hT
        | cons t3 T =>
          simp only [List.map_cons, List.cons.injEq] at hT
          obtain ⟨e3, hT⟩ := hT
          obtain ⟨Tk, T, rfl, ek, hT⟩ := List.map_eq_append_iff.1 hT
          cases T with
          | nil => simp at hT
          | cons t4 T =>
            simp only [List.map_cons, List.cons.injEq] at hT
            obtain ⟨e4, hT⟩ := hT
            have : T = [] := by simpa using hT
            subst this
            obtain ⟨ws', eW, hW⟩ := run_words ws Tw ew h3
            obtain ⟨ks', eK, hK⟩ := run_L (d + 1) ks Tk h6 ek
            refine ⟨.mk nm t0.a ws' true ks', ⟨rfl, rfl, eW, eK⟩, fun top st rest hs => ?_⟩
            obtain ⟨k0, a0, n0, s0⟩ := t0
            obtain ⟨k3, a3, n3, s3⟩ := t3
            obtain ⟨k4, a4, n4, s4⟩ := t4
            simp [bare] at e0 e3 e4
            obtain ⟨rfl, rfl, rfl⟩ := e0
            obtain ⟨rfl, rfl, rfl⟩ := e3
            obtain ⟨rfl, rfl, rfl⟩ := e4
            have h5 := h5 rfl
            simp only [List.cons_append, List.append_assoc, run, take, if_true]
            rw [hW _ _ _ [] _ _ _ _ (by simpa using h2)]
            simp only [run, take, List.nil_append]
            rw [if_neg (by decide), if_pos trivial, if_neg (by omega)]
            simp only
            rw [hK _ _ _ (by simp; omega)]
            simp only [addK, List.nil_append, run, take]
            rw [if_neg (by decide), if_pos ⟨trivial, by simp⟩, shut_add]
            rfl
    | false =>
      have hk := h4 rfl
      subst hk
      simp only [flatN, List.cons_append] at hT
      rw [if_neg (by decide)] at hT
      cases T with
      | nil => simp at hT
      | cons t0 T =>
        simp only [List.map_cons, List.cons.injEq] at hT
        obtain ⟨e0, hT⟩ := hT
        obtain ⟨Tw, T, rfl, ew, hT⟩ := List.map_eq_append_iff.1 hT
        cases T with
        | nil => simp at hT
        | cons t5 T =>
          simp only [List.map_cons, List.cons.injEq] at hT
          obtain ⟨e5, hT⟩ := hT
          have : T = [] := by simpa using hT
          subst this
          obtain ⟨ws', eW, hW⟩ := run_words ws Tw ew h3
          refine ⟨.mk nm t0.a ws' false [], ⟨rfl, rfl, eW, by simp [EqL]⟩, fun top st rest hs => ?_⟩
          obtain ⟨k0, a0, n0, s0⟩ := t0
          obtain ⟨k5, a5, n5, s5⟩ := t5
          simp [bare] at e0 e5
          obtain ⟨rfl, rfl, rfl⟩ := e0
          obtain ⟨rfl, rfl, rfl⟩ := e5
          simp only [List.cons_append, List.append_assoc, List.nil_append, run, take, if_true]
          rw [hW _ _ _ [] _ _ _ _ (by simpa using h2)]
          simp only [run, take, List.nil_append, if_true, shut_add]
          rfl
theorem run_L (d : Nat) : ∀ (l : List Nd) (T : List Tk), RightL d l → T.map bare = flatL l → ∃ l', EqL l l' ∧ ∀ top st rest, st.length = d → run (T ++ rest) ⟨false, top, st⟩ = run rest (addK top st l')
  | [], T, _, hT => by
    have : T = [] := by simpa [flatL] using hT
    subst this
    exact ⟨[], by simp [EqL], fun top st rest _ => by rw [addK_nil]; rfl⟩
  | n :: l, T, h, hT => by
    simp only [flatL] at hT
    obtain ⟨T1, T2, rfl, e1, e2⟩ := List.map_eq_append_iff.1 hT
    obtain ⟨n', q1, r1⟩ := run_N d n T1 h.1 e1
    obtain ⟨l', q2, r2⟩ := run_L d l T2 h.2 e2
    refine ⟨n' :: l', by simp only [EqL]; exact ⟨n', l', rfl, q1, q2⟩, fun top st rest hs => ?_⟩
    rw [List.append_assoc, r1 top st _ hs, addK_is, r2 _ _ _ (by rw [addK_len]; exact hs), addK_add]
    rfl
end
/-- P10.3: what is written is read as the same items -/
theorem parse_print {l : List Nd} (h : RightL 0 l) (hl : (flatL l).length ≤ 8192) : ∃ l', EqL l l' ∧ parse (prtL 0 l) = .ok l' := by
  obtain ⟨T, e, hc⟩ := cut_print h hl
  obtain ⟨l', q, hr⟩ := run_L 0 l T h e
  refine ⟨l', q, ?_⟩
  have := hr [] [] [] rfl
  rw [List.append_nil] at this
  unfold parse
  rw [hc]
  simp only
  rw [show start = ⟨false, [], []⟩ from rfl, this]
  simp [addK, run]

/-! ## writing passes over places -/
theorem prtWs_str : ∀ ws ws' : List Wd, ws.map strW = ws'.map strW → prtWs ws = prtWs ws'
  | [], ws', h => by
    have : ws' = [] := by simpa using h.symm
    subst this; rfl
  | w :: ws, [], h => by simp at h
  | w :: ws, w' :: ws', h => by
    simp only [List.map_cons, List.cons.injEq] at h
    obtain ⟨a1, a2, a3, a4⟩ := w
    obtain ⟨b1, b2, b3, b4⟩ := w'
    simp [strW] at h
    obtain ⟨⟨rfl, rfl, rfl⟩, h⟩ := h
    simp only [prtWs, prtW, prtWs_str ws ws' h]
mutual
theorem prtN_eq (d : Nat) : ∀ n n' : Nd, EqN n n' → prtN d n = prtN d n'
  | .mk nm a ws b ks, .mk nm' a' ws' b' ks', h => by
    obtain ⟨rfl, rfl, hw, hk⟩ := h
    simp only [prtN, prtWs_str ws ws' hw, prtL_eq (d + 1) ks ks' hk]
theorem prtL_eq (d : Nat) : ∀ l l' : List Nd, EqL l l' → prtL d l = prtL d l'
  | [], l', h => by
    have : l' = [] := by simpa [EqL] using h
    subst this; rfl
  | n :: l, l', h => by
    simp only [EqL] at h
    obtain ⟨x, k, rfl, h1, h2⟩ := h
    simp only [prtL, prtN_eq d n x h1, prtL_eq d l k h2]
end
theorem prtL_append (d : Nat) (l m : List Nd) : prtL d (l ++ m) = prtL d l ++ prtL d m := by
  induction l with
  | nil => rfl
  | cons n l ih => simp [prtL, ih]
/-- a text that was written is written as it is -/
theorem print_again {l : List Nd} (h : RightL 0 l) (hl : (flatL l).length ≤ 8192) : ∃ l', EqL l l' ∧ parse (prtL 0 l) = .ok l' ∧ prtL 0 l' = prtL 0 l := by
  obtain ⟨l', e, h⟩ := parse_print h hl
  exact ⟨l', e, h, (prtL_eq 0 l l' e).symm⟩

end Go.Proofs.YtabhbcedldjjjaaGreatDoor.Ym

namespace Go.Proofs.YtabhbcedldjjjaaGreatDoor.Yg
set_option linter.unusedSimpArgs false
set_option linter.unusedVariables false
open Go Go.RowKit Go.Proofs.YtabhbcedldjjjaaGreatDoor.Zm Go.Proofs.YtabhbcedldjjjaaGreatDoor.Ym

def toW (x : WI) : Wd := ⟨x.num, x.n.toNat, x.s.data.toList, 0⟩
mutual
def toN : NI → Nd
  | .mk nm _ ws b ks => .mk nm.data.toList 0 (ws.map toW) b (toL ks)
def toL : List NI → List Nd
  | [] => []
  | n :: l => toN n :: toL l
end
theorem toL_map (l : List NI) : toL l = l.map toN := by
  induction l with
  | nil => rfl
  | cons n l ih => simp [toL, ih]
theorem toL_len (l : List NI) : (toL l).length = l.length := by rw [toL_map]; simp
theorem toL_append (l m : List NI) : toL (l ++ m) = toL l ++ toL m := by simp [toL_map]
theorem back_s (s : ByteArray) : (⟨s.data.toList.toArray⟩ : ByteArray) = s := by simp
theorem toW_fine {x : WI} (h : FineW x) : WdFine (toW x) := by
  rcases h with ⟨h1, h2, h3, h4⟩ | ⟨h1, h2, h3⟩
  · refine .inl ⟨h1, by simp [toW, h2], ?_⟩
    simp only [toW]; omega
  · exact .inr ⟨h1, by simp [toW, h2], h3⟩
theorem toW_str {x : WI} (h : FineW x) : stw (embW (toW x)) = stw x := by
  rcases h with ⟨h1, h2, h3, h4⟩ | ⟨h1, h2, h3⟩
  · simp [stw, embW, toW, h2]; omega
  · simp [stw, embW, toW, h2]
mutual
theorem chk_rightN : ∀ (d : Nat) (n : NI), d ≤ 6 → chkN d n = 0 → RightN d (toN n) ∧ SameN n (embN (toN n))
  | d, .mk nm a ws b ks, hd, h => by
    simp only [chkN] at h
    split at h
    · omega
    · rename_i h1
      split at h
      · omega
      · rename_i h2
        have hH : HeadOk nm ws := Classical.byContradiction (fun q => h1 (.inl q))
        obtain ⟨w8, hn, hw⟩ := hH
        cases b with
        | true =>
          have hd6 : d < 6 := by
            have : ¬ d = 6 := fun q => h2 ⟨rfl, q⟩
            omega
          obtain ⟨r, s⟩ := chk_rightL (d + 1) ks (by omega) h
          refine ⟨⟨hn, by simpa using w8, fun w hw' => ?_, fun q => (by cases q), fun _ => hd6, r⟩, ?_⟩
          · obtain ⟨x, hx, rfl⟩ := List.mem_map.1 hw'
            exact toW_fine (hw x hx)
          · refine ⟨(back_s nm).symm, rfl, ?_, s⟩
            rw [List.map_map, List.map_map]
            exact List.map_congr_left (fun x hx => (toW_str (hw x hx)).symm)
        | false =>
          have hk : ks = [] := by
            cases ks with
            | nil => rfl
            | cons k l => exact absurd (.inr ⟨by simp, rfl⟩) h1
          subst hk
          refine ⟨⟨hn, by simpa using w8, fun w hw' => ?_, fun _ => rfl, fun q => (by cases q), trivial⟩, ?_⟩
          · obtain ⟨x, hx, rfl⟩ := List.mem_map.1 hw'
            exact toW_fine (hw x hx)
          · refine ⟨(back_s nm).symm, rfl, ?_, by simp [toL, embL, SameL]⟩
            rw [List.map_map, List.map_map]
            exact List.map_congr_left (fun x hx => (toW_str (hw x hx)).symm)
theorem chk_rightL : ∀ (d : Nat) (l : List NI), d ≤ 6 → chkL d l = 0 → RightL d (toL l) ∧ SameL l (embL (toL l))
  | _, [], _, _ => ⟨trivial, by simp [toL, embL, SameL]⟩
  | d, n :: l, hd, h => by
    simp only [chkL] at h
    split at h
    · omega
    · rename_i h1
      obtain ⟨r1, s1⟩ := chk_rightN d n hd (by omega)
      obtain ⟨r2, s2⟩ := chk_rightL d l hd h
      exact ⟨⟨r1, r2⟩, by simp only [toL, embL, SameL]; exact ⟨_, _, rfl, s1, s2⟩⟩
end
/-- the same but for places, as items of any kind -/
theorem strW_emb : ∀ ws ws' : List Wd, ws.map strW = ws'.map strW → (ws.map embW).map stw = (ws'.map embW).map stw
  | [], ws', h => by
    have : ws' = [] := by simpa using h.symm
    subst this; rfl
  | w :: ws, [], h => by simp at h
  | w :: ws, w' :: ws', h => by
    simp only [List.map_cons, List.cons.injEq] at h
    obtain ⟨a1, a2, a3, a4⟩ := w
    obtain ⟨b1, b2, b3, b4⟩ := w'
    simp [strW] at h
    obtain ⟨⟨rfl, rfl, rfl⟩, h⟩ := h
    have := strW_emb ws ws' h
    simp only [List.map_cons, this]
    rfl
mutual
theorem eqN_same : ∀ n n' : Nd, EqN n n' → SameN (embN n) (embN n')
  | .mk nm a ws b ks, .mk nm' a' ws' b' ks', h => by
    obtain ⟨rfl, rfl, hw, hk⟩ := h
    exact ⟨rfl, rfl, strW_emb ws ws' hw, eqL_same ks ks' hk⟩
theorem eqL_same : ∀ l l' : List Nd, EqL l l' → SameL (embL l) (embL l')
  | [], l', h => by
    have : l' = [] := by simpa [EqL] using h
    subst this; simp [embL, SameL]
  | n :: l, l', h => by
    simp only [EqL] at h
    obtain ⟨x, k, rfl, h1, h2⟩ := h
    simp only [embL, SameL]
    exact ⟨_, _, rfl, eqN_same n x h1, eqL_same l k h2⟩
end
/-! ## how many tokens -/
mutual
def tkN : NI → Nat
  | .mk _ _ ws b ks => 2 + ws.length + (if b then 1 else 0) + tkL ks
def tkL : List NI → Nat
  | [] => 0
  | n :: l => tkN n + tkL l
end
theorem tkL_take (l : List NI) (k : Nat) (hk : k < l.length) : tkL (l.take (k + 1)) = tkL (l.take k) + tkN l[k] := by
  induction l generalizing k with
  | nil => exact absurd hk (by simp)
  | cons n l ih =>
    cases k with
    | zero => simp [tkL]
    | succ k =>
      have := ih k (by simpa using hk)
      simp only [List.take_succ_cons, tkL, List.getElem_cons_succ]
      omega
mutual
theorem tk_flatN : ∀ n : NI, RightN 0 (toN n) ∨ True → (∀ d, RightN d (toN n) → (flatN (toN n)).length = tkN n)
  | .mk nm a ws b ks, _ => fun d h => by
    simp only [toN] at h
    obtain ⟨_, _, _, h4, _, h6⟩ := h
    have := tk_flatL ks (d + 1) h6
    cases b with
    | true => simp [toN, flatN, tkN, this]; omega
    | false =>
      have hk : toL ks = [] := h4 rfl
      have hk : ks = [] := by
        cases ks with
        | nil => rfl
        | cons k l => simp [toL] at hk
      subst hk
      simp [toN, flatN, tkN, tkL]
      omega
theorem tk_flatL : ∀ l : List NI, ∀ d, RightL d (toL l) → (flatL (toL l)).length = tkL l
  | [], _, _ => rfl
  | n :: l, d, h => by
    simp only [toL, flatL, tkL, List.length_append, tk_flatN n (.inr trivial) d h.1, tk_flatL l d h.2]
end
mutual
/-- .. and no more than so many for each item, where the words are few -/
theorem tk_fewN : ∀ (n : NI) (N : Nat), WsL N [n] → tkN n ≤ (N + 3) * cntN n
  | .mk nm a ws b ks, N, h => by
    simp only [WsL, WsN] at h
    have := tk_fewL ks N h.1.2
    have hw := h.1.1
    simp only [tkN, cntN, Nat.mul_add]
    split <;> omega
theorem tk_fewL : ∀ (l : List NI) (N : Nat), WsL N l → tkL l ≤ (N + 3) * cntL l
  | [], _, _ => by simp [tkL, cntL]
  | n :: l, N, h => by
    simp only [WsL] at h
    have h1 := tk_fewN n N (by simp only [WsL]; exact ⟨h.1, trivial⟩)
    have h2 := tk_fewL l N h.2
    simp only [tkL, cntL, Nat.mul_add]
    omega
end

end Go.Proofs.YtabhbcedldjjjaaGreatDoor.Yg

namespace Go.Proofs.YtabhbcedldjjjaaGreatDoor.Yg
set_option linter.unusedSimpArgs false
set_option linter.unusedVariables false
open Go Go.RowKit Go.Proofs.YtabhbcedldjjjaaGreatDoor.Zm Go.Proofs.YtabhbcedldjjjaaGreatDoor.Ym Go.Proofs.YtabhbcedldjjjaaGreatDoor.Bn Go.Proofs.YtabhbcedldjjjaaGreatDoor.Zp Go.Proofs.YtabhbcedldjjjaaGreatDoor.Zk
open Go.Lib (decDigits)

set_option maxHeartbeats 2000000

theorem infoS : (Tryz.prog.info? 9).map (fun i => (i.zero, i.size, i.bytes)) = some (some (.string ⟨#[]⟩), 1, 16) := by kernel_rfl
theorem underS : Tryz.prog.underlying 52 = some (.slice 9) := by kernel_rfl
/-- a word as a text -/
def wtx (x : WI) : ByteArray := if x.num then ⟨(decDigits x.n.toNat).toArray⟩ else x.s
def strs (l : List ByteArray) : List Value := l.map .string
theorem strs_snoc (l : List ByteArray) (s : ByteArray) : strs (l ++ [s]) = strs l ++ [.string s] := by simp [strs]
theorem one_str (s : ByteArray) : ∀ u ∈ (#[Value.string s] : Array Value).toList, u.oneCell' = true := by
  intro u hu
  simp at hu
  subst hu
  rfl
theorem itoa_any (n : Int) (n0 : 0 ≤ n) (n9 : n ≤ 999999999) (w : World) (P : Pows w) : Calls Tryz.prog 34 #[.int .i64 n] w fun e w' => e = .returned (.string ⟨(decDigits n.toNat).toArray⟩) ∧ Below w.heap.size w w' :=
  (Tryz.strconv_Itoa n (by omega) (by omega) w P.pow).mono fun e w' ⟨x, q, os, y⟩ => ⟨by
    rw [x]
    have : Lib.itoa n = Lib.decDigits n.toNat := by simp [Lib.itoa, show ¬ n < 0 by omega]
    rw [this], by subst y; exact Lib.below_grow _ w (Nat.le_refl _) q os⟩

set_option maxRecDepth 100000 in
theorem head_any (nm : ByteArray) (a : Int) (ws : List WI) (b : Bool) (wp : Option Addr) (wc : Nat) (kp : Option Addr) (kn kc : Nat) (S : Nat → Prop) (w : World) (hw : WsV S w (.slice wp ws.length wc) ws) (hS : ∀ b, S b → b < w.heap.size) (P : Pows w) (h8 : ws.length ≤ 8) (hf : Hid (∀ x ∈ ws, FineW x)) :
    Calls Tryz.prog 22 #[.agg #[.string nm, .int .i64 a, .slice wp ws.length wc, .bool b, .slice kp kn kc]] w fun e w' => ∃ v, e = .returned v ∧ OneC 9 1 w w' v (ws.length + 1) (strs (nm :: ws.map wtx)) := by
  have X0 := OneC.fresh 9 1 w (balloc (Below.refl _ w) (.cells #[.string nm, .int .i64 a, .slice wp ws.length wc, .bool b, .slice kp kn kc] 50)) #[.string nm] 1 (w.heap.size + 1) (by simp) (by decide) (by rfl)
  have B0 := balloc (balloc (Below.refl _ w) (.cells #[.string nm, .int .i64 a, .slice wp ws.length wc, .bool b, .slice kp kn kc] 50)) (.cells #[.string nm] 9)
  have K0 := (Box.new w #[.string nm, .int .i64 a, .slice wp ws.length wc, .bool b, .slice kp kn kc] 50).alloc (.cells #[.string nm] 9)
  obtain ⟨p', c', e, hws⟩ := hw
  injection e with e1 _ e2
  subst e1 e2
  have HW := Lib.hid hws
  clear hws
  obtain ⟨q, hq⟩ : ∃ q, ws.length = q := ⟨_, rfl⟩
  have HQ := Lib.hid hq
  rw [hq] at X0 B0 K0 h8 ⊢
  clear hq
  go_enter Tryz.func22, Tryz.ntmps22
  go_upto_region 2 with fail
  generalize ((w.alloc (.cells #[.string nm, .int .i64 a, .slice wp q wc, .bool b, .slice kp kn kc] 50)).alloc (.cells #[.string nm] 9)) = W0 at *
  obtain ⟨z0, _, _, c2, _⟩ := id K0.five
  go_wp2_with fail
  go_loopw [3, 13] (fun V I wr => ∃ k : Nat, k ≤ q ∧ I = .int .i64 k ∧ OneC 9 1 w wr V (k + 1) (strs (nm :: (ws.take k).map wtx))) (fun _ I _ => q - (intOf I).toNat)
  case atStart => exact ⟨0, by omega, rfl, by simpa [strs] using X0⟩
  case round =>
    clear X0 c2 z0 K0 B0
    obtain ⟨k, hk, rfl, X⟩ := hrel
    have B1 := X.below
    by_cases hlt : k < q
    · have hQ := HQ.out
      have j1 : k < ws.length := by omega
      obtain ⟨gw, ow, rfl, hwf⟩ := HW.out.resolve_left (by intro e; rw [e] at j1; simp at j1)
      obtain ⟨t0, p0, p1, p2, p3⟩ := hwf.get k j1
      have hfx := hf.out _ (List.getElem_mem j1)
      have HT : Hid (strs (nm :: (ws.take (k + 1)).map wtx) = strs (nm :: (ws.take k).map wtx) ++ [.string (wtx ws[k])]) := Lib.hid (by
        rw [List.take_add_one, List.getElem?_eq_getElem j1]
        simp only [Option.toList, List.map_append, strs, List.map_cons, List.map_nil, List.cons_append])
      have lw := hS gw t0
      replace p0 := (B1.cell (p := ⟨gw, _, none⟩) lw).trans p0
      replace p1 := (B1.cell (p := ⟨gw, _, none⟩) lw).trans p1
      replace p2 := (B1.cell (p := ⟨gw, _, none⟩) lw).trans p2
      replace p3 := (B1.cell (p := ⟨gw, _, none⟩) lw).trans p3
      have lw' := Nat.lt_of_lt_of_le lw B1.size
      have P1 := Lib.hid (P.kept B1)
      obtain ⟨vp, vc, rfl⟩ := X.form
      generalize ws[k] = x at *
      obtain ⟨xm, xn, xs, xa⟩ := x
      simp only at p0 p1 p2 p3
      clear hwf hQ j1
      rcases hfx with ⟨h1, h2, h3, h4⟩ | ⟨h1, h2, h3⟩
      · simp only at h1 h2 h3 h4
        subst h1 h2
        have ci := fun w P => itoa_any xn h3 h4 w P
        have hwt : wtx ⟨true, xn, ⟨#[]⟩, xa⟩ = ⟨(decDigits xn.toNat).toArray⟩ := rfl
        rw [hwt] at HT
        obtain ⟨u, hu⟩ : ∃ u, (⟨(decDigits xn.toNat).toArray⟩ : ByteArray) = u := ⟨_, rfl⟩
        rw [hu] at HT ci
        have hP := P1.out.kept (balloc (Below.refl _ _) (.cells #[.bool true, .int .i64 xn, .string ⟨#[]⟩, .int .i64 xa] 64))
        have X2 := X.kept (balloc (Below.refl _ _) (.cells #[.bool true, .int .i64 xn, .string ⟨#[]⟩, .int .i64 xa] 64))
        clear hu hwt X B1 P1 P
        go_wp2_with fail
        refine (ci _ hP).mono ?_
        rintro e w3 ⟨rfl, hb⟩
        have X3 := X2.kept hb
        clear X2 hb ci hP
        go_wp2_with (first | (at_builtin; refine put_c 52 underS infoS (by rfl) (by decide) (by go_simp) _ _ rfl (X3.kept (balloc (Below.refl _ _) _)) rfl rfl (holds_one (EL := 9) (Blk.at_ rfl) rfl (one_str _)) (by omega) (by unfold maxLen; omega) ?_))
        intro V3 w4 X4 _
        clear X3
        go_wp2_with fail
        go_roundw
        case rel => exact ⟨k + 1, by omega, by go_num, by rw [HT.out]; simpa using X4⟩
        case measure => simp [intOf]; omega
      · simp only at h1 h2 h3
        subst h1 h2
        have hwt : wtx ⟨false, 0, xs, xa⟩ = xs := rfl
        rw [hwt] at HT
        have X2 := X.kept (balloc (Below.refl _ _) (.cells #[.bool false, .int .i64 0, .string xs, .int .i64 xa] 64))
        clear hwt X B1 P1 P
        go_wp2_with (first | (at_builtin; refine put_c 52 underS infoS (by rfl) (by decide) (by go_simp) _ _ rfl (X2.kept (balloc (Below.refl _ _) _)) rfl rfl (holds_one (EL := 9) (Blk.at_ (by simp)) rfl (one_str _)) (by omega) (by unfold maxLen; omega) ?_))
        intro V3 w4 X4 _
        clear X2
        go_wp2_with fail
        go_roundw
        case rel => exact ⟨k + 1, by omega, by go_num, by rw [HT.out]; simpa using X4⟩
        case measure => simp [intOf]; omega
    · obtain rfl : k = q := by omega
      have hT : ws.take k = ws := by rw [← HQ.out, List.take_length]
      rw [hT] at X
      go_wp2_with fail
      go_ret
      exact ⟨_, rfl, X⟩

end Go.Proofs.YtabhbcedldjjjaaGreatDoor.Yg

namespace Go.Proofs.YtabhbcedldjjjaaGreatDoor.Yg
set_option linter.unusedSimpArgs false
set_option linter.unusedVariables false
open Go Go.RowKit Go.Proofs.YtabhbcedldjjjaaGreatDoor.Zm Go.Proofs.YtabhbcedldjjjaaGreatDoor.Ym
open Go.Lib (decDigits)

/-- the bytes of texts -/
def bys (l : List ByteArray) : List (List UInt8) := l.map (·.data.toList)
theorem join_cons (x : List UInt8) (r : List (List UInt8)) : Lib.join (x :: r) [32] = x ++ (r.map (32 :: ·)).flatten := by
  rw [Lib.join_cons]; rfl
theorem wtx_bytes {x : WI} : 32 :: (wtx x).data.toList = prtW (toW x) := by
  obtain ⟨m, n, s, a⟩ := x
  cases m <;> simp [wtx, prtW, toW]
theorem words_bytes (ws : List WI) : ((ws.map (fun x => (wtx x).data.toList)).map (32 :: ·)).flatten = prtWs (ws.map toW) := by
  induction ws with
  | nil => rfl
  | cons x ws ih =>
    simp only [List.map_cons, List.flatten_cons, prtWs, ← wtx_bytes, ih]
/-- the name and the words -/
theorem join_head (nm : ByteArray) (ws : List WI) : Lib.join (bys (nm :: ws.map wtx)) [32] = nm.data.toList ++ prtWs (ws.map toW) := by
  simp only [bys, List.map_cons, join_cons, List.map_map]
  rw [← words_bytes]
  simp only [List.map_map]
  rfl
theorem join_snoc' (x : List UInt8) (r : List (List UInt8)) (y : List UInt8) : Lib.join (x :: (r ++ [y])) [32] = Lib.join (x :: r) [32] ++ 32 :: y := by
  simp [join_cons]
/-- .. and a bracket -/
theorem join_open (nm : ByteArray) (ws : List WI) : Lib.join (bys (nm :: ws.map wtx ++ [⟨#[123]⟩])) [32] = nm.data.toList ++ (prtWs (ws.map toW) ++ [32, 123]) := by
  have h := join_snoc' nm.data.toList (bys (ws.map wtx)) [123]
  have j := join_head nm ws
  simp only [bys, List.map_cons, List.map_append, List.map_nil, List.cons_append] at h j ⊢
  rw [h, j]
  simp
/-- the last of texts is made longer -/
theorem join_plus (r : List (List UInt8)) (y z : List UInt8) : Lib.join (r ++ [y ++ z]) [32] = Lib.join (r ++ [y]) [32] ++ z := by
  cases r with
  | nil => simp [join_cons]
  | cons x r => rw [List.cons_append, List.cons_append, join_snoc', join_snoc']; simp
/-- .. and an end -/
theorem join_shut (nm : ByteArray) (ws : List WI) (r : List ByteArray) (y u : ByteArray) (e : nm :: ws.map wtx = r ++ [y]) (hu : u.data.toList = y.data.toList ++ [59]) : Lib.join (bys (r ++ [u])) [32] = nm.data.toList ++ (prtWs (ws.map toW) ++ [59]) := by
  have j := join_head nm ws
  rw [e] at j
  simp only [bys, List.map_append, List.map_cons, List.map_nil, hu] at j ⊢
  rw [join_plus, j]
  simp
theorem strs_last (nm : ByteArray) (l : List ByteArray) : ∃ r y, nm :: l = r ++ [y] ∧ r.length = l.length := by
  rcases List.eq_nil_or_concat (nm :: l) with h | ⟨r, y, h⟩
  · cases h
  · rw [List.concat_eq_append] at h
    have := congrArg List.length h
    exact ⟨r, y, h, by simpa using this.symm⟩
/-- an item's line -/
theorem line_shut (d : Nat) (nm : ByteArray) (a : Int) (ws : List WI) (ks : List NI) : prtN d (toN (.mk nm a ws false ks)) = Ym.mar d ++ ((nm.data.toList ++ (prtWs (ws.map toW) ++ [59])) ++ [10]) := by
  simp [toN, prtN]
theorem line_open (d : Nat) (nm : ByteArray) (a : Int) (ws : List WI) (ks : List NI) : prtN d (toN (.mk nm a ws true ks)) = (Ym.mar d ++ ((nm.data.toList ++ (prtWs (ws.map toW) ++ [32, 123])) ++ [10])) ++ (prtL (d + 1) (toL ks) ++ (Ym.mar d ++ ([125] ++ [10]))) := by
  simp [toN, prtN]
theorem prt_take (d : Nat) (l : List NI) (k : Nat) (hk : k < l.length) : prtL d (toL (l.take (k + 1))) = prtL d (toL (l.take k)) ++ prtN d (toN l[k]) := by
  rw [List.take_add_one, List.getElem?_eq_getElem hk, toL_append, prtL_append]
  simp [toL, prtL]
theorem chk_get {d : Nat} {l : List NI} (h : chkL d l = 0) (i : Nat) (hi : i < l.length) : chkN d l[i] = 0 := by
  induction l generalizing i with
  | nil => exact absurd hi (by simp)
  | cons n l ih =>
    simp only [chkL] at h
    split at h
    · omega
    · rename_i h1
      cases i with
      | zero => simp only [List.getElem_cons_zero]; omega
      | succ i => exact ih h i (by simpa using hi)
/-- what may be of an item that may be -/
theorem chk_un {d : Nat} {nm : ByteArray} {a : Int} {ws : List WI} {b : Bool} {ks : List NI} (h : chkN d (.mk nm a ws b ks) = 0) : HeadOk nm ws ∧ (b = false → ks = []) ∧ (b = true → d ≠ 6) ∧ chkL (d + 1) ks = 0 := by
  simp only [chkN] at h
  split at h
  · omega
  · rename_i h1
    split at h
    · omega
    · rename_i h2
      refine ⟨Classical.byContradiction (fun q => h1 (.inl q)), fun q => ?_, fun q r => h2 ⟨q, r⟩, h⟩
      cases ks with
      | nil => rfl
      | cons k l => exact absurd (.inr ⟨by simp, q⟩) h1

end Go.Proofs.YtabhbcedldjjjaaGreatDoor.Yg

namespace Go.Proofs.YtabhbcedldjjjaaGreatDoor.Zbp
set_option linter.unusedSimpArgs false
set_option linter.unusedVariables false
open Go.RowKit Go.Proofs.YtabhbcedldjjjaaGreatDoor.Pr

set_option maxHeartbeats 1000000

/-- block b is a builder which holds these bytes, from block B on -/
abbrev Bu (B b : Nat) (l : List UInt8) (w : World) : Prop := Lib.IsBuilder 39 5 B b (Lib.byteCells l) w

theorem infoB : (Tryz.prog.info? 37).map (·.size) = some 2 := by kernel_rfl
theorem infoU8 : (Tryz.prog.info? 5).map (fun i => (i.zero, i.size, i.bytes)) = some (some (.int .u8 0), 1, 1) := by kernel_rfl

theorem Bu.lt {B b : Nat} {l : List UInt8} {w : World} (h : Bu B b l w) : b < w.heap.size := by
  rcases h with h | h
  · exact h.lt
  · exact h.lt

/-- of what lies below B nothing turns, and a builder stays one while new blocks come -/
theorem Bu.kept {B b : Nat} {l : List UInt8} {w w' : World} (h : Bu B b l w) (hb : Below w.heap.size w w') : Bu B b l w' := by
  have go : ∀ p, Lib.BuilderAt 39 5 B b p (Lib.byteCells l) w → Lib.BuilderAt 39 5 B b p (Lib.byteCells l) w' := fun p h => by
    have hl := h.lt
    obtain ⟨hB, v, hbk, hown, hne⟩ := h
    exact ⟨hB, v, (hb.block b hl).trans hbk, hown.kept (row := none) ⟨hb.os, hb.tape, hb.output, hb.size, fun i hi _ => hb.block i hi⟩ (by cases v.ownBlock <;> simp), hne⟩
  exact h.imp (go _) (go _)

theorem own_kind {w : World} {B n : Nat} {e : TypeId} {v : Value} {xs : List Value} (h : w.ownsRow B e 1 v n xs) : ∀ g, v.ownBlock = some g → ∃ c fz, w.heap[g]? = some (.cells c e fz) := by
  intro g hg
  rcases h.2 with ⟨hv, _⟩ | ⟨g', cap, cur, hv, _, hc, _⟩
  · rw [hv] at hg; cases hg
  · rw [hv] at hg
    have e : g' = g := by simpa [Value.ownBlock] using hg
    subst e
    exact ⟨_, _, hc⟩

/-- what is no row of bytes, and not the builder itself, is kept -/
abbrev Oth (b : Nat) (w w' : World) : Prop := Lib.OthersKept 5 (some b) w w'

set_option maxRecDepth 100000 in
theorem copyCheck_any (B b : Nat) (l : List UInt8) (w : World) (h : Bu B b l w) :
    Calls Tryz.prog 35 #[.pointer (some ⟨b, 0, none⟩)] w fun e w' => e = .returned (.tuple #[]) ∧ Lib.BuilderAt 39 5 B b (.pointer (some ⟨b, 0, none⟩)) (Lib.byteCells l) w' ∧ Below B w w' ∧ Oth b w w' := by
  obtain ⟨j, hj, hjs⟩ := Option.map_eq_some_iff.1 infoB
  rcases h with h | h
  · have c0 := h.cell0
    have sh := h.shape
    have fz := h.frozen0
    have e1 : (convert 34 104 (.pointer (some ⟨b, 0, none⟩))).run Tryz.prog w = .ok (.pointer (some ⟨b, 0, none⟩)) w :=
      Lib.run_to_unsafe w ⟨b, 0, none⟩ Tryz.underlying34 Tryz.underlying104 hj (by rw [hjs]; decide) sh (Nat.zero_lt_succ 1)
    have e2 : (convert 104 34 (.pointer (some ⟨b, 0, none⟩))).run Tryz.prog w = .ok (.pointer (some ⟨b, 0, none⟩)) w :=
      Lib.run_from_unsafe w ⟨b, 0, none⟩ Tryz.underlying104 Tryz.underlying34 hj sh (by kernel_rfl)
    have e3 : ∀ W : World, (callFunc 56 #[.pointer (some ⟨b, 0, none⟩)]).run Tryz.prog W = .ok (.value (.pointer (some ⟨b, 0, none⟩))) W := fun W => by
      rw [run_callFunc_extern Tryz.func56 (by kernel_rfl) (by kernel_rfl) (by kernel_rfl) (e := Extern.AbiNoEscape.same) (by kernel_rfl), Lib.run_noEscape]; rfl
    have e4 := fun W : World => Lib.run_neq_ptr_same (P := Tryz.prog) W ⟨b, 0, none⟩ Tryz.underlying34 hj
    have H := Lib.hid h
    clear sh h
    go_enter Tryz.func35, Tryz.ntmps35
    go_wp2
    go_end0
    exact ⟨rfl, H.out.used _, (Below.refl B w).setCell (p := ⟨b, 0, none⟩) H.out.1 _, (Lib.OthersKept.refl _ (some b) w).setCell (b := b) ⟨b, 0, none⟩ rfl _⟩
  · have c0 := h.cell0
    have e4 := fun W : World => Lib.run_neq_ptr_same (P := Tryz.prog) W ⟨b, 0, none⟩ Tryz.underlying34 hj
    have H := Lib.hid h
    clear h
    go_enter Tryz.func35, Tryz.ntmps35
    go_wp2
    go_end0
    exact ⟨rfl, H.out, Below.refl B _, Lib.OthersKept.refl _ _ _⟩


set_option maxRecDepth 100000 in
theorem WriteByte_any (B b : Nat) (l : List UInt8) (c : UInt8) (w : World) (h : Bu B b l w) (hlen : l.length + 1 ≤ 1000000) (hBw : B ≤ w.heap.size) :
    Calls Tryz.prog 26 #[.pointer (some ⟨b, 0, none⟩), .int .u8 c.toNat] w fun e w' => e = .returned .nilIface ∧ Bu B b (l ++ [c]) w' ∧ Below B w w' ∧ Oth b w w' := by
  obtain ⟨i0, hi, hz0, hz1, hz2⟩ := info_parts infoU8
  have cc := copyCheck_any B b l w h
  have hbl := Lib.byteCells_length l
  clear h
  go_enter Tryz.func26, Tryz.ntmps26
  go_wp2_with fail
  refine cc.mono ?_
  rintro e w1 ⟨rfl, ⟨hB, v, hbk, hown, hne⟩, hb1, ho1⟩
  have c0 : w1.cell? ⟨b, 0, none⟩ = some (.pointer (some ⟨b, 0, none⟩)) := by rw [Lib.cell_of_heap hbk]; rfl
  have c1 : w1.cell? ⟨b, 1, none⟩ = some v := by rw [Lib.cell_of_heap hbk]; rfl
  go_wp2_with (at_builtin; refine wpList_append_own _ rfl _ _ 35 rfl B 5 i0 (.int .u8 0) 1 1 Tryz.underlying35 hi hz0 hz1 hz2 rfl (by decide) _ _ _ rfl (hown.alloc _) ⟨w1.heap.size, 0, none⟩ 1 1 [.int .u8 c.toNat] rfl rfl ?c1 ?c2 ?c3 ?c4 ?c5 ?_)
  case c1 =>
    intro j u hj
    match j, hj with
    | 0, hj => simp at hj; subst hj; simp [Addr.add, go_sem]
  case c2 => intro u hu; simp at hu; subst hu; rfl
  case c3 => unfold maxLen; omega
  case c4 => omega
  case c5 => have := hb1.size; simp; omega
  intro v' w2 hown' hgrow _
  have hlt : b < w1.heap.size := (Array.getElem?_eq_some_iff.1 hbk).1
  have hb2 : w2.heap[b]? = some (.cells #[.pointer (some ⟨b, 0, none⟩), v] 39 (0, 0)) := by
    rw [hgrow.block b (by simp; omega) (fun e => hne e.symm), Lib.alloc_old w1 _ b hlt]; exact hbk
  have d0 : w2.cell? ⟨b, 0, none⟩ = some (.pointer (some ⟨b, 0, none⟩)) := by rw [Lib.cell_of_heap hb2]; rfl
  have d1 : w2.cell? ⟨b, 1, none⟩ = some v := by rw [Lib.cell_of_heap hb2]; rfl
  have f1 : w2.frozen? ⟨b, 1, none⟩ = false := Lib.frozen_of_heap hb2 1
  have hw2 : Below B w w2 := (hb1.alloc (by have := hb1.size; omega) _).grown hgrow (by have := hb1.size; simp; omega) (fun k hk => (hown.lt k hk).1)
  have hown2 : w2.ownsRow B 5 1 v' (Lib.byteCells (l ++ [c])).length (Lib.byteCells (l ++ [c])) := by
    have e : Lib.byteCells (l ++ [c]) = Lib.byteCells l ++ [.int .u8 c.toNat] := by simp [Lib.byteCells]
    rw [e, List.length_append, hbl]; exact hown'
  have Y : ∀ u : Value, u = v' → Bu B b (l ++ [c]) (w2.setCell ⟨b, 1, none⟩ u) := fun u e => .inr (by rw [e]; exact Lib.BuilderAt.put hB hb2 hown2 (by decide))
  obtain ⟨g, cap, hv⟩ : ∃ g cap, v' = .slice (some ⟨g, 0, none⟩) (l.length + 1) cap := by
    rcases hown'.2 with ⟨_, h0⟩ | ⟨g, cap, cur, hv, _⟩
    · omega
    · exact ⟨g, cap, hv⟩
  have ho2 : Oth b w w2 := (ho1.alloc _).grown hgrow (fun g hg => by
    obtain ⟨c', fz, hc⟩ := own_kind hown g hg
    exact ⟨c', fz, (Lib.alloc_old w1 _ g (Array.getElem?_eq_some_iff.1 hc).1).trans hc⟩)
  clear hown' hown2 hown hgrow
  replace Y := Y _ hv.symm
  subst hv
  have HY := Lib.hid Y
  clear Y
  go_wp2_with fail
  go_ret
  exact ⟨rfl, HY.out, hw2.setCell (p := ⟨b, 1, none⟩) hB _, ho2.setCell ⟨b, 1, none⟩ rfl _⟩

set_option maxRecDepth 100000 in
theorem WriteString_any (B b : Nat) (l : List UInt8) (s : ByteArray) (w : World) (h : Bu B b l w) (hlen : l.length + s.size ≤ 1000000) (hBw : B ≤ w.heap.size) :
    Calls Tryz.prog 23 #[.pointer (some ⟨b, 0, none⟩), .string s] w fun e w' => e = .returned (.tuple #[.int .i64 s.size, .nilIface]) ∧ Bu B b (l ++ s.data.toList) w' ∧ Below B w w' ∧ Oth b w w' := by
  obtain ⟨i0, hi, hz0, hz1, hz2⟩ := info_parts infoU8
  have cc := copyCheck_any B b l w h
  have hbl := Lib.byteCells_length l
  clear h
  go_enter Tryz.func23, Tryz.ntmps23
  go_wp2_with fail
  refine cc.mono ?_
  rintro e w1 ⟨rfl, ⟨hB, v, hbk, hown, hne⟩, hb1, ho1⟩
  have c0 : w1.cell? ⟨b, 0, none⟩ = some (.pointer (some ⟨b, 0, none⟩)) := by rw [Lib.cell_of_heap hbk]; rfl
  have c1 : w1.cell? ⟨b, 1, none⟩ = some v := by rw [Lib.cell_of_heap hbk]; rfl
  go_wp2_with (at_builtin; refine Lib.wpList_append_own_string _ rfl _ _ 35 9 rfl B 5 i0 Tryz.underlying35 Tryz.underlying9 hi hz0 hz1 hz2 _ _ _ rfl hown s rfl ?c3 ?c4 ?c5 ?_)
  case c3 => unfold maxLen; omega
  case c4 => omega
  case c5 => have := hb1.size; omega
  intro v' w2 hown' hgrow _
  have hlt : b < w1.heap.size := (Array.getElem?_eq_some_iff.1 hbk).1
  have hb2 : w2.heap[b]? = some (.cells #[.pointer (some ⟨b, 0, none⟩), v] 39 (0, 0)) := by
    rw [hgrow.block b hlt (fun e => hne e.symm)]; exact hbk
  have d0 : w2.cell? ⟨b, 0, none⟩ = some (.pointer (some ⟨b, 0, none⟩)) := by rw [Lib.cell_of_heap hb2]; rfl
  have d1 : w2.cell? ⟨b, 1, none⟩ = some v := by rw [Lib.cell_of_heap hb2]; rfl
  have f1 : w2.frozen? ⟨b, 1, none⟩ = false := Lib.frozen_of_heap hb2 1
  have hw2 : Below B w w2 := hb1.grown hgrow (by have := hb1.size; omega) (fun k hk => (hown.lt k hk).1)
  have hown2 : w2.ownsRow B 5 1 v' (Lib.byteCells (l ++ s.data.toList)).length (Lib.byteCells (l ++ s.data.toList)) := by
    have e : Lib.byteCells (l ++ s.data.toList) = Lib.byteCells l ++ Lib.strCells s := by simp [Lib.byteCells, Lib.strCells]
    have z : (Lib.strCells s).length = s.size := by simp [Lib.strCells]
    rw [e, List.length_append, z, hbl]; exact hown'
  have Y : ∀ u : Value, u = v' → Bu B b (l ++ s.data.toList) (w2.setCell ⟨b, 1, none⟩ u) := fun u e => .inr (by rw [e]; exact Lib.BuilderAt.put hB hb2 hown2 (by decide))
  obtain ⟨ao, n', cap, hv⟩ : ∃ ao n' cap, v' = .slice ao n' cap := by
    rcases hown'.2 with ⟨hv, _⟩ | ⟨g, cap, cur, hv, _⟩
    · exact ⟨none, 0, 0, hv⟩
    · exact ⟨_, _, _, hv⟩
  have ho2 : Oth b w w2 := ho1.grown hgrow (own_kind hown)
  clear hown' hown2 hown hgrow
  replace Y := Y _ hv.symm
  subst hv
  have HY := Lib.hid Y
  clear Y
  go_wp2_with fail
  go_ret2
  exact ⟨rfl, HY.out, hw2.setCell (p := ⟨b, 1, none⟩) hB _, ho2.setCell ⟨b, 1, none⟩ rfl _⟩

end Go.Proofs.YtabhbcedldjjjaaGreatDoor.Zbp

namespace Go.Proofs.YtabhbcedldjjjaaGreatDoor.Zbp
set_option linter.unusedSimpArgs false
set_option linter.unusedVariables false
open Go.RowKit Go.Proofs.YtabhbcedldjjjaaGreatDoor.Pr

set_option maxHeartbeats 2000000

theorem Bu.at_ {B b : Nat} {l : List UInt8} {w : World} (h : Bu B b l w) : ∃ p v, B ≤ b ∧ w.heap[b]? = some (.cells #[p, v] 39 (0, 0)) ∧ w.ownsRow B 5 1 v (Lib.byteCells l).length (Lib.byteCells l) := by
  rcases h with ⟨h1, v, h2, h3, _⟩ | ⟨h1, v, h2, h3, _⟩
  · exact ⟨_, v, h1, h2, h3⟩
  · exact ⟨_, v, h1, h2, h3⟩

set_option maxRecDepth 100000 in
theorem Len_any (B b : Nat) (l : List UInt8) (w : World) (h : Bu B b l w) :
    Calls Tryz.prog 15 #[.pointer (some ⟨b, 0, none⟩)] w fun e w' => e = .returned (.int .i64 l.length) ∧ w' = w := by
  obtain ⟨p, v, hB, hbk, hown⟩ := h.at_
  rw [Lib.byteCells_length] at hown
  obtain ⟨ao, cap, rfl⟩ : ∃ ao cap, v = .slice ao l.length cap := by
    rcases hown.2 with ⟨hv, h0⟩ | ⟨g, cap, cur, hv, _⟩
    · exact ⟨none, 0, by rw [hv, h0]⟩
    · exact ⟨_, _, hv⟩
  have c1 : w.cell? ⟨b, 1, none⟩ = some (.slice ao l.length cap) := by rw [Lib.cell_of_heap hbk]; rfl
  clear h hown hbk
  go_enter Tryz.func15, Tryz.ntmps15
  go_wp2
  go_ret
  exact ⟨rfl, rfl⟩

set_option maxRecDepth 100000 in
theorem String_any (B b : Nat) (l : List UInt8) (w : World) (h : Bu B b l w) (hBw : B ≤ w.heap.size) :
    Calls Tryz.prog 16 #[.pointer (some ⟨b, 0, none⟩)] w fun e w' => e = .returned (.string ⟨l.toArray⟩) ∧ Below B w w' := by
  obtain ⟨p, v, hB, hbk, hown⟩ := h.at_
  have hlt := h.lt
  have mixed : Tryz.prog.follows Departure.mixedOrders = true := by kernel_rfl
  rw [Lib.byteCells_length] at hown
  by_cases h0 : l = []
  · subst h0
    have hUS : ∀ (W : World) (q : Option Addr), (Builtin.unsafeString_ #[62, 3] 9 #[.pointer q, .int .i64 0]).run Tryz.prog W = .ok (.string .empty) W := fun W q => Lib.run_unsafeString_none W _ _ _ q
    rcases hown.2 with ⟨rfl, _⟩ | ⟨g, cap, cur, rfl, hbg, hg, _⟩
    · have c1 : w.drew.cell? ⟨b, 1, none⟩ = some (.slice none 0 0) := by
        have : w.drew.heap[b]? = some (.cells #[p, .slice none 0 0] 39 (0, 0)) := hbk
        rw [Lib.cell_of_heap this]; rfl
      have hSD : (Builtin.unsafeSliceData_ #[35] 62 #[.slice none 0 0]).run Tryz.prog w.drew = .ok (.pointer none) w.drew := rfl
      clear h hown hbk
      go_enter Tryz.func16, Tryz.ntmps16
      go_wp2
      go_region_o
      all_goals (go_wp2; go_ret; exact ⟨rfl, Below.drew (Below.refl B w)⟩)
    · by_cases hc0 : cap = 0
      · subst hc0
        have c1 : w.drew.cell? ⟨b, 1, none⟩ = some (.slice (some ⟨g, 0, none⟩) 0 0) := by
          have : w.drew.heap[b]? = some (.cells #[p, .slice (some ⟨g, 0, none⟩) 0 0] 39 (0, 0)) := hbk
          rw [Lib.cell_of_heap this]; rfl
        have hSD : (Builtin.unsafeSliceData_ #[35] 62 #[.slice (some ⟨g, 0, none⟩) 0 0]).run Tryz.prog w.drew = .ok (.pointer (some ⟨w.drew.heap.size, 0, none⟩)) (w.drew.alloc (.view ⟨g, 0, none⟩ 5)) :=
          Lib.run_unsafeSliceData_zero w.drew _ _ 5 (by kernel_rfl) ⟨g, 0, none⟩ 0 (5, cur.size) (by have hg' : w.drew.heap[g]? = some (.cells cur 5 (0, 0)) := hg; simp [World.shape?, hg'])
        have c2 : (w.drew.alloc (.view ⟨g, 0, none⟩ 5)).cell? ⟨b, 1, none⟩ = some (.slice (some ⟨g, 0, none⟩) 0 0) := by
          have : (w.drew.alloc (.view ⟨g, 0, none⟩ 5)).heap[b]? = _ := (Lib.alloc_old w.drew _ b hlt).trans hbk
          rw [Lib.cell_of_heap this]; rfl
        have c3 : (w.alloc (.view ⟨g, 0, none⟩ 5)).drew.cell? ⟨b, 1, none⟩ = some (.slice (some ⟨g, 0, none⟩) 0 0) := c2
        have c0 : w.cell? ⟨b, 1, none⟩ = some (.slice (some ⟨g, 0, none⟩) 0 0) := c1
        clear h hown hbk
        go_enter Tryz.func16, Tryz.ntmps16
        go_wp2
        go_region_o
        all_goals (go_wp2; go_ret; exact ⟨rfl, (Below.drew (Below.refl B w)).alloc hBw _⟩)
      · have c1 : w.drew.cell? ⟨b, 1, none⟩ = some (.slice (some ⟨g, 0, none⟩) 0 cap) := by
          have : w.drew.heap[b]? = some (.cells #[p, .slice (some ⟨g, 0, none⟩) 0 cap] 39 (0, 0)) := hbk
          rw [Lib.cell_of_heap this]; rfl
        have hSD : (Builtin.unsafeSliceData_ #[35] 62 #[.slice (some ⟨g, 0, none⟩) 0 cap]).run Tryz.prog w.drew = .ok (.pointer (some ⟨g, 0, none⟩)) w.drew :=
          Lib.run_unsafeSliceData_row _ _ _ _ _ _ hc0
        clear h hown hbk hc0
        go_enter Tryz.func16, Tryz.ntmps16
        go_wp2
        go_region_o
        all_goals (go_wp2; go_ret; exact ⟨rfl, Below.drew (Below.refl B w)⟩)
  · have hl0 : l.length ≠ 0 := by simpa using h0
    obtain ⟨g, cap, cur, rfl, hbg, hg, hnc, hcm, hcs, htake⟩ : ∃ g cap cur, v = .slice (some ⟨g, 0, none⟩) l.length cap ∧ B ≤ g ∧ w.heap[g]? = some (.cells cur 5 (0, 0)) ∧ l.length ≤ cap ∧ cap ≤ maxLen ∧ cur.size = cap * 1 ∧ cur.toList.take (l.length * 1) = Lib.byteCells l := by
      rcases hown.2 with ⟨_, hz⟩ | ⟨g, cap, cur, hv, r⟩
      · exact absurd hz hl0
      · exact ⟨g, cap, cur, hv, r⟩
    have c1 : w.drew.cell? ⟨b, 1, none⟩ = some (.slice (some ⟨g, 0, none⟩) l.length cap) := by
      have : w.drew.heap[b]? = some (.cells #[p, .slice (some ⟨g, 0, none⟩) l.length cap] 39 (0, 0)) := hbk
      rw [Lib.cell_of_heap this]; rfl
    have hSD : (Builtin.unsafeSliceData_ #[35] 62 #[.slice (some ⟨g, 0, none⟩) l.length cap]).run Tryz.prog w.drew = .ok (.pointer (some ⟨g, 0, none⟩)) w.drew :=
      Lib.run_unsafeSliceData_row _ _ _ _ _ _ (by omega)
    have hUS : (Builtin.unsafeString_ #[62, 3] 9 #[.pointer (some ⟨g, 0, none⟩), .int .i64 l.length]).run Tryz.prog w.drew = .ok (.string ⟨l.toArray⟩) (w.drew.freeze ⟨g, 0, none⟩ l.length) := by
      refine Lib.run_unsafeString_row w.drew 62 3 9 5 (by kernel_rfl) (by kernel_rfl) g cur.size (by have hg' : w.drew.heap[g]? = some (.cells cur 5 (0, 0)) := hg; simp [World.shape?, hg']) l h0 (by omega) (by unfold maxLen at hcm; omega) ?_
      intro j x hx
      exact hown.cells (g := g) rfl j (.int .u8 x.toNat) (by simp [Lib.byteCells, hx])
    clear h hown hbk hg htake
    go_enter Tryz.func16, Tryz.ntmps16
    go_wp2
    go_region_o
    all_goals (go_wp2; go_ret; exact ⟨rfl, Lib.below_freeze (Below.drew (Below.refl B w)) (p := ⟨g, 0, none⟩) hbg _⟩)

end Go.Proofs.YtabhbcedldjjjaaGreatDoor.Zbp

namespace Go.Proofs.YtabhbcedldjjjaaGreatDoor.Zbp
set_option linter.unusedSimpArgs false
set_option linter.unusedVariables false
open Go.RowKit Go.Proofs.YtabhbcedldjjjaaGreatDoor.Pr

set_option maxHeartbeats 2000000

theorem rep_mar (d : Nat) : Lib.repeatL [32, 32] d = Ym.mar d := by
  unfold Ym.mar
  induction d with
  | zero => rfl
  | succ d ih =>
    simp only [Lib.repeatL, ih]
    rw [show 2 * (d + 1) = 2 * d + 1 + 1 by omega, List.replicate_succ, List.replicate_succ]
    rfl
theorem rep_any (d : Nat) (hd : d ≤ 100) (w : World) : Calls Tryz.prog 24 #[.string ⟨#[32, 32]⟩, .int .i64 d] w fun e w' => e = .returned (.string ⟨(Ym.mar d).toArray⟩) ∧ Below w.heap.size w w' := by
  have h : (⟨#[32, 32]⟩ : ByteArray).size = 2 := rfl
  refine (Tryz.strings_Repeat ⟨#[32, 32]⟩ d w (by omega) (by rw [h]; omega)).mono ?_
  rintro e w' ⟨he, hb⟩
  refine ⟨?_, hb⟩
  rw [he, ← rep_mar]

set_option maxRecDepth 100000 in
theorem line_any (B b g o cap d : Nat) (l : List UInt8) (xs : List ByteArray) (c : Array Value) (fz : Nat × Nat) (w : World) (h : Bu B b l w) (hBw : B ≤ w.heap.size) (hd : d ≤ 100) (hg : w.heap[g]? = some (.cells c 9 fz)) (gb : g ≠ b) (hcap : xs.length ≤ cap) (hn : xs.length ≤ 1000)
    (hc : ∀ j x, xs[j]? = some x → c[o + j]? = some (.string x)) (hl : l.length + 200 + (Lib.join (xs.map (·.data.toList)) [32]).length + 1 ≤ 1000000) :
    Calls Tryz.prog 14 #[.pointer (some ⟨b, 0, none⟩), .int .i64 d, .slice (some ⟨g, o, none⟩) xs.length cap] w fun e w' => e = .returned (.tuple #[]) ∧ Bu B b (l ++ (Ym.mar d ++ (Lib.join (xs.map (·.data.toList)) [32] ++ [10]))) w' ∧ Below B w w' ∧ Oth b w w' := by
  have cR := fun w => rep_any d hd w
  have cW := fun W (hB : Below w.heap.size w W) => WriteString_any B b l ⟨(Ym.mar d).toArray⟩ W (h.kept hB) (by simp [ByteArray.size, Ym.mar]; omega) (Nat.le_trans hBw hB.size)
  have hbl := h.lt
  have hgl := (Array.getElem?_eq_some_iff.1 hg).1
  have cJ := fun W (hW : W.heap[g]? = some (.cells c 9 fz)) => Tryz.strings_Join g o cap xs ⟨#[32]⟩ W (fun j x hj => by rw [Lib.cell_of_heap hW]; exact hc j x hj) (Array.getElem?_eq_some_iff.1 hW).1 (by omega) hcap (by show (Lib.join _ [32]).length ≤ _; omega)
  obtain ⟨J, hJ⟩ : ∃ J, Lib.join (xs.map (·.data.toList)) [32] = J := ⟨_, rfl⟩
  have cJ : ∀ W, W.heap[g]? = some (.cells c 9 fz) → Calls Tryz.prog 25 #[.slice (some ⟨g, o, none⟩) xs.length cap, .string ⟨#[32]⟩] W fun e w' => e = .returned (.string ⟨J.toArray⟩) ∧ Below W.heap.size W w' := fun W hW => by
    have := cJ W hW
    rwa [show (⟨#[32]⟩ : ByteArray).data.toList = [32] from rfl, hJ] at this
  rw [hJ] at hl ⊢
  have cW2 := fun W W' (hW : Bu B b (l ++ Ym.mar d) W) (hz : B ≤ W.heap.size) (hB : Below W.heap.size W W') => WriteString_any B b (l ++ Ym.mar d) ⟨J.toArray⟩ W' (hW.kept hB) (by simp [ByteArray.size, Ym.mar]; omega) (Nat.le_trans hz hB.size)
  have HL : Hid (l.length + 200 + J.length + 1 ≤ 1000000) := Lib.hid hl
  have hm : (Ym.mar d).length ≤ 200 := by simp [Ym.mar]; omega
  clear hJ hc hl h
  go_enter Tryz.func14, Tryz.ntmps14
  go_upto_region 0 with fail
  go_region_with (first | (go_at_call 24; refine (cR _).mono ?_; rintro e w1 ⟨rfl, hb⟩) | (go_at_call 23; have B1 : Below w.heap.size w w1 := (by first | exact hb | exact bthen (Below.drew (Below.refl _ _)) hb); refine (cW _ B1).mono ?_; rintro e w2 ⟨rfl, hB2, hb2, ho2⟩; clear hb) | fail)
  have hg2 : w2.heap[g]? = some (.cells c 9 fz) := ho2 g _ ((B1.block g hgl).trans hg) (by intro e; injection e with e; exact gb e) (by intro c fz e; injection e with _ e _; exact absurd e (by decide))
  have hz2 : B ≤ w2.heap.size := Nat.le_trans hBw (Nat.le_trans B1.size hb2.size)
  have hbl2 := hB2.lt
  have X2 : Below B w w2 := (B1.mono hBw).trans hb2
  have O2 : Oth b w w2 := fun k ob hk h1 h2 => ho2 k ob ((B1.block k (Array.getElem?_eq_some_iff.1 hk).1).trans hk) h1 h2
  clear B1 hb2 ho2 cR cW hg hgl
  go_upto_region 1 with fail
  go_region_with (first | (go_at_call 25; refine (cJ _ (by exact hg2)).mono ?_; rintro e w3 ⟨rfl, hb⟩) | (go_at_call 23; have B3 : Below w2.heap.size w2 w3 := (by first | exact hb | exact bthen (Below.drew (Below.refl _ _)) hb); refine (cW2 w2 _ hB2 hz2 B3).mono ?_; rintro e w4 ⟨rfl, hB4, hb4, ho4⟩; clear hb) | fail)
  have X4 : Below B w w4 := X2.trans ((B3.mono hz2).trans hb4)
  have O4 : Oth b w w4 := fun k ob hk h1 h2 => ho4 k ob ((B3.block k (Array.getElem?_eq_some_iff.1 (O2 k ob hk h1 h2)).1).trans (O2 k ob hk h1 h2)) h1 h2
  have hz4 : B ≤ w4.heap.size := Nat.le_trans hz2 (Nat.le_trans B3.size hb4.size)
  have hbl4 := hB4.lt
  have cB := WriteByte_any B b (l ++ Ym.mar d ++ J) 10 w4 hB4 (by have := HL.out; simp; omega) hz4
  clear B3 hb4 ho4 X2 O2 cJ cW2 hg2 hB2
  go_upto_region 2 with fail
  go_wp2_with fail
  refine cB.mono ?_
  rintro e w5 ⟨rfl, hB5, hb5, ho5⟩
  go_wp2_with fail
  refine bodyPost_end (v := .tuple #[]) (by simp [results, Tryz.results14, go_sem]) rfl ⟨rfl, ?_, X4.trans hb5, O4.trans ho5⟩
  simpa using hB5

end Go.Proofs.YtabhbcedldjjjaaGreatDoor.Zbp

namespace Go.Proofs.YtabhbcedldjjjaaGreatDoor.Yg
set_option linter.unusedSimpArgs false
set_option linter.unusedVariables false
open Go Go.RowKit Go.Proofs.YtabhbcedldjjjaaGreatDoor.Zm Go.Proofs.YtabhbcedldjjjaaGreatDoor.Ym Go.Proofs.YtabhbcedldjjjaaGreatDoor.Bn Go.Proofs.YtabhbcedldjjjaaGreatDoor.Zp Go.Proofs.YtabhbcedldjjjaaGreatDoor.Zk
open Go.Proofs.YtabhbcedldjjjaaGreatDoor.Zbp (Bu Oth line_any)
open Go.Lib (decDigits)

set_option maxHeartbeats 4000000

/-- a row of texts as its block holds it -/
theorem OneC.texts {w W : World} {v : Value} {n : Nat} {l : List ByteArray} (x : OneC 9 1 w W v n (strs l)) (hn : 0 < n) : ∃ g cap cur, v = .slice (some ⟨g, 0, none⟩) n cap ∧ w.heap.size ≤ g ∧ W.heap[g]? = some (.cells cur 9 (0, 0)) ∧ n ≤ cap ∧ l.length = n ∧ ∀ (j : Nat) (s : ByteArray), l[j]? = some s → cur[j]? = some (Value.string s) := by
  rcases x.row.2 with ⟨h1, h2⟩ | ⟨g, cap, cur, hv, hb, hg, hle, hm, hcs, ht⟩
  · omega
  · have hl := x.row.1
    refine ⟨g, cap, cur, hv, hb, hg, hle, by simpa [strs] using hl, fun j s hj => ?_⟩
    have hjl : j < l.length := (List.getElem?_eq_some_iff.1 hj).1
    have hln : l.length = n := by simpa [strs] using hl
    have := congrArg (fun z => z[j]?) ht
    simp only [strs, List.getElem?_map, hj, Option.map_some, Nat.mul_one] at this
    rw [List.getElem?_take_of_lt (by omega)] at this
    simpa using this
theorem join_size (r : List ByteArray) (y : ByteArray) : y.size ≤ (Lib.join (bys (r ++ [y])) [32]).length := by
  have := join_plus (bys r) [] y.data.toList
  rw [List.nil_append] at this
  have e : bys (r ++ [y]) = bys r ++ [y.data.toList] := by simp [bys]
  rw [e, this, List.length_append]
  have : y.data.toList.length = y.size := Array.length_toList
  omega
theorem blk_put {W : World} {b j : Nat} {T : TypeId} {c : Array Value} (h : Blk W b T c) (v : Value) : Blk (W.setCell ⟨b, j, none⟩ v) b T (c.setIfInBounds j v) := by
  obtain ⟨hlt, hk⟩ := Array.getElem?_eq_some_iff.1 (show W.heap[b]? = _ from h)
  show (W.heap.modify b _)[b]? = _
  rw [Array.getElem?_eq_getElem (by rw [Array.size_modify]; exact hlt), Array.getElem_modify_self, hk]
  rfl
def lineV (b : Nat) : Value := .func (.func 14) #[.pointer (some ⟨b, 0, none⟩)] #[]

set_option maxRecDepth 100000 in
theorem write_any (w0 : World) (b : Nat) (S : Nat → Prop) (hS : ∀ x, S x → x < w0.heap.size) (P0 : Hid (Pows w0)) (N : Nat) (hN : N ≤ 1000000) : ∀ (l : List NI) (v : Value) (w : World) (d : Nat) (bl : List UInt8), cntL l < N → NsV S w0 v l → Below w0.heap.size w0 w → Bu w0.heap.size b bl w →
    Hid (chkL d l = 0) → d ≤ 6 → bl.length + (prtL d (toL l)).length + 400 ≤ 999000 →
    Calls Tryz.prog 13 #[v, .int .i64 d, lineV b] w fun e w' => e = .returned (.tuple #[]) ∧ Bu w0.heap.size b (bl ++ prtL d (toL l)) w' ∧ Below w0.heap.size w0 w' := by
  induction N with
  | zero => intro l v w d bl h; omega
  | succ N ih =>
    intro l v w d bl hc hv hB0 hbu hchk hd hsz
    have ih := ih (by omega)
    obtain ⟨ptr, cap, rfl, hl⟩ := hv
    have HL := Lib.hid hl
    have hlen := cnt_len l
    have hbl := hbu.lt
    clear hl
    unfold lineV
    go_enter Tryz.func13, Tryz.ntmps13
    go_wp2_with fail
    go_loopw [11] (fun I wr => ∃ k : Nat, k ≤ l.length ∧ I = .int .i64 k ∧ Bu w0.heap.size b (bl ++ prtL d (toL (l.take k))) wr ∧ Below w0.heap.size w0 wr) (fun I _ => l.length - (intOf I).toNat)
    case atStart => exact ⟨0, by omega, rfl, by simpa [toL, prtL] using hbu, hB0⟩
    case round =>
      clear hbu hB0
      obtain ⟨k, hk, rfl, hbu, B1⟩ := hrel
      by_cases hlt : k < l.length
      · obtain ⟨g, o, rfl, hf⟩ := HL.out.resolve_left (by intro e; rw [e] at hlt; simp at hlt)
        obtain ⟨nm, a, ws, bk, ks, vw, vk, he, h0, x0, x1, x2, x3, x4, hw, hks⟩ := (hf.get k hlt).un
        have hcn := cnt_get l k hlt
        have hck := chk_get hchk.out k hlt
        have hpt := prt_take d l k hlt
        have hpl : (prtL d (toL (l.take (k + 1)))).length ≤ (prtL d (toL l)).length := by
          conv => rhs; rw [← List.take_append_drop (k + 1) l, toL_append, prtL_append, List.length_append]
          omega
        rw [he] at hcn hck hpt
        simp only [cntN] at hcn
        obtain ⟨⟨w8, _, hfw⟩, hk0, hd6, hkk⟩ := chk_un hck
        have hfw := Lib.hid hfw
        have hkk := Lib.hid hkk
        obtain ⟨kp, kc, rfl, hks⟩ := hks
        obtain ⟨wp, wc, rfl, hws⟩ := hw
        have lg := hS g h0
        have hkv : NsV S w0 (.slice kp ks.length kc) ks := ⟨kp, kc, rfl, hks⟩
        have hwv : WsV S w0 (.slice wp ws.length wc) ws := ⟨wp, wc, rfl, hws⟩
        have HKV := Lib.hid hkv
        have ch : ∀ W, Below w0.heap.size w0 W → Calls Tryz.prog 22 #[.agg #[.string nm, .int .i64 a, .slice wp ws.length wc, .bool bk, .slice kp ks.length kc]] W fun e w' => ∃ v, e = .returned v ∧ OneC 9 1 W w' v (ws.length + 1) (strs (nm :: ws.map wtx)) := fun W hB =>
          head_any nm a ws bk wp wc kp ks.length kc S W (hwv.kept ((Stay.below hB).mono hS)) (fun x hx => Nat.lt_of_lt_of_le (hS x hx) hB.size) (P0.out.kept hB) w8 hfw
        replace x0 := (B1.cell (p := ⟨g, _, none⟩) lg).trans x0
        replace x1 := (B1.cell (p := ⟨g, _, none⟩) lg).trans x1
        replace x2 := (B1.cell (p := ⟨g, _, none⟩) lg).trans x2
        replace x3 := (B1.cell (p := ⟨g, _, none⟩) lg).trans x3
        replace x4 := (B1.cell (p := ⟨g, _, none⟩) lg).trans x4
        have HQ : Hid (ws.length ≤ 8) := Lib.hid w8
        have HP := Lib.hid hpt
        have hpz : bl.length + (prtL d (toL (l.take k))).length + (prtN d (toN (.mk nm a ws bk ks))).length + 400 ≤ 999000 := by
          rw [hpt, List.length_append] at hpl; omega
        obtain ⟨bl', hbl'⟩ : ∃ x, bl ++ prtL d (toL (l.take k)) = x := ⟨_, rfl⟩
        have hbz : bl.length + (prtL d (toL (l.take k))).length = bl'.length := by rw [← hbl']; simp
        rw [hbl'] at hbu
        rw [hbz] at hpz
        have HBL : Hid (bl ++ prtL d (toL (l.take (k + 1))) = bl' ++ prtN d (toN (.mk nm a ws bk ks))) := Lib.hid (by rw [hpt, ← hbl', List.append_assoc])
        clear hks hws hf he hkv hwv hck hpt hpl hbz hbl' HP
        have lg' := Nat.lt_of_lt_of_le lg B1.size
        have HBB := Lib.hid hbu.lt
        go_upto_region 3 with fail
        have KB := Box.new wr #[.string nm, .int .i64 a, .slice wp ws.length wc, .bool bk, .slice kp ks.length kc] 50
        have BA := balloc B1 (.cells #[.string nm, .int .i64 a, .slice wp ws.length wc, .bool bk, .slice kp ks.length kc] 50)
        replace hbu := hbu.kept (balloc (Below.refl _ _) (.cells #[.string nm, .int .i64 a, .slice wp ws.length wc, .bool bk, .slice kp ks.length kc] 50))
        have HKB0 : Hid (Blk (wr.alloc (.cells #[.string nm, .int .i64 a, .slice wp ws.length wc, .bool bk, .slice kp ks.length kc] 50)) wr.heap.size 50 #[.string nm, .int .i64 a, .slice wp ws.length wc, .bool bk, .slice kp ks.length kc]) := Lib.hid (Blk.at_ rfl)
        generalize wr.alloc (.cells #[.string nm, .int .i64 a, .slice wp ws.length wc, .bool bk, .slice kp ks.length kc] 50) = W1 at *
        have hbb : b < wr.heap.size := HBB.out
        generalize wr.heap.size = b7 at *
        clear x0 x1 x2 x3 x4 lg'
        obtain ⟨z1, c0, c1, c2, c3, c4, _⟩ := id KB.five
        have hbl1 := hbu.lt
        go_upto_region 4 with (first | (go_at_call 22; refine (ch _ BA).mono ?_; rintro e w2 ⟨v, rfl, X⟩) | fail)
        have hq1 : (nm :: ws.map wtx).length = ws.length + 1 := by simp
        have hBW : w0.heap.size ≤ W1.heap.size := BA.size
        obtain ⟨e1, _, _, _, e3, _, _⟩ := id (KB.kept X.below).five
        have HKB : Hid (Blk W1 b7 50 #[.string nm, .int .i64 a, .slice wp ws.length wc, .bool bk, .slice kp ks.length kc]) := HKB0
        clear c0 c1 c2 c3 c4 z1
        cases bk with
        | false =>
          have hks0 := hk0 rfl
          subst hks0
          obtain ⟨r, y, hry, hrl⟩ := strs_last nm (ws.map wtx)
          have hjz := join_size r y
          rw [show bys (r ++ [y]) = bys (nm :: ws.map wtx) by rw [hry], join_head] at hjz
          have hpn := line_shut d nm a ws []
          have hpz2 : bl'.length + 200 + (nm.data.toList ++ (prtWs (ws.map toW) ++ [59])).length + 1 ≤ 1000000 ∧ y.size ≤ 1000000 := by
            rw [hpn] at hpz
            simp at hpz hjz ⊢
            omega
          obtain ⟨u, eu, zu, su⟩ := Yl.sum_two y ⟨#[59]⟩ hpz2.2 (by decide)
          have eu' : u.data.toList = y.data.toList ++ [59] := eu
          have hJ := join_shut nm ws r y u hry eu'
          have X0 := X
          rw [hry] at X
          obtain ⟨gs, sc, cur, rfl, hgs, hgh, hle, hll, hcs⟩ := X.texts (by omega)
          have hrq : r.length = ws.length := by simpa using hrl
          have KG : Blk w2 gs 9 cur := hgh
          have cq := KG.cell ws.length
          rw [hcs ws.length y (by rw [← hrq]; simp)] at cq
          have fq := KG.frz ws.length
          have gl := KG.lt
          have HX := Lib.hid X0.below
          have K3 := blk_put (j := ws.length) KG (.string u)
          have HB3 : Hid (Below W1.heap.size W1 (w2.setCell ⟨gs, ws.length, none⟩ (.string u))) := Lib.hid (X0.below.setCell (p := ⟨gs, ws.length, none⟩) hgs _)
          have cl := line_any w0.heap.size b gs 0 sc d bl' (r ++ [u]) (cur.setIfInBounds ws.length (.string u)) (0, 0) _ (hbu.kept HB3.out) (Nat.le_trans hBW HB3.out.size) (by omega) K3 (by omega) (by simp; omega) (by have := HQ.out; simp; omega) (fun j x hj => by
            rw [Nat.zero_add]
            rcases Nat.lt_trichotomy j ws.length with q | q | q
            · rw [List.getElem?_append_left (by omega)] at hj
              rw [Array.getElem?_setIfInBounds_ne (by omega)]
              exact hcs j x (by rw [List.getElem?_append_left (by omega)]; exact hj)
            · subst q
              rw [← hrq] at hj
              simp at hj
              subst hj
              have : ws.length < cur.size := (Array.getElem?_eq_some_iff.1 (hcs ws.length y (by rw [← hrq]; simp))).1
              simp [this]
            · rw [List.getElem?_eq_none (by simp; omega)] at hj; cases hj) (by
            show bl'.length + 200 + (Lib.join (bys (r ++ [u])) [32]).length + 1 ≤ _
            rw [hJ]; exact hpz2.1)
          rw [show (r ++ [u]).length = ws.length + 1 by simp [hrq]] at cl
          have CL := Lib.hid cl
          have BAA := Lib.hid BA
          have HPN : Hid (prtN d (toN (.mk nm a ws false [])) = Ym.mar d ++ (Lib.join ((r ++ [u]).map (·.data.toList)) [32] ++ [10])) := Lib.hid (by rw [hpn, ← hJ]; rfl)
          clear cl hJ hjz hpz hpz2 hbu KG K3 hgh hcs X X0 hpn eu zu ch ih HX
          go_upto_region 6 with fail
          generalize w2.setCell ⟨gs, ws.length, none⟩ (.string u) = w3 at *
          go_wp2_with fail
          refine CL.out.mono ?_
          rintro e w4 ⟨rfl, hb4, hB4, ho4⟩
          clear CL
          go_wp2_with fail
          go_roundw
          case rel => exact ⟨k + 1, by omega, by go_num, by rw [HBL.out, HPN.out]; exact hb4, (BAA.out.trans (HB3.out.mono hBW)).trans hB4⟩
          case measure => simp [intOf]; omega
        | true =>
          have hpn := line_open d nm a ws ks
          have hJ := join_open nm ws
          have hpz2 : bl'.length + 200 + (nm.data.toList ++ (prtWs (ws.map toW) ++ [32, 123])).length + 1 ≤ 1000000 ∧ bl'.length + (Ym.mar d ++ ((nm.data.toList ++ (prtWs (ws.map toW) ++ [32, 123])) ++ [10])).length + (prtL (d + 1) (toL ks)).length + (Ym.mar d ++ ([125] ++ [10])).length + 400 ≤ 999000 := by
            rw [hpn] at hpz
            simp at hpz ⊢
            omega
          have HZ := Lib.hid hpz2
          have HJ := Lib.hid hJ
          have HPN := Lib.hid hpn
          have KBl : Blk W1 b7 50 #[.string nm, .int .i64 a, .slice wp ws.length wc, .bool true, .slice kp ks.length kc] := HKB.out
          have HKBl := Lib.hid KBl
          have HBU := Lib.hid hbu
          have h8 := HQ.out
          clear hpz hpz2 hJ hpn hbu KBl ch
          go_upto_region 7 with fail
          go_wp2_with (first | (at_builtin; refine put_c 52 underS infoS (by rfl) (by decide) (by go_simp) _ _ rfl (X.kept (balloc (Below.refl _ _) _)) rfl rfl (holds_one (EL := 9) (Blk.at_ rfl) rfl (one_str _)) (by omega) (by unfold maxLen; omega) ?_))
          intro V3 w3 X3 _
          have X3' : OneC 9 1 W1 w3 V3 (ws.length + 1 + 1) (strs (nm :: ws.map wtx ++ [⟨#[123]⟩])) := by rw [strs_snoc]; exact X3
          obtain ⟨gs, sc, cur, rfl, hgs, hgh, hle, hll, hcs⟩ := X3'.texts (by omega)
          have HB3 : Hid (Below W1.heap.size W1 w3) := Lib.hid X3'.below
          have cl := line_any w0.heap.size b gs 0 sc d bl' (nm :: ws.map wtx ++ [⟨#[123]⟩]) cur (0, 0) _ (HBU.out.kept HB3.out) (Nat.le_trans hBW HB3.out.size) (by omega) hgh (by omega) (by rw [hll]; omega) (by rw [hll]; omega) (fun j x hj => by rw [Nat.zero_add]; exact hcs j x hj) (by
            show bl'.length + 200 + (Lib.join (bys (nm :: ws.map wtx ++ [⟨#[123]⟩])) [32]).length + 1 ≤ _
            rw [HJ.out]; exact HZ.out.1)
          rw [hll] at cl
          have CL := Lib.hid cl
          have BAA := Lib.hid BA
          have hgl := (Array.getElem?_eq_some_iff.1 hgh).1
          clear cl X X3 X3' hgh hcs
          go_wp2_with fail
          refine CL.out.mono ?_
          rintro e w4 ⟨rfl, hb4, hB4, ho4⟩
          clear CL
          have K4 : Blk w4 b7 50 #[.string nm, .int .i64 a, .slice wp ws.length wc, .bool true, .slice kp ks.length kc] := ho4 b7 _ (HKBl.out.kept HB3.out) (by intro e; injection e with e; omega) (by intro c fz e; injection e with _ e _; exact absurd e (by decide))
          have k4 := K4.cell 4
          have kl := K4.lt
          have B4 := (BAA.out.trans (HB3.out.mono hBW)).trans hB4
          have hb4' : Bu w0.heap.size b (bl' ++ (Ym.mar d ++ ((nm.data.toList ++ (prtWs (ws.map toW) ++ [32, 123])) ++ [10]))) w4 := by
            rw [← HJ.out]; exact hb4
          have ci : Calls Tryz.prog 13 #[.slice kp ks.length kc, .int .i64 ((d : Int) + 1), .func (.func 14) #[.pointer (some ⟨b, 0, none⟩)] #[]] w4 _ := ih ks _ w4 (d + 1) _ (by omega) HKV.out B4 hb4' hkk (by have := hd6 (by simp); omega) (by have := HZ.out.2; simp at this ⊢; omega)
          have CI := Lib.hid ci
          clear ci hb4 hb4' hB4 ho4 K4 ih
          simp at k4
          go_wp2_with fail
          refine CI.out.mono ?_
          rintro e w5 ⟨rfl, hb5, B5⟩
          clear CI k4 kl
          have h05 := B5.size
          have cl := line_any w0.heap.size b w5.heap.size 0 1 d _ [⟨#[125]⟩] #[.string ⟨#[125]⟩] (0, 0) (w5.alloc (.cells #[.string ⟨#[125]⟩] 9)) (hb5.kept (balloc (Below.refl _ _) _)) (by simp; omega) (by omega) (Yg.Blk.at_ rfl) (by have := hb5.lt; omega) (by simp) (by simp) (fun j x hj => by
            match j, hj with
            | 0, hj => simp at hj; subst hj; rfl) (by
            have := HZ.out.2
            rw [show ([(⟨#[125]⟩ : ByteArray)].map (·.data.toList)) = [[125]] from rfl, Lib.join_one]
            simp at this ⊢
            omega)
          rw [show ([(⟨#[125]⟩ : ByteArray)].map (·.data.toList)) = [[125]] from rfl, Lib.join_one] at cl
          have CL := Lib.hid cl
          have hb5l := hb5.lt
          clear cl hb5
          go_wp2_with fail
          refine CL.out.mono ?_
          rintro e w6 ⟨rfl, hb6, hB6, ho6⟩
          clear CL
          go_wp2_with fail
          go_roundw
          case rel => exact ⟨k + 1, by omega, by go_num, by rw [HBL.out, HPN.out]; simpa using hb6, (B5.trans ((balloc (Below.refl _ _) _).mono h05)).trans hB6⟩
          case measure => simp [intOf]; omega
      · obtain rfl : k = l.length := by omega
        rw [List.take_length] at hbu
        go_wp2_with fail
        refine bodyPost_end (v := .tuple #[]) (by simp [results, Tryz.results13, go_sem]) rfl ⟨rfl, hbu, B1⟩

end Go.Proofs.YtabhbcedldjjjaaGreatDoor.Yg

namespace Go.Proofs.YtabhbcedldjjjaaGreatDoor.Yg
set_option linter.unusedSimpArgs false
set_option linter.unusedVariables false
open Go Go.RowKit Go.Proofs.YtabhbcedldjjjaaGreatDoor.Zm Go.Proofs.YtabhbcedldjjjaaGreatDoor.Ym Go.Proofs.YtabhbcedldjjjaaGreatDoor.Bn

theorem tkL_append (l m : List NI) : tkL (l ++ m) = tkL l + tkL m := by
  induction l with
  | nil => simp [tkL]
  | cons n l ih => simp only [List.cons_append, tkL, ih]; omega
theorem tkL_take_le (l : List NI) (k : Nat) : tkL (l.take k) ≤ tkL l := by
  have := tkL_append (l.take k) (l.drop k)
  rw [List.take_append_drop] at this
  omega
theorem tkL_mem (l : List NI) (k : Nat) (hk : k < l.length) : tkN l[k] ≤ tkL l := by
  have := tkL_take l k hk
  have := tkL_take_le l (k + 1)
  omega

set_option maxHeartbeats 2000000
set_option maxRecDepth 100000 in
theorem tokensI_any (N : Nat) (hN : N ≤ 1000000) : ∀ (l : List NI) (v : Value) (S : Nat → Prop) (w : World), cntL l < N → tkL l ≤ 2000000000000 → NsV S w v l → (∀ b, S b → b < w.heap.size) →
    Calls Tryz.prog 12 #[v] w fun e w' => e = .returned (.int .i64 (tkL l)) ∧ Below w.heap.size w w' := by
  induction N with
  | zero => intro l v S w h; omega
  | succ N ih =>
    intro l v S w hc ht hv hS
    have ih := ih (by omega)
    obtain ⟨ptr, cap, rfl, hl⟩ := hv
    have HL := Lib.hid hl
    have hlen := cnt_len l
    clear hl
    go_enter Tryz.func12, Tryz.ntmps12
    go_wp2_with fail
    go_loopw [3, 8] (fun M I wr => ∃ k : Nat, k ≤ l.length ∧ I = .int .i64 k ∧ M = .int .i64 (tkL (l.take k)) ∧ Below w.heap.size w wr) (fun _ I _ => l.length - (intOf I).toNat)
    case atStart => exact ⟨0, by omega, rfl, by simp [tkL], Below.refl _ _⟩
    case round =>
      obtain ⟨k, hk, rfl, rfl, B1⟩ := hrel
      by_cases hlt : k < l.length
      · obtain ⟨g, o, rfl, hf⟩ := HL.out.resolve_left (by intro e; rw [e] at hlt; simp at hlt)
        obtain ⟨nm, a, ws, b, ks, vw, vk, he, h0, x0, x1, x2, x3, x4, hw, hks⟩ := (hf.get k hlt).un
        have hcn := cnt_get l k hlt
        have hD := tkL_take l k hlt
        have hD2 := tkL_take_le l (k + 1)
        rw [he] at hcn hD
        simp only [cntN] at hcn
        simp only [tkN] at hD
        obtain ⟨kp, kc, rfl, hks⟩ := hks
        have lg := hS g h0
        have ck : ∀ W, Below w.heap.size w W → Calls Tryz.prog 12 #[.slice kp ks.length kc] W fun e w' => e = .returned (.int .i64 (tkL ks)) ∧ Below W.heap.size W w' := fun W hB =>
          ih ks _ S W (by omega) (by omega) (NsV.on (W := w) ⟨kp, kc, rfl, hks⟩ hS hB) (fun b hb => Nat.lt_of_lt_of_le (hS b hb) hB.size)
        replace x0 := (B1.cell (p := ⟨g, _, none⟩) lg).trans x0
        replace x1 := (B1.cell (p := ⟨g, _, none⟩) lg).trans x1
        replace x2 := (B1.cell (p := ⟨g, _, none⟩) lg).trans x2
        replace x3 := (B1.cell (p := ⟨g, _, none⟩) lg).trans x3
        replace x4 := (B1.cell (p := ⟨g, _, none⟩) lg).trans x4
        obtain ⟨wp, wc, rfl, _⟩ := hw
        obtain ⟨T, hT⟩ : ∃ T, tkL (l.take k) = T := ⟨_, rfl⟩
        obtain ⟨T2, hT2⟩ : ∃ T, tkL ks = T := ⟨_, rfl⟩
        obtain ⟨q, hq⟩ : ∃ q, ws.length = q := ⟨_, rfl⟩
        rw [hT, hT2, hq] at hD
        rw [hT]
        rw [hT2] at ck
        rw [hq] at x2
        clear hks hf ih he
        have lg' := Nat.lt_of_lt_of_le lg B1.size
        cases b with
        | true =>
          simp only [if_true] at hD
          have HD := Lib.hid hD
          have hb1 : T + q + 3 + T2 ≤ 2000000000000 := by omega
          clear hD hD2
          go_wp2_with fail
          refine (ck _ (balloc B1 _)).mono ?_
          rintro e w2 ⟨rfl, hb⟩
          have B2 := bthen (balloc B1 _) hb
          clear hb
          go_wp2_with fail
          go_roundw
          case rel => exact ⟨k + 1, by omega, by go_num, by congr 1; have := HD.out; omega, B2⟩
          case measure => simp [intOf]; omega
        | false =>
          simp only [Bool.false_eq_true, if_false] at hD
          have HD := Lib.hid hD
          have hb1 : T + q + 3 + T2 ≤ 2000000000001 := by omega
          clear hD hD2
          go_wp2_with fail
          refine (ck _ (balloc B1 _)).mono ?_
          rintro e w2 ⟨rfl, hb⟩
          have B2 := bthen (balloc B1 _) hb
          clear hb
          go_wp2_with fail
          go_roundw
          case rel => exact ⟨k + 1, by omega, by go_num, by congr 1; have := HD.out; omega, B2⟩
          case measure => simp [intOf]; omega
      · obtain rfl : k = l.length := by omega
        have hD : tkL (l.take l.length) = tkL l := by rw [List.take_length]
        rw [hD]
        go_wp2_with fail
        go_ret
        exact ⟨rfl, B1⟩

end Go.Proofs.YtabhbcedldjjjaaGreatDoor.Yg

namespace Go.Proofs.YtabhbcedldjjjaaGreatDoor.Yg
set_option linter.unusedSimpArgs false
set_option linter.unusedVariables false
open Go Go.RowKit Go.Proofs.YtabhbcedldjjjaaGreatDoor.Zm Go.Proofs.YtabhbcedldjjjaaGreatDoor.Ym Go.Proofs.YtabhbcedldjjjaaGreatDoor.Bn Go.Proofs.YtabhbcedldjjjaaGreatDoor.Zp Go.Proofs.YtabhbcedldjjjaaGreatDoor.Zk
open Go.Proofs.YtabhbcedldjjjaaGreatDoor.Zbp (Bu Oth Len_any String_any)

set_option maxHeartbeats 4000000

theorem name_len {s : List UInt8} (h : Zm.name s = true) : s.length ≤ 16 := by
  have := text_len (t := ⟨1, 0, 0, s⟩) (.inl ⟨rfl, rfl, h⟩)
  simpa [text] using this
theorem prtWs_len : ∀ ws : List Wd, (∀ w ∈ ws, WdFine w) → (prtWs ws).length ≤ 17 * ws.length
  | [], _ => by simp [prtWs]
  | w :: ws, h => by
    have h1 := text_len (wtk_fine (h w (by simp)))
    have h2 := prtWs_len ws (fun w hw => h w (by simp [hw]))
    simp only [prtWs, wtk_text, List.length_append, List.length_cons]
    omega
mutual
theorem prtN_len (d : Nat) (hd : d ≤ 7) : ∀ n : Nd, RightN d n → (prtN d n).length ≤ 200 * countN n
  | .mk nm a ws b ks, h => by
    obtain ⟨h1, h2, h3, h4, h5, h6⟩ := h
    have e1 := name_len h1
    have e2 := prtWs_len ws h3
    cases b with
    | true =>
      have hd6 := h5 rfl
      have e3 := prtL_len (d + 1) (by omega) ks h6
      simp [prtN, countN, Ym.mar]
      omega
    | false =>
      simp [prtN, countN, Ym.mar]
      omega
theorem prtL_len (d : Nat) (hd : d ≤ 7) : ∀ l : List Nd, RightL d l → (prtL d l).length ≤ 200 * countL l
  | [], _ => by simp [prtL]
  | n :: l, h => by
    have h1 := prtN_len d hd n h.1
    have h2 := prtL_len d hd l h.2
    simp only [prtL, countL, List.length_append]
    omega
end
mutual
theorem cnt_toN : ∀ n : NI, countN (toN n) = cntN n
  | .mk _ _ _ _ ks => by simp only [toN, countN, cntN, cnt_toL ks]
theorem cnt_toL : ∀ l : List NI, countL (toL l) = cntL l
  | [] => rfl
  | n :: l => by simp only [toL, countL, cntL, cnt_toN n, cnt_toL l]
end
/-- what Print tells -/
noncomputable def printI (l : List NI) : ByteArray × Nat :=
  if chkL 0 l ≠ 0 then (⟨#[]⟩, chkL 0 l) else if 8192 < tkL l then (⟨#[]⟩, 6) else if 65536 < (prtL 0 (toL l)).length then (⟨#[]⟩, 6) else (⟨(prtL 0 (toL l)).toArray⟩, 0)

set_option maxRecDepth 100000 in
theorem Print_any (l : List NI) (v : Value) (S : Nat → Prop) (w : World) (r : ByteArray × Nat) (hc : cntL l ≤ 4000) (hws : WsL 1000000 l) (hwf : WfL l) (hv : NsV S w v l) (hS : ∀ b, S b → b < w.heap.size) (P : Pows w) (hr : Hid (printI l = r)) :
    Calls Tryz.prog 6 #[v] w fun e w' => e = .returned (.tuple #[.string r.1, .int .i64 r.2]) ∧ Below w.heap.size w w' := by
  obtain ⟨vp, vc, rfl, hl⟩ := hv
  have hv : NsV S w (.slice vp l.length vc) l := ⟨vp, vc, rfl, hl⟩
  have ck := Check_any l (.slice vp l.length vc) S w (by omega) hv hS hwf P
  have htk := tk_fewL l 1000000 hws
  have ct := fun W (hB : Below w.heap.size w W) => tokensI_any 5000 (by omega) l (.slice vp l.length vc) S W (by omega) (by omega) (hv.on hS hB) (fun b hb => Nat.lt_of_lt_of_le (hS b hb) hB.size)
  obtain ⟨e, he⟩ : ∃ e, chkL 0 l = e := ⟨_, rfl⟩
  rw [he] at ck
  have HV := Lib.hid hv
  have HP := Lib.hid P
  clear hl hv hwf P
  by_cases h0 : e = 0
  · subst h0
    obtain ⟨T, hT⟩ : ∃ T, tkL l = T := ⟨_, rfl⟩
    rw [hT] at htk
    simp only [hT] at ct
    have hright := (chk_rightL 0 l (by omega) he).1
    have hlen := prtL_len 0 (by omega) (toL l) hright
    rw [cnt_toL] at hlen
    have HE := Lib.hid he
    clear hright
    by_cases h1 : 8192 < T
    · have d1 : decide ((8192 : Int) < (T : Int)) = true := decide_eq_true (by omega)
      have d1' : decide (8192 < T) = true := decide_eq_true h1
      have HI : Hid (printI l = (⟨#[]⟩, 6)) := Lib.hid (by rw [printI, if_neg (by rw [he]; decide), if_pos (by rw [hT]; exact h1)])
      clear he hT
      go_enter Tryz.func6, Tryz.ntmps6
      go_wp2_with fail
      refine ck.mono ?_
      rintro e w1 ⟨rfl, hb1⟩
      go_wp2_with fail
      refine (ct _ hb1).mono ?_
      rintro e w2 ⟨rfl, hb2⟩
      have B2 := bthen hb1 hb2
      clear hb1 hb2 ct ck
      go_wp2_with fail
      refine bodyPost_ret (v := .tuple #[.string ⟨#[]⟩, .int .i64 6]) (by simp [results, Tryz.results6, go_sem]) rfl ?_
      rw [← hr.out, HI.out]
      exact ⟨rfl, B2⟩
    · have d1 : decide ((8192 : Int) < (T : Int)) = false := decide_eq_false (by omega)
      have d1' : decide (8192 < T) = false := decide_eq_false h1
      obtain ⟨X, hX⟩ : ∃ X, prtL 0 (toL l) = X := ⟨_, rfl⟩
      have HX := Lib.hid hX
      rw [hX] at hlen
      have HT := Lib.hid hT
      clear hT he
      go_enter Tryz.func6, Tryz.ntmps6
      go_wp2_with fail
      refine ck.mono ?_
      rintro e w1 ⟨rfl, hb1⟩
      go_wp2_with fail
      refine (ct _ hb1).mono ?_
      rintro e w2 ⟨rfl, hb2⟩
      have B2 := bthen hb1 hb2
      have hbu : Bu w2.heap.size w2.heap.size [] (w2.alloc (.cells #[.pointer none, .slice none 0 0] 39)) := Lib.fresh_isBuilder _ _ _
      have cw := write_any w2 w2.heap.size S (fun x hx => Nat.lt_of_lt_of_le (hS x hx) B2.size) (Lib.hid (HP.out.kept B2)) 5000 (by omega) l (.slice vp l.length vc) (w2.alloc (.cells #[.pointer none, .slice none 0 0] 39)) 0 [] (by omega) (HV.out.on hS B2) (balloc (Below.refl _ _) _) hbu HE (by omega) (by rw [HX.out]; simp; omega)
      rw [HX.out, List.nil_append] at cw
      unfold lineV at cw
      have cw : Calls Tryz.prog 13 #[.slice vp l.length vc, .int .i64 0, .func (.func 14) #[.pointer (some ⟨w2.heap.size, 0, none⟩)] #[]] _ _ := cw
      have CW := Lib.hid cw
      clear cw hb1 hb2 ct ck hbu
      go_wp2_with fail
      refine CW.out.mono ?_
      rintro e w3 ⟨rfl, hb3, B3⟩
      have hl3 := Len_any _ _ _ w3 hb3
      have hs3 := String_any _ _ _ w3 hb3 B3.size
      have B4 := bthen B2 B3
      have hlt := hb3.lt
      clear CW hb3
      by_cases h2 : 65536 < X.length
      · have d2 : decide ((65536 : Int) < (X.length : Int)) = true := decide_eq_true (by omega)
        have d2' : decide (65536 < X.length) = true := decide_eq_true h2
        have HI : Hid (printI l = (⟨#[]⟩, 6)) := Lib.hid (by rw [printI, if_neg (by rw [HE.out]; decide), if_neg (by rw [HT.out]; exact h1), if_pos (by rw [HX.out]; exact h2)])
        clear hX
        go_wp2_with fail
        refine hl3.mono ?_
        rintro e w4 ⟨rfl, rfl⟩
        go_wp2_with fail
        refine bodyPost_ret (v := .tuple #[.string ⟨#[]⟩, .int .i64 6]) (by simp [results, Tryz.results6, go_sem]) rfl ?_
        rw [← hr.out, HI.out]
        exact ⟨rfl, B4⟩
      · have d2 : decide ((65536 : Int) < (X.length : Int)) = false := decide_eq_false (by omega)
        have d2' : decide (65536 < X.length) = false := decide_eq_false h2
        have HI : Hid (printI l = (⟨X.toArray⟩, 0)) := Lib.hid (by rw [printI, if_neg (by rw [HE.out]; decide), if_neg (by rw [HT.out]; exact h1), HX.out, if_neg h2])
        clear hX
        go_wp2_with fail
        refine hl3.mono ?_
        rintro e w4 ⟨rfl, rfl⟩
        go_wp2_with fail
        refine hs3.mono ?_
        rintro e w5 ⟨rfl, hb5⟩
        have B5 := bthen B2 (B3.trans hb5)
        go_wp2_with fail
        refine bodyPost_ret (v := .tuple #[.string ⟨X.toArray⟩, .int .i64 0]) (by simp [results, Tryz.results6, go_sem]) rfl ?_
        rw [← hr.out, HI.out]
        exact ⟨rfl, B5⟩
  · have d1 : ((e : Int) != 0) = true := by
      have : ((e : Int) == 0) = false := beq_eq_false_iff_ne.2 (by omega)
      simp [bne, this]
    have HI : Hid (printI l = (⟨#[]⟩, e)) := Lib.hid (by rw [printI, if_pos (by rw [he]; exact h0), he])
    clear he
    go_enter Tryz.func6, Tryz.ntmps6
    go_wp2_with fail
    refine ck.mono ?_
    rintro x w1 ⟨rfl, hb1⟩
    go_wp2_with fail
    refine bodyPost_ret (v := .tuple #[.string ⟨#[]⟩, .int .i64 e]) (by simp [results, Tryz.results6, go_sem]) rfl ?_
    rw [← hr.out, HI.out]
    exact ⟨rfl, hb1⟩

end Go.Proofs.YtabhbcedldjjjaaGreatDoor.Yg

namespace Go.Proofs.YtabhbcedldjjjaaGreatDoor.Yg
set_option linter.unusedSimpArgs false
set_option linter.unusedVariables false
open Go Go.RowKit Go.Proofs.YtabhbcedldjjjaaGreatDoor.Zm Go.Proofs.YtabhbcedldjjjaaGreatDoor.Ym Go.Proofs.YtabhbcedldjjjaaGreatDoor.Bn Go.Proofs.YtabhbcedldjjjaaGreatDoor.Zp Go.Proofs.YtabhbcedldjjjaaGreatDoor.Zk Go.Proofs.YtabhbcedldjjjaaGreatDoor.Yp Go.Proofs.YtabhbcedldjjjaaGreatDoor.Zr

set_option maxHeartbeats 4000000

theorem prtWs_emb (ws : List Wd) : prtWs ((ws.map embW).map toW) = prtWs ws := by
  induction ws with
  | nil => rfl
  | cons w ws ih =>
    obtain ⟨m, n, s, a⟩ := w
    simp only [List.map_cons, prtWs, ih, prtW, embW, toW]
    simp
theorem flatW_emb (ws : List Wd) : ((ws.map embW).map toW).map flatW = ws.map flatW := by
  induction ws with
  | nil => rfl
  | cons w ws ih =>
    obtain ⟨m, n, s, a⟩ := w
    simp only [List.map_cons, ih, flatW, embW, toW]
    simp
mutual
theorem prt_embN (d : Nat) : ∀ n : Nd, prtN d (toN (embN n)) = prtN d n
  | .mk nm a ws b ks => by
    have := prt_embL (d + 1) ks
    simp only [embN, toN, prtN, prtWs_emb, this]
theorem prt_embL (d : Nat) : ∀ l : List Nd, prtL d (toL (embL l)) = prtL d l
  | [] => rfl
  | n :: l => by simp only [embL, toL, prtL, prt_embN d n, prt_embL d l]
end
mutual
theorem flat_embN : ∀ n : Nd, flatN (toN (embN n)) = flatN n
  | .mk nm a ws b ks => by
    have := flat_embL ks
    simp only [embN, toN, flatN, flatW_emb, this]
theorem flat_embL : ∀ l : List Nd, flatL (toL (embL l)) = flatL l
  | [] => rfl
  | n :: l => by simp only [embL, toL, flatL, flat_embN n, flat_embL l]
end
/-- items that were read, written -/
theorem print_read {l : List Nd} (h : RightL 0 l) (hl : (flatL l).length ≤ 8192) : printI (embL l) = if 65536 < (prtL 0 l).length then (⟨#[]⟩, 6) else (⟨(prtL 0 l).toArray⟩, 0) := by
  have hc := chk_embL 0 l h
  have hr := (chk_rightL 0 (embL l) (by omega) hc).1
  have ht := tk_flatL (embL l) 0 hr
  rw [flat_embL] at ht
  rw [printI, if_neg (by rw [hc]; decide), if_neg (by omega), prt_embL]
/-- what Canon tells -/
noncomputable def canonR (s : ByteArray) : ByteArray × Nat × Nat :=
  match parseR s with
  | .error (er, q) => (⟨#[]⟩, q, er)
  | .ok l => if 65536 < (prtL 0 l).length then (⟨#[]⟩, 0, 6) else (⟨(prtL 0 l).toArray⟩, 0, 0)

set_option maxRecDepth 100000 in
theorem Canon_any (s : ByteArray) (w : World) (r : ByteArray × Nat × Nat) (hm : s.size ≤ maxLen) (P : Pows w) (hc : Hid (∀ l, parseR s = .ok l → countL l ≤ 4000)) (hr : Hid (canonR s = r)) :
    Calls Tryz.prog 8 #[.string s] w fun e w' => e = .returned (.tuple #[.string r.1, .int .i64 r.2.1, .int .i64 r.2.2]) ∧ Below w.heap.size w w' := by
  obtain ⟨R, hR⟩ : ∃ R, parseR s = R := ⟨_, rfl⟩
  have cp := Parse_any s w R hm (Lib.hid hR)
  cases R with
  | error x =>
    obtain ⟨er, q⟩ := x
    have d3 : ((er : Int) != 0) = true := by rcases Yl.parseR_er hR with rfl | rfl | rfl <;> rfl
    have HI : Hid (r = (⟨#[]⟩, q, er)) := Lib.hid (by rw [← hr.out, canonR, hR])
    clear hR hm hc
    go_enter Tryz.func8, Tryz.ntmps8
    go_wp2_with fail
    refine cp.mono ?_
    rintro e w1 ⟨rfl, hb⟩
    go_wp2_with fail
    refine bodyPost_ret (v := .tuple #[.string ⟨#[]⟩, .int .i64 q, .int .i64 er]) (by simp [results, Tryz.results8, go_sem]) rfl ?_
    rw [HI.out]
    exact ⟨rfl, hb⟩
  | ok l =>
    have hcl := hc.out l hR
    have hs65 : s.size ≤ 65536 := by
      rw [parseR] at hR
      split at hR
      · cases hR
      · omega
    have hR' : parse (by_ s) = .ok l := by
      rw [parseR, if_neg (by omega)] at hR
      exact hR
    obtain ⟨ta, hta⟩ := Yl.parseR_cut_ok hR
    obtain ⟨hcs, hcut⟩ := cutR_ok hta
    obtain ⟨pa1, pa2, _, pa4, pa5⟩ := parse_right hR' hcut
    have hfl : (flatL l).length ≤ 8192 := by
      have := (cut_tokens _ _ _ _ _ (Nat.le_refl _) hcut).2.2 (by omega)
      rw [pa2, List.length_map]
      omega
    have hpr := print_read pa1 hfl
    obtain ⟨p, hp⟩ : ∃ p, printI (embL l) = p := ⟨_, rfl⟩
    have HI : Hid (r = (p.1, 0, p.2)) := Lib.hid (by
      rw [← hr.out, canonR, hR]
      simp only
      rw [← hp, hpr]
      split <;> rfl)
    have HW := Lib.hid (ws_embL 0 l pa1)
    have HF := Lib.hid (wf_embL 0 l pa1)
    have HP := Lib.hid hp
    have hce : cntL (embL l) ≤ 4000 := by rw [cnt_embL]; exact hcl
    clear hR hR' hta hcs hcut pa1 pa2 pa4 pa5 hfl hpr hp hc hm
    go_enter Tryz.func8, Tryz.ntmps8
    go_wp2_with fail
    refine cp.mono ?_
    rintro e w1 ⟨v, S, rfl, hb, hN, hS⟩
    have cq := Print_any (embL l) v S w1 p hce HW.out HF.out (nsV_emb hN) (fun b h => (hS b h).2) (P.kept hb) HP
    clear hN hS cp
    go_wp2_with fail
    refine cq.mono ?_
    rintro e w2 ⟨rfl, hb2⟩
    have B2 := bthen hb hb2
    go_wp2_with fail
    refine bodyPost_ret (v := .tuple #[.string p.1, .int .i64 0, .int .i64 p.2]) (by simp [results, Tryz.results8, go_sem]) rfl ?_
    rw [HI.out]
    exact ⟨rfl, B2⟩

end Go.Proofs.YtabhbcedldjjjaaGreatDoor.Yg

namespace Go.Proofs.YtabhbcedldjjjaaGreatDoor.Yl
set_option linter.unusedSimpArgs false
set_option linter.unusedVariables false
open Go Go.RowKit Go.Proofs.YtabhbcedldjjjaaGreatDoor.Zm Go.Proofs.YtabhbcedldjjjaaGreatDoor.Ym Go.Proofs.YtabhbcedldjjjaaGreatDoor.Bn Go.Proofs.YtabhbcedldjjjaaGreatDoor.Zp Go.Proofs.YtabhbcedldjjjaaGreatDoor.Zk Go.Proofs.YtabhbcedldjjjaaGreatDoor.Yp Go.Proofs.YtabhbcedldjjjaaGreatDoor.Zr Go.Proofs.YtabhbcedldjjjaaGreatDoor.Yg
open Go.Lib (decDigits)

set_option maxHeartbeats 2000000

/-- "a 1{b;}" -/
def exC : List UInt8 := [97, 32, 49, 123, 98, 59, 125]
theorem cut_exc : cut exC 0 0 = .ok [⟨1, 0, 0, [97]⟩, ⟨2, 2, 1, []⟩, ⟨3, 3, 0, []⟩, ⟨1, 4, 0, [98]⟩, ⟨5, 5, 0, []⟩, ⟨4, 6, 0, []⟩] := by
  unfold exC
  rw [cut_tok (k := 1) (n := 0) (s := [97]) (len := 1) 0 0 (by rfl), if_neg (by decide)]
  rw [show ([32, 49, 123, 98, 59, 125] : List UInt8).drop (1 - 1) = [32, 49, 123, 98, 59, 125] from rfl, cut_skip (n := 1) _ _ (by rfl)]
  rw [show ([49, 123, 98, 59, 125] : List UInt8).drop (1 - 1) = [49, 123, 98, 59, 125] from rfl, cut_tok (k := 2) (n := 1) (s := []) (len := 1) _ _ (by rfl), if_neg (by decide)]
  rw [show ([123, 98, 59, 125] : List UInt8).drop (1 - 1) = [123, 98, 59, 125] from rfl, cut_tok (k := 3) (n := 0) (s := []) (len := 1) _ _ (by rfl), if_neg (by decide)]
  rw [show ([98, 59, 125] : List UInt8).drop (1 - 1) = [98, 59, 125] from rfl, cut_tok (k := 1) (n := 0) (s := [98]) (len := 1) _ _ (by rfl), if_neg (by decide)]
  rw [show ([59, 125] : List UInt8).drop (1 - 1) = [59, 125] from rfl, cut_tok (k := 5) (n := 0) (s := []) (len := 1) _ _ (by rfl), if_neg (by decide)]
  rw [show ([125] : List UInt8).drop (1 - 1) = [125] from rfl, cut_tok (k := 4) (n := 0) (s := []) (len := 1) _ _ (by rfl), if_neg (by decide)]
  rw [show ([] : List UInt8).drop (1 - 1) = [] from rfl, cut_nil]
  rfl
def exCN : List Nd := [.mk [97] 0 [⟨true, 1, [], 2⟩] true [.mk [98] 4 [] false []]]
theorem parse_exc : parse exC = .ok exCN := by
  rw [parse, cut_exc]
  rfl
theorem dec_one : decDigits 1 = [49] := by rw [dec_eq]; rfl
theorem prt_exc : prtL 0 exCN = [97, 32, 49, 32, 123, 10, 32, 32, 98, 59, 10, 125, 10] := by
  simp [exCN, prtL, prtN, prtWs, prtW, dec_one, mar]
theorem canon_exc : canonR ⟨#[97, 32, 49, 123, 98, 59, 125]⟩ = (⟨#[97, 32, 49, 32, 123, 10, 32, 32, 98, 59, 10, 125, 10]⟩, 0, 0) := by
  have h : parseR ⟨#[97, 32, 49, 123, 98, 59, 125]⟩ = .ok exCN := by
    rw [parseR_small (by decide), show by_ ⟨#[97, 32, 49, 123, 98, 59, 125]⟩ = exC from rfl, parse_exc]
  rw [canonR, h]
  simp only
  rw [prt_exc, if_neg (by decide)]

set_option maxRecDepth 100000 in
theorem yolive_ok (w : World) (P : Pows w) : Calls Tryz.prog 4 #[] w fun e w' => e = .returned (.bool true) ∧ Below w.heap.size w w' := by
  have cc := Canon_any ⟨#[97, 32, 49, 123, 98, 59, 125]⟩ w _ (by decide) P (Lib.hid (fun l h => by
    rw [parseR_small (by decide), show by_ ⟨#[97, 32, 49, 123, 98, 59, 125]⟩ = exC from rfl, parse_exc] at h
    injection h with h
    subst h
    decide)) (Lib.hid canon_exc)
  go_enter Tryz.func4, Tryz.ntmps4
  go_wp2_with fail
  refine cc.mono ?_
  rintro e w1 ⟨rfl, hb⟩
  clear cc
  go_wp2_with fail
  go_ret
  exact ⟨rfl, hb⟩

end Go.Proofs.YtabhbcedldjjjaaGreatDoor.Yl
