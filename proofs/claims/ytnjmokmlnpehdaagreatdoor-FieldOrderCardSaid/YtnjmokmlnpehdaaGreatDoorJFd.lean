/- Texts that are joined: Ysame, Ygen2, FrameN, Ynrow, Yhead, Ychk, Yrleft, Yrsam2. -/
import Derived.Test.YtnjmokmlnpehdaaGreatDoorJFa
import Derived.Test.YtnjmokmlnpehdaaGreatDoorJK
import Derived.Test.YtnjmokmlnpehdaaGreatDoorProg
import Derived.BigRegion
import Derived.Deep.CutRange
import Derived.WalkKit
import Derived.OpenShut
import Derived.ChangeSame
import Derived.Deep.Slices
import Derived.Deep.Fields
import Derived.SliceStrings
import Derived.Test.YtnjmokmlnpehdaaGreatDoorJFb
import Derived.Test.YtnjmokmlnpehdaaGreatDoorJFc
import Derived.OwnWalk
import Derived.BigQuiet
namespace Go.Proofs.YtnjmokmlnpehdaaGreatDoor.Yg
set_option linter.unusedSimpArgs false
set_option linter.unusedVariables false
open Go Go.RowKit Go.Proofs.YtnjmokmlnpehdaaGreatDoor.Zm Go.Proofs.YtnjmokmlnpehdaaGreatDoor.Ym Go.Proofs.YtnjmokmlnpehdaaGreatDoor.Bn

set_option maxHeartbeats 2000000

def stw (x : WI) : Bool × Int × ByteArray := (x.num, x.n, x.s)
mutual
def SameN : NI → NI → Prop
  | .mk nm _ ws b ks, .mk nm' _ ws' b' ks' => nm = nm' ∧ b = b' ∧ ws.map stw = ws'.map stw ∧ SameL ks ks'
def SameL : List NI → List NI → Prop
  | [], m => m = []
  | n :: l, m => ∃ x k, m = x :: k ∧ SameN n x ∧ SameL l k
end
theorem sameL_iff (l m : List NI) : SameL l m ↔ l.length = m.length ∧ ∀ i (h1 : i < l.length) (h2 : i < m.length), SameN l[i] m[i] := by
  induction l generalizing m with
  | nil =>
    simp only [SameL]
    constructor
    · rintro rfl; exact ⟨rfl, fun i h => by simp at h⟩
    · rintro ⟨h, _⟩; exact List.eq_nil_of_length_eq_zero (by simpa using h.symm)
  | cons n l ih =>
    simp only [SameL]
    constructor
    · rintro ⟨x, k, rfl, h1, h2⟩
      obtain ⟨e, h3⟩ := (ih k).1 h2
      refine ⟨by simp [e], fun i q1 q2 => ?_⟩
      cases i with
      | zero => exact h1
      | succ i => exact h3 i (by simpa using q1) (by simpa using q2)
    · rintro ⟨e, h⟩
      cases m with
      | nil => simp at e
      | cons x k => exact ⟨x, k, rfl, h 0 (by simp) (by simp), (ih k).2 ⟨by simpa using e, fun i q1 q2 => h (i + 1) (by simpa using q1) (by simpa using q2)⟩⟩
theorem stw_iff (l m : List WI) : l.map stw = m.map stw ↔ l.length = m.length ∧ ∀ i (h1 : i < l.length) (h2 : i < m.length), stw l[i] = stw m[i] := by
  constructor
  · intro h
    have e : l.length = m.length := by simpa using congrArg List.length h
    refine ⟨e, fun i h1 h2 => ?_⟩
    have := congrArg (fun x => x[i]?) h
    simpa [h1, h2] using this
  · rintro ⟨e, h⟩
    apply List.ext_getElem
    · simpa using e
    · intro i h1 h2
      simpa using h i (by simpa using h1) (by simpa using h2)

theorem wd_eql (p p' : Bool) (n n' a : Int) (s s' : ByteArray) (w : World) :
    (binOp .eql 45 (.agg #[.bool p, .int .i64 n, .string s, .int .i64 a]) (.agg #[.bool p', .int .i64 n', .string s', .int .i64 a])).run Tryz.prog w = .ok (.bool (decide (p = p' ∧ n = n' ∧ s = s'))) w := by
  by_cases h1 : p = p'
  · by_cases h3 : n = n'
    · by_cases h4 : s = s'
      · subst h1 h3 h4; simp [go_sem]
      · simp [go_sem, h1, h3, h4]; intro e; exact h4 (by rw [ByteArray.toList_eq, ByteArray.toList_eq] at e; exact ByteArray.ext (Array.toList_inj.1 e))
    · simp [go_sem, h1, h3]
  · simp [go_sem, h1]

mutual
/-- words are no more than they may be -/
def WsN (M : Nat) : NI → Prop
  | .mk _ _ ws _ ks => ws.length ≤ M ∧ WsL M ks
def WsL (M : Nat) : List NI → Prop
  | [] => True
  | n :: l => WsN M n ∧ WsL M l
end
theorem WsL.get {M : Nat} {l : List NI} (h : WsL M l) (i : Nat) (hi : i < l.length) : WsN M l[i] := by
  induction l generalizing i with
  | nil => exact absurd hi (by simp)
  | cons n l ih =>
    simp only [WsL] at h
    cases i with
    | zero => exact h.1
    | succ i => exact ih h.2 i (by simpa using hi)

end Go.Proofs.YtnjmokmlnpehdaaGreatDoor.Yg

namespace Go.Proofs.YtnjmokmlnpehdaaGreatDoor.Yg
set_option linter.unusedSimpArgs false
set_option linter.unusedVariables false
open Go Go.RowKit Go.Proofs.YtnjmokmlnpehdaaGreatDoor.Zm Go.Proofs.YtnjmokmlnpehdaaGreatDoor.Ym

def NI.ws : NI → List WI
  | .mk _ _ ws _ _ => ws
def NI.ks : NI → List NI
  | .mk _ _ _ _ ks => ks
def lftGo (f : List NI → Int → Int) : List NI → Int → Int
  | [], m => m
  | n :: l, m => if m < 0 ∨ 20 < n.ws.length then -1 else lftGo f l (f n.ks (m - 1))
/-- how many more there might be -/
def lft : Nat → List NI → Int → Int
  | 0, l, m => if 0 < l.length then -1 else m
  | d + 1, l, m => lftGo (lft d) l m
theorem lftGo_bd (f : List NI → Int → Int) (hf : ∀ l m, -1 ≤ m → -1 ≤ f l m ∧ f l m ≤ m) (l : List NI) (m : Int) (hm : -1 ≤ m) : -1 ≤ lftGo f l m ∧ lftGo f l m ≤ m := by
  induction l generalizing m with
  | nil => simp only [lftGo]; omega
  | cons n l ih =>
    simp only [lftGo]
    split
    · omega
    · have := hf n.ks (m - 1) (by omega)
      have := ih (f n.ks (m - 1)) (by omega)
      omega
theorem lft_bd : ∀ (d : Nat) (l : List NI) (m : Int), -1 ≤ m → -1 ≤ lft d l m ∧ lft d l m ≤ m
  | 0, l, m, h => by
    simp only [lft]
    split <;> omega
  | d + 1, l, m, h => lftGo_bd (lft d) (lft_bd d) l m h
mutual
/-- lists are no longer than they may be -/
def LenN : NI → Prop
  | .mk _ _ ws _ ks => ws.length ≤ maxLen ∧ ks.length ≤ maxLen ∧ LenL ks
def LenL : List NI → Prop
  | [] => True
  | n :: l => LenN n ∧ LenL l
end
theorem LenL.get {l : List NI} (h : LenL l) (i : Nat) (hi : i < l.length) : LenN l[i] := by
  induction l generalizing i with
  | nil => exact absurd hi (by simp)
  | cons n l ih =>
    simp only [LenL] at h
    cases i with
    | zero => exact h.1
    | succ i => exact ih h.2 i (by simpa using hi)
theorem lftGo_few (f : List NI → Int → Int) (hb : ∀ l m, -1 ≤ m → -1 ≤ f l m ∧ f l m ≤ m) (hf : ∀ l m, 0 ≤ f l m → (cntL l : Int) ≤ m - f l m ∧ WsL 20 l) (hn : ∀ l m, -1 ≤ m → f l m < 0 → f l m = -1) (l : List NI) (m : Int) (h : 0 ≤ lftGo f l m) :
    (cntL l : Int) ≤ m - lftGo f l m ∧ WsL 20 l := by
  induction l generalizing m with
  | nil => simp only [lftGo] at h ⊢; simp [cntL, WsL]
  | cons n l ih =>
    simp only [lftGo] at h ⊢
    split at h
    · omega
    · rename_i hc
      rw [if_neg hc]
      have i1 := ih _ h
      have hk : 0 ≤ f n.ks (m - 1) := by
        refine Classical.byContradiction fun q => ?_
        have e := hn n.ks (m - 1) (by omega) (by omega)
        rw [e] at h
        cases l with
        | nil => simp only [lftGo] at h; omega
        | cons x l =>
          simp only [lftGo] at h
          rw [if_pos (.inl (by omega))] at h
          omega
      have i2 := hf n.ks (m - 1) hk
      cases n with
      | mk nm a ws b ks =>
        simp only [NI.ws, NI.ks] at *
        simp only [cntL, cntN, WsL, WsN]
        exact ⟨by omega, ⟨by omega, i2.2⟩, i1.2⟩
theorem lft_few : ∀ (d : Nat) (l : List NI) (m : Int), 0 ≤ lft d l m → (cntL l : Int) ≤ m - lft d l m ∧ WsL 20 l
  | 0, l, m, h => by
    simp only [lft] at h ⊢
    split at h
    · omega
    · rename_i q
      have e : l = [] := List.eq_nil_of_length_eq_zero (by omega)
      subst e
      simp [cntL, WsL]
  | d + 1, l, m, h => lftGo_few (lft d) (lft_bd d) (lft_few d) (fun l m hm h => by have := (lft_bd d l m hm).1; omega) l m h
theorem WsL.mono {a b : Nat} (hab : a ≤ b) : ∀ {l : List NI}, WsL a l → WsL b l := by
  have key : ∀ (n : Nat) (l : List NI), cntL l ≤ n → WsL a l → WsL b l := by
    intro n
    induction n with
    | zero =>
      intro l h _
      cases l with
      | nil => trivial
      | cons x l => simp only [cntL] at h; have := cnt_pos x; omega
    | succ n ih =>
      intro l
      induction l with
      | nil => intro _ _; trivial
      | cons x l il =>
        intro h hw
        cases x with
        | mk nm c ws b2 ks =>
          simp only [cntL, cntN] at h
          simp only [WsL, WsN] at hw ⊢
          exact ⟨⟨by omega, ih ks (by omega) hw.1.2⟩, il (by omega) hw.2⟩
  exact fun {l} h => key (cntL l) l (Nat.le_refl _) h

mutual
def dpN : NI → Nat
  | .mk _ _ _ b ks => (if b then 1 else 0) + dpL ks
def dpL : List NI → Nat
  | [] => 0
  | n :: l => max (dpN n) (dpL l)
end
mutual
theorem dpN_cnt : ∀ n : NI, dpN n ≤ cntN n
  | .mk _ _ _ b ks => by
    have := dpL_cnt ks
    simp only [dpN, cntN]
    split <;> omega
theorem dpL_cnt : ∀ l : List NI, dpL l ≤ cntL l
  | [] => by simp [dpL]
  | n :: l => by
    have := dpN_cnt n
    have := dpL_cnt l
    simp only [dpL, cntL]; omega
end
theorem dpL_snoc (l : List NI) (n : NI) : dpL (l ++ [n]) = max (dpL l) (dpN n) := by
  induction l with
  | nil => simp [dpL]
  | cons m l ih => simp only [List.cons_append, dpL, ih]; omega
theorem take_dp (l : List NI) (k : Nat) (hk : k < l.length) : dpL (l.take (k + 1)) = max (dpL (l.take k)) (dpN l[k]) := by
  rw [← dpL_snoc, List.take_succ_eq_append_getElem hk]
theorem take_dp_le (l : List NI) (k : Nat) : dpL (l.take k) ≤ dpL l := by
  induction l generalizing k with
  | nil => simp [dpL]
  | cons n l ih =>
    cases k with
    | zero => simp [dpL]
    | succ k => have := ih k; simp only [List.take_succ_cons, dpL]; omega
mutual
theorem dp_embN : ∀ n : Nd, dpN (embN n) = deepN n
  | .mk _ _ _ b ks => by simp only [embN, dpN, deepN, dp_embL ks]
theorem dp_embL : ∀ l : List Nd, dpL (embL l) = deepL l
  | [] => rfl
  | n :: l => by simp only [embL, dpL, deepL, dp_embN n, dp_embL l]
end

end Go.Proofs.YtnjmokmlnpehdaaGreatDoor.Yg

namespace Go.Proofs.YtnjmokmlnpehdaaGreatDoor.Yg
set_option linter.unusedSimpArgs false
set_option linter.unusedVariables false
set_option linter.unusedSectionVars false
open Go Go.RowKit Go.ChangeShapes Go.WideShapes Go.Deep Go.Proofs.YtnjmokmlnpehdaaGreatDoor.Ym

/-- a slice of items that came in -/
def ItemsOf (w : World) (a : Option Addr) (len cap : Nat) (l : List NI) : Prop :=
  len = l.length ∧ len ≤ maxLen ∧ WfL l ∧ LenL l ∧ NsV (· < w.heap.size) w (.slice a len cap) l

section
variable {H : Type} {enc : TypeId × Value → H} {P : Program} {w : World} {base : Nat} {spare : Nat → Bool} {held : Bool}

theorem slice_elems {t e : TypeId} {fuel : Nat} {cs : List Value} {x : DataW H × List MemPlace} (ht : P.underlying t = some (.slice e)) (h : DataW.trod enc P w base spare held fuel t cs = some x) :
    cs = [.slice none 0 0] ∨ ∃ (a : Addr) (len cap n : Nat), fuel = n + 1 ∧ cs = [.slice (some a) len cap] ∧ len ≤ cap ∧ cap ≤ maxLen ∧
      ∀ i, i < len → ∃ cs' y, w.cells? base (a.add (i * P.cellsOf e)) (P.cellsOf e) = some cs' ∧ DataW.trod enc P w base spare held n e cs' = some y := by
  rcases DataW.trod_slice ht h with ⟨h0, _⟩ | ⟨a, len, cap, elems, rest, n, hn, rfl, _, _, hl, hm, hlen, hel, _⟩
  · exact .inl h0
  · refine .inr ⟨a, len, cap, n, hn, rfl, hl, hm, fun i hi => ?_⟩
    have := hel i hi
    rw [List.getElem?_eq_getElem (by omega)] at this
    obtain ⟨cs', h1, h2⟩ := Option.bind_eq_some_iff.1 this
    exact ⟨cs', _, h1, h2⟩

/-- the types of words and items -/
structure Types (P : Program) (tW eW tN eN tI tS tB : TypeId) : Prop where
  sW : P.underlying tW = some (.slice eW)
  sN : P.underlying tN = some (.slice eN)
  i : P.underlying tI = some (.int .i64)
  s : P.underlying tS = some .string
  b : P.underlying tB = some .bool
  cW : P.cellsOf eW = 4
  cN : P.cellsOf eN = 5
  uW : ∃ f0 f1 f2 f3 : Field, P.underlying eW = some (.struct #[f0, f1, f2, f3]) ∧ oneCellFields P #[f0, f1, f2, f3] = true ∧ f0.type = tB ∧ f1.type = tI ∧ f2.type = tS ∧ f3.type = tI
  uN : ∃ f0 f1 f2 f3 f4 : Field, P.underlying eN = some (.struct #[f0, f1, f2, f3, f4]) ∧ oneCellFields P #[f0, f1, f2, f3, f4] = true ∧ f0.type = tS ∧ f1.type = tI ∧ f2.type = tW ∧ f3.type = tB ∧ f4.type = tN

variable {tW eW tN eN tI tS tB : TypeId} (T : Types P tW eW tN eN tI tS tB)
include T
theorem word_open {n : Nat} {cs : List Value} {y : DataW H × List MemPlace} {p : Addr} (hc : w.cells? base p (P.cellsOf eW) = some cs) (h : DataW.trod enc P w base spare held n eW cs = some y) :
    ∃ z : WI, z.Wf ∧ w.cell? (p.add 0) = some (.bool z.num) ∧ w.cell? (p.add 1) = some (.int .i64 z.n) ∧ w.cell? (p.add 2) = some (.string z.s) ∧ w.cell? (p.add 3) = some (.int .i64 z.a) := by
  obtain ⟨f0, f1, f2, f3, he, hone, t0, t1, t2, t3⟩ := T.uW
  rw [T.cW] at hc
  obtain ⟨_, hcl, hat⟩ := World.cells?_some hc
  match cs, hcl with
  | [c0, c1, c2, c3], _ =>
    obtain ⟨xs, m, _, _, _, hlen, hg⟩ := DataW.trod_struct he h
    obtain ⟨o0, k0⟩ := hone_of hone 0 f0 rfl
    obtain ⟨o1, k1⟩ := hone_of hone 1 f1 rfl
    obtain ⟨o2, k2⟩ := hone_of hone 2 f2 rfl
    obtain ⟨o3, k3⟩ := hone_of hone 3 f3 rfl
    match xs, hlen with
    | [y0, y1, y2, y3], _ =>
      have g0 : DataW.trod enc P w base spare held m f0.type [c0] = some y0 := by simpa [o0, k0] using hg 0 f0 rfl
      have g1 : DataW.trod enc P w base spare held m f1.type [c1] = some y1 := by simpa [o1, k1] using hg 1 f1 rfl
      have g2 : DataW.trod enc P w base spare held m f2.type [c2] = some y2 := by simpa [o2, k2] using hg 2 f2 rfl
      have g3 : DataW.trod enc P w base spare held m f3.type [c3] = some y3 := by simpa [o3, k3] using hg 3 f3 rfl
      obtain ⟨b0, e0, _⟩ := DataW.trod_bool (t0 ▸ T.b) g0
      obtain ⟨i1, e1, _, w1⟩ := DataW.trod_int (t1 ▸ T.i) g1
      obtain ⟨s, e2, _, w2⟩ := DataW.trod_string (t2 ▸ T.s) g2
      obtain ⟨i3, e3, _, w3⟩ := DataW.trod_int (t3 ▸ T.i) g3
      simp only [List.cons.injEq, and_true] at e0 e1 e2 e3
      subst e0; subst e1; subst e2; subst e3
      exact ⟨⟨b0, i1, s, i3⟩, w2, hat 0 (by omega), hat 1 (by omega), hat 2 (by omega), hat 3 (by omega)⟩

theorem spot_none {p : Addr} {v : Value} (h : w.cell? (p.add 0) = some v) : p.spot = none := by
  obtain ⟨b, off, spot⟩ := p
  simpa [Addr.add] using World.cell?_spot h

/-- what is in a row, element by element -/
theorem ws_from (g : Nat) : ∀ (n o : Nat) (z : Nat → WI), g < w.heap.size → (∀ i, i < n → w.cell? ⟨g, o + i * 4, none⟩ = some (.bool (z i).num) ∧ w.cell? ⟨g, o + i * 4 + 1, none⟩ = some (.int .i64 (z i).n) ∧ w.cell? ⟨g, o + i * 4 + 2, none⟩ = some (.string (z i).s) ∧ w.cell? ⟨g, o + i * 4 + 3, none⟩ = some (.int .i64 (z i).a)) →
    WsFrom (· < w.heap.size) w g o ((List.range n).map z)
  | 0, o, z, _, _ => trivial
  | n + 1, o, z, hg, h => by
    rw [List.range_succ_eq_map, List.map_cons, List.map_map]
    obtain ⟨c0, c1, c2, c3⟩ := h 0 (by omega)
    simp only [Nat.zero_mul, Nat.add_zero] at c0 c1 c2 c3
    refine ⟨⟨hg, c0, c1, c2, c3⟩, ws_from g n (o + 4) (z ∘ Nat.succ) hg (fun i hi => ?_)⟩
    have := h (i + 1) (by omega)
    rw [show o + (i + 1) * 4 = o + 4 + i * 4 by omega] at this
    exact this

theorem words_open {fuel : Nat} {cs : List Value} {x : DataW H × List MemPlace} (h : DataW.trod enc P w base spare held fuel tW cs = some x) : ∃ (v : Value) (l : List WI), cs = [v] ∧ l.length ≤ maxLen ∧ (∀ x ∈ l, x.Wf) ∧ WsV (· < w.heap.size) w v l := by
  rcases slice_elems T.sW h with rfl | ⟨p, len, cap, n, _, rfl, hl, hm, hi⟩
  · exact ⟨_, [], rfl, by simp, (fun x hx => by cases hx), none, 0, rfl, .inl rfl⟩
  · have each : ∀ i, ∃ z : WI, i < len → z.Wf ∧ w.cell? ((p.add (i * 4)).add 0) = some (.bool z.num) ∧ w.cell? ((p.add (i * 4)).add 1) = some (.int .i64 z.n) ∧ w.cell? ((p.add (i * 4)).add 2) = some (.string z.s) ∧ w.cell? ((p.add (i * 4)).add 3) = some (.int .i64 z.a) := by
      intro i
      by_cases h : i < len
      · obtain ⟨cs', y, hc, hd⟩ := hi i h
        obtain ⟨z, hz⟩ := word_open T hc hd
        rw [T.cW] at hz
        exact ⟨z, fun _ => hz⟩
      · exact ⟨⟨false, 0, ByteArray.empty, 0⟩, fun g => absurd g h⟩
    obtain ⟨z, hz⟩ := Classical.axiomOfChoice each
    refine ⟨_, (List.range len).map z, rfl, by simp; omega, fun x hx => ?_, some p, cap, by simp, ?_⟩
    · obtain ⟨i, hi, rfl⟩ := List.mem_map.1 hx
      exact (hz i (by simpa using hi)).1
    · rcases Nat.eq_zero_or_pos len with g | g
      · subst g; exact .inl rfl
      · obtain ⟨b, off, spot⟩ := p
        have c0 := (hz 0 g).2.1
        have hspot : spot = none := by simpa [Addr.add] using World.cell?_spot c0
        subst hspot
        have hb : b < w.heap.size := by simpa [Addr.add] using World.block_lt_of_cell? w _ c0
        refine .inr ⟨b, off, rfl, ws_from T b len off z hb (fun i h => ?_)⟩
        obtain ⟨_, q0, q1, q2, q3⟩ := hz i h
        rw [Go.WideShapes.add_plain, Go.WideShapes.add_plain] at q0 q1 q2 q3
        rw [Nat.add_zero] at q0
        exact ⟨q0, by rw [Nat.add_assoc]; exact q1, by rw [Nat.add_assoc]; exact q2, by rw [Nat.add_assoc]; exact q3⟩

theorem ns_from (g : Nat) : ∀ (n o : Nat) (z : Nat → NI), (∀ i, i < n → NAt (· < w.heap.size) w g (o + i * 5) (z i)) → NsFrom (· < w.heap.size) w g o ((List.range n).map z)
  | 0, o, z, _ => by simp [NsFrom]
  | n + 1, o, z, h => by
    rw [List.range_succ_eq_map, List.map_cons, List.map_map]
    simp only [NsFrom]
    refine ⟨by simpa using h 0 (by omega), ns_from g n (o + 5) (z ∘ Nat.succ) (fun i hi => ?_)⟩
    have := h (i + 1) (by omega)
    rw [show o + (i + 1) * 5 = o + 5 + i * 5 by omega] at this
    exact this
theorem wfL_map (n : Nat) (z : Nat → NI) (h : ∀ i, i < n → WfN (z i) ∧ LenN (z i)) : ∀ m, m ≤ n → WfL ((List.range m).map z) ∧ LenL ((List.range m).map z) := by
  have key : ∀ (l : List NI), (∀ x ∈ l, WfN x ∧ LenN x) → WfL l ∧ LenL l := by
    intro l
    induction l with
    | nil => intro _; exact ⟨trivial, trivial⟩
    | cons x l ih =>
      intro h
      have := ih (fun y hy => h y (by simp [hy]))
      have hx := h x (by simp)
      exact ⟨⟨hx.1, this.1⟩, ⟨hx.2, this.2⟩⟩
  intro m hm
  refine key _ (fun x hx => ?_)
  obtain ⟨i, hi, rfl⟩ := List.mem_map.1 hx
  exact h i (by have := List.mem_range.1 hi; omega)

theorem items_open : ∀ (fuel : Nat) (cs : List Value) (x : DataW H × List MemPlace), DataW.trod enc P w base spare held fuel tN cs = some x → ∃ (v : Value) (l : List NI), cs = [v] ∧ l.length ≤ maxLen ∧ WfL l ∧ LenL l ∧ NsV (· < w.heap.size) w v l := by
  intro fuel
  induction fuel using Nat.strongRecOn with
  | _ fuel ih =>
  intro cs x h
  rcases slice_elems T.sN h with rfl | ⟨p, len, cap, n, hn, rfl, hl, hm, hi⟩
  · exact ⟨_, [], rfl, by simp, trivial, trivial, none, 0, rfl, .inl rfl⟩
  · have each : ∀ i, ∃ z : NI, i < len → (WfN z ∧ LenN z) ∧ (i = 0 → p.spot = none) ∧ p.block < w.heap.size ∧ NAt (· < w.heap.size) w p.block (p.off + i * 5) z := by
      intro i
      by_cases h : i < len
      · obtain ⟨cs', y, hc, hd⟩ := hi i h
        obtain ⟨f0, f1, f2, f3, f4, he, hone, t0, t1, t2, t3, t4⟩ := T.uN
        rw [T.cN] at hc
        obtain ⟨_, hcl, hat⟩ := World.cells?_some hc
        match cs', hcl with
        | [c0, c1, c2, c3, c4], _ =>
          obtain ⟨xs, m, hm', _, _, hlen, hg⟩ := DataW.trod_struct he hd
          obtain ⟨o0, k0⟩ := hone_of hone 0 f0 rfl
          obtain ⟨o1, k1⟩ := hone_of hone 1 f1 rfl
          obtain ⟨o2, k2⟩ := hone_of hone 2 f2 rfl
          obtain ⟨o3, k3⟩ := hone_of hone 3 f3 rfl
          obtain ⟨o4, k4⟩ := hone_of hone 4 f4 rfl
          match xs, hlen with
          | [y0, y1, y2, y3, y4], _ =>
            have g0 : DataW.trod enc P w base spare held m f0.type [c0] = some y0 := by simpa [o0, k0] using hg 0 f0 rfl
            have g1 : DataW.trod enc P w base spare held m f1.type [c1] = some y1 := by simpa [o1, k1] using hg 1 f1 rfl
            have g2 : DataW.trod enc P w base spare held m f2.type [c2] = some y2 := by simpa [o2, k2] using hg 2 f2 rfl
            have g3 : DataW.trod enc P w base spare held m f3.type [c3] = some y3 := by simpa [o3, k3] using hg 3 f3 rfl
            have g4 : DataW.trod enc P w base spare held m f4.type [c4] = some y4 := by simpa [o4, k4] using hg 4 f4 rfl
            obtain ⟨s0, e0, _, w0⟩ := DataW.trod_string (t0 ▸ T.s) g0
            obtain ⟨i1, e1, _, w1⟩ := DataW.trod_int (t1 ▸ T.i) g1
            rw [t2] at g2
            obtain ⟨vw, ws, e2, hw1, hw2, hw3⟩ := words_open T g2
            obtain ⟨b3, e3, _⟩ := DataW.trod_bool (t3 ▸ T.b) g3
            rw [t4] at g4
            obtain ⟨vk, ks, e4, hk1, hk2, hk3, hk4⟩ := ih m (by omega) _ _ g4
            simp only [List.cons.injEq, and_true] at e0 e1 e2 e3 e4
            subst e0; subst e1; subst e2; subst e3; subst e4
            have q0 := hat 0 (by omega)
            have q1 := hat 1 (by omega)
            have q2 := hat 2 (by omega)
            have q3 := hat 3 (by omega)
            have q4 := hat 4 (by omega)
            have hs0 : i = 0 → p.spot = none := fun e => by
              subst e
              have := World.cell?_spot q0
              simpa [Addr.add] using this
            have at_ : ∀ j, (p.add (i * 5)).add j = ⟨p.block, p.off + i * 5 + j, none⟩ := fun j => by
              obtain ⟨b, off, spot⟩ := p
              rcases Nat.eq_zero_or_pos i with e | e
              · have := hs0 e
                simp only at this
                subst this
                subst e
                unfold Addr.add
                by_cases hj : j = 0 <;> simp [hj]
              · have e5 : (⟨b, off, spot⟩ : Addr).add (i * 5) = ⟨b, off + i * 5, none⟩ := by
                  unfold Addr.add
                  rw [if_neg (by omega)]
                rw [e5]
                unfold Addr.add
                by_cases hj : j = 0 <;> simp [hj]
            rw [at_] at q0 q1 q2 q3 q4
            rw [Nat.add_zero] at q0
            have hb : p.block < w.heap.size := World.block_lt_of_cell? w ⟨p.block, p.off + i * 5, none⟩ (u := .string s0) q0
            obtain ⟨kp, kc, rfl, hk5⟩ := hk4
            refine ⟨.mk s0 i1 ws b3 ks, fun _ => ⟨⟨⟨w0, hw2, hk2⟩, ⟨hw1, hk1, hk3⟩⟩, hs0, hb, ?_⟩⟩
            simp only [NAt]
            exact ⟨hb, q0, q1, ⟨_, q2, hw3⟩, q3, kp, kc, q4, hk5⟩
      · exact ⟨.mk ByteArray.empty 0 [] false [], fun g => absurd g h⟩
    obtain ⟨z, hz⟩ := Classical.axiomOfChoice each
    have hwf := wfL_map T len z (fun i hi => (hz i hi).1) len (Nat.le_refl _)
    refine ⟨_, (List.range len).map z, rfl, by simp; omega, hwf.1, hwf.2, some p, cap, by simp, ?_⟩
    rcases Nat.eq_zero_or_pos len with g | g
    · subst g; exact .inl rfl
    · obtain ⟨_, hs, hb, _⟩ := hz 0 g
      obtain ⟨b, off, spot⟩ := p
      have hs := hs rfl
      simp only at hs hb
      subst hs
      exact .inr ⟨b, off, rfl, ns_from T b len off z (fun i h => (hz i h).2.2.2)⟩
theorem nodes_open {fuel : Nat} {cs : List Value} {x : DataW H × List MemPlace} {a : Option Addr} {len cap : Nat} (hcs : cs = [.slice a len cap]) (h : DataW.trod enc P w base spare held fuel tN cs = some x) : ∃ l, ItemsOf w a len cap l := by
  obtain ⟨v, l, e, h1, h2, h3, h4⟩ := items_open T fuel cs x h
  rw [hcs] at e
  injection e with e _
  subst e
  have h4' := h4
  obtain ⟨p, c, e, _⟩ := h4
  injection e with e1 e2 e3
  exact ⟨l, e2, by omega, h2, h3, h4'⟩
end
theorem typesOk : Types Tryz.prog 22 45 23 25 3 9 4 where
  sW := by kernel_rfl
  sN := by kernel_rfl
  i := by kernel_rfl
  s := by kernel_rfl
  b := by kernel_rfl
  cW := by kernel_rfl
  cN := by kernel_rfl
  uW := ⟨_, _, _, _, Tryz.underlying45, by kernel_rfl, rfl, rfl, rfl, rfl⟩
  uN := ⟨_, _, _, _, _, Tryz.underlying25, by kernel_rfl, rfl, rfl, rfl, rfl, rfl⟩

end Go.Proofs.YtnjmokmlnpehdaaGreatDoor.Yg

namespace Go.Proofs.YtnjmokmlnpehdaaGreatDoor.Yg
set_option linter.unusedSimpArgs false
set_option linter.unusedVariables false
open Go Go.RowKit Go.Proofs.YtnjmokmlnpehdaaGreatDoor.Zk Go.Proofs.YtnjmokmlnpehdaaGreatDoor.Zm Go.Proofs.YtnjmokmlnpehdaaGreatDoor.Ym Go.Proofs.YtnjmokmlnpehdaaGreatDoor.Bn

/-- these cells are an item -/
def NC (S : Nat → Prop) (W : World) (xs : List Value) : NI → Prop
  | .mk nm a ws b ks => ∃ vw vk, xs = [.string nm, .int .i64 a, vw, .bool b, vk] ∧ WsV S W vw ws ∧ NsV S W vk ks
def NCs (S : Nat → Prop) (W : World) : List Value → List NI → Prop
  | xs, [] => xs = []
  | xs, n :: l => ∃ x ys, xs = x ++ ys ∧ NC S W x n ∧ NCs S W ys l
section
variable {S T : Nat → Prop} {W W' : World}
theorem NC.kept {xs : List Value} {n : NI} (h : NC S W xs n) (k : Stay S W W') : NC S W' xs n := by
  cases n with
  | mk nm a ws b ks =>
    obtain ⟨vw, vk, e, h1, h2⟩ := h
    exact ⟨vw, vk, e, h1.kept k, h2.kept k⟩
theorem NCs.kept {xs : List Value} {l : List NI} (h : NCs S W xs l) (k : Stay S W W') : NCs S W' xs l := by
  induction l generalizing xs with
  | nil => exact h
  | cons n l ih =>
    obtain ⟨x, ys, e, h1, h2⟩ := h
    exact ⟨x, ys, e, h1.kept k, ih h2⟩
theorem WAt.mono {g o : Nat} {x : WI} (h : WAt S W g o x) (k : ∀ b, S b → T b) : WAt T W g o x := ⟨k _ h.1, h.2⟩
theorem WsFrom.mono {g o : Nat} {l : List WI} (h : WsFrom S W g o l) (k : ∀ b, S b → T b) : WsFrom T W g o l := by
  induction l generalizing o with
  | nil => trivial
  | cons x l ih => exact ⟨h.1.mono k, ih h.2⟩
theorem WsV.mono {v : Value} {l : List WI} (h : WsV S W v l) (k : ∀ b, S b → T b) : WsV T W v l := by
  obtain ⟨ptr, cap, e, h⟩ := h
  refine ⟨ptr, cap, e, ?_⟩
  rcases h with h | ⟨g, o, e, h⟩
  · exact .inl h
  · exact .inr ⟨g, o, e, h.mono k⟩
mutual
theorem NAt.mono (k : ∀ b, S b → T b) : ∀ {g o : Nat} {n : NI}, NAt S W g o n → NAt T W g o n
  | g, o, .mk nm a ws b ks, h => by
    simp only [NAt] at h ⊢
    obtain ⟨h0, h1, h2, ⟨v, h3, hv⟩, h4, ptr, cap, h5, hk⟩ := h
    refine ⟨k _ h0, h1, h2, ⟨v, h3, hv.mono k⟩, h4, ptr, cap, h5, ?_⟩
    rcases hk with hk | ⟨g', o', e, hk⟩
    · exact .inl hk
    · exact .inr ⟨g', o', e, NsFrom.mono k hk⟩
theorem NsFrom.mono (k : ∀ b, S b → T b) : ∀ {g o : Nat} {l : List NI}, NsFrom S W g o l → NsFrom T W g o l
  | g, o, [], h => by simp [NsFrom]
  | g, o, n :: l, h => by
    simp only [NsFrom] at h ⊢
    exact ⟨NAt.mono k h.1, NsFrom.mono k h.2⟩
end
theorem NsV.mono {v : Value} {l : List NI} (h : NsV S W v l) (k : ∀ b, S b → T b) : NsV T W v l := by
  obtain ⟨ptr, cap, e, h⟩ := h
  refine ⟨ptr, cap, e, ?_⟩
  rcases h with h | ⟨g, o, e, h⟩
  · exact .inl h
  · exact .inr ⟨g, o, e, h.mono k⟩
theorem NC.mono {xs : List Value} {n : NI} (h : NC S W xs n) (k : ∀ b, S b → T b) : NC T W xs n := by
  cases n with
  | mk nm a ws b ks =>
    obtain ⟨vw, vk, e, h1, h2⟩ := h
    exact ⟨vw, vk, e, h1.mono k, h2.mono k⟩
theorem NCs.mono {xs : List Value} {l : List NI} (h : NCs S W xs l) (k : ∀ b, S b → T b) : NCs T W xs l := by
  induction l generalizing xs with
  | nil => exact h
  | cons n l ih =>
    obtain ⟨x, ys, e, h1, h2⟩ := h
    exact ⟨x, ys, e, h1.mono k, ih h2⟩
theorem NCs.append {xs ys : List Value} {l m : List NI} (h : NCs S W xs l) (h2 : NCs S W ys m) : NCs S W (xs ++ ys) (l ++ m) := by
  induction l generalizing xs with
  | nil =>
    have e : xs = [] := h
    subst e
    exact h2
  | cons n l ih =>
    obtain ⟨x, zs, e, h1, h3⟩ := h
    exact ⟨x, zs ++ ys, by rw [e, List.append_assoc], h1, ih h3⟩
theorem NC.len {xs : List Value} {n : NI} (h : NC S W xs n) : xs.length = 5 := by
  cases n with
  | mk nm a ws b ks =>
    obtain ⟨vw, vk, rfl, _⟩ := h
    rfl
theorem NCs.len {xs : List Value} {l : List NI} (h : NCs S W xs l) : xs.length = l.length * 5 := by
  induction l generalizing xs with
  | nil => have e : xs = [] := h; subst e; rfl
  | cons n l ih =>
    obtain ⟨x, ys, rfl, h1, h2⟩ := h
    have := h1.len
    have := ih h2
    simp; omega
theorem NC.one {xs : List Value} {n : NI} (h : NC S W xs n) : ∀ u ∈ xs, u.oneCell' = true := by
  cases n with
  | mk nm a ws b ks =>
    obtain ⟨vw, vk, rfl, ⟨p, c, rfl, _⟩, p2, c2, rfl, _⟩ := h
    intro u hu
    simp at hu
    rcases hu with rfl | rfl | rfl | rfl | rfl <;> rfl
theorem NCs.one {xs : List Value} {l : List NI} (h : NCs S W xs l) : ∀ u ∈ xs, u.oneCell' = true := by
  induction l generalizing xs with
  | nil => have e : xs = [] := h; subst e; intro u hu; simp at hu
  | cons n l ih =>
    obtain ⟨x, ys, rfl, h1, h2⟩ := h
    intro u hu
    rcases List.mem_append.1 hu with q | q
    · exact h1.one u q
    · exact ih h2 u q
/-- the cells of items that stand in a row -/
theorem NsFrom.cells {g : Nat} : ∀ (l : List NI) (o : Nat), NsFrom S W g o l → ∃ xs, NCs S W xs l ∧ ∀ (j : Nat) (u : Value), xs[j]? = some u → W.cell? ⟨g, o + j, none⟩ = some u
  | [], o, h => ⟨[], rfl, fun j u hj => by simp at hj⟩
  | .mk nm a ws b ks :: l, o, h => by
    simp only [NsFrom] at h
    obtain ⟨h1, h2⟩ := h
    simp only [NAt] at h1
    obtain ⟨h0, c0, c1, ⟨vw, c2, hw⟩, c3, p, c, c4, hk⟩ := h1
    obtain ⟨ys, hy, hc⟩ := NsFrom.cells l (o + 5) h2
    refine ⟨[.string nm, .int .i64 a, vw, .bool b, .slice p ks.length c] ++ ys, ⟨_, ys, rfl, ⟨vw, _, rfl, hw, p, c, rfl, hk⟩, hy⟩, fun j u hj => ?_⟩
    match j, hj with
    | 0, hj => simp at hj; subst hj; exact c0
    | 1, hj => simp at hj; subst hj; exact c1
    | 2, hj => simp at hj; subst hj; exact c2
    | 3, hj => simp at hj; subst hj; exact c3
    | 4, hj => simp at hj; subst hj; exact c4
    | j + 5, hj =>
      have := hc j u (by simpa using hj)
      rw [show o + (j + 5) = o + 5 + j by omega]
      exact this
/-- .. as a list to put behind another one -/
theorem NsV.cells {v : Value} {l : List NI} (h : NsV S W v l) : ∃ xs, Holds W 5 v l.length xs ∧ NCs S W xs l := by
  obtain ⟨p, c, rfl, h⟩ := h
  rcases h with rfl | ⟨g, o, rfl, h⟩
  · cases p with
    | none => exact ⟨[], ⟨none, c, rfl, rfl, fun u hu => by simp at hu, .inl ⟨rfl, rfl⟩⟩, rfl⟩
    | some ad => exact ⟨[], ⟨some ad, c, rfl, rfl, fun u hu => by simp at hu, .inr ⟨ad, rfl, fun j x hj => by simp at hj⟩⟩, rfl⟩
  · obtain ⟨xs, h1, h2⟩ := NsFrom.cells l o h
    refine ⟨xs, ⟨_, c, rfl, h1.len, h1.one, .inr ⟨_, rfl, fun j u hj => ?_⟩⟩, h1⟩
    rw [show (⟨g, o, none⟩ : Addr).add j = ⟨g, o + j, none⟩ by unfold Addr.add; split <;> simp_all]
    exact h2 j u hj
theorem ns_of {g : Nat} (hg : S g) : ∀ (l : List NI) (xs : List Value) (o : Nat), NCs S W xs l → (∀ (j : Nat) (u : Value), xs[j]? = some u → W.cell? ⟨g, o + j, none⟩ = some u) → NsFrom S W g o l
  | [], xs, o, _, _ => by simp [NsFrom]
  | n :: l, xs, o, h, hc => by
    obtain ⟨x, ys, rfl, h1, h2⟩ := h
    have x5 := h1.len
    simp only [NsFrom]
    refine ⟨?_, ns_of hg l ys (o + 5) h2 (fun j u hj => ?_)⟩
    · cases n with
      | mk nm a ws b ks =>
        obtain ⟨vw, vk, rfl, hw, p, c, rfl, hk⟩ := h1
        simp only [NAt]
        exact ⟨hg, hc 0 _ rfl, hc 1 _ rfl, ⟨vw, hc 2 _ rfl, hw⟩, hc 3 _ rfl, p, c, hc 4 _ rfl, hk⟩
    · rw [show o + 5 + j = o + (5 + j) by omega]
      exact hc (5 + j) u (by rw [List.getElem?_append_right (by omega), x5]; simpa using hj)
/-- a row of the call's own is a slice of items -/
theorem OneC.items {w : World} {EL : TypeId} {v : Value} {l : List NI} {xs : List Value} (x : OneC EL 5 w W v l.length xs) (h : NCs S W xs l) : NsV (fun b => S b ∨ v.ownBlock = some b) W v l := by
  rcases x.row.2 with ⟨hv, hn⟩ | ⟨g, cap, cur, hv, _⟩
  · exact ⟨none, 0, by rw [hv, hn], .inl (List.eq_nil_of_length_eq_zero hn)⟩
  · refine ⟨_, cap, hv, .inr ⟨g, 0, rfl, ns_of (.inr (by rw [hv]; rfl)) l xs 0 (h.mono (fun b hb => .inl hb)) (fun j u hj => ?_)⟩⟩
    subst hv
    have jl := (List.getElem?_eq_some_iff.1 hj).1
    rw [h.len] at jl
    rw [Nat.zero_add, x.row.cellAt j jl]
    exact hj
end

/-! ## the same but for places -/
mutual
theorem sameN_refl : ∀ n : NI, SameN n n
  | .mk _ _ _ _ ks => by simp only [SameN]; exact ⟨trivial, trivial, trivial, sameL_refl ks⟩
theorem sameL_refl : ∀ l : List NI, SameL l l
  | [] => by simp [SameL]
  | n :: l => by simp only [SameL]; exact ⟨n, l, rfl, sameN_refl n, sameL_refl l⟩
end
theorem sameL_append {a b c d : List NI} (h : SameL a b) (k : SameL c d) : SameL (a ++ c) (b ++ d) := by
  induction a generalizing b with
  | nil => simp only [SameL] at h; subst h; exact k
  | cons x a ih =>
    simp only [SameL] at h
    obtain ⟨y, e, rfl, h1, h2⟩ := h
    simp only [List.cons_append, SameL]
    exact ⟨y, e ++ d, rfl, h1, ih h2⟩
theorem embL_append (a b : List Nd) : embL (a ++ b) = embL a ++ embL b := by rw [embL_map, embL_map, embL_map, List.map_append]
mutual
theorem ws_embN : ∀ (d : Nat) (n : Nd), RightN d n → WsN 1000000 (embN n)
  | d, .mk nm a ws b ks, h => by
    simp only [RightN] at h
    obtain ⟨h1, h2, h3, h4, h5, h6⟩ := h
    exact ⟨by simp; omega, ws_embL (d + 1) ks h6⟩
theorem ws_embL : ∀ (d : Nat) (l : List Nd), RightL d l → WsL 1000000 (embL l)
  | _, [], _ => trivial
  | d, n :: l, h => by
    simp only [RightL] at h
    exact ⟨ws_embN d n h.1, ws_embL d l h.2⟩
end

end Go.Proofs.YtnjmokmlnpehdaaGreatDoor.Yg

namespace Go.Proofs.YtnjmokmlnpehdaaGreatDoor.Yg
set_option linter.unusedSimpArgs false
set_option linter.unusedVariables false
open Go Go.RowKit Go.Proofs.YtnjmokmlnpehdaaGreatDoor.Zk Go.Proofs.YtnjmokmlnpehdaaGreatDoor.Zm Go.Proofs.YtnjmokmlnpehdaaGreatDoor.Ym Go.Proofs.YtnjmokmlnpehdaaGreatDoor.Bn Go.Proofs.YtnjmokmlnpehdaaGreatDoor.Zp

set_option maxHeartbeats 2000000

def tcI (t : TkI) : List Value := [.int .i64 t.k, .int .i64 t.a, .int .i64 t.n, .string t.s]
def tcs (a : List TkI) : List Value := a.flatMap tcI
theorem tcs_snoc (a : List TkI) (t : TkI) : tcs (a ++ [t]) = tcs a ++ tcI t := by simp [tcs]
theorem tcs_len (a : List TkI) : (tcs a).length = a.length * 4 := by
  induction a with
  | nil => rfl
  | cons t a ih => simp only [tcs, List.flatMap_cons, List.length_append, List.length_cons] at *; rw [ih]; simp [tcI]; omega
theorem tcs_at (a : List TkI) (i j : Nat) (h : i < a.length) (hj : j < 4) : (tcs a)[i * 4 + j]? = (tcI a[i])[j]? := by
  induction a generalizing i with
  | nil => simp at h
  | cons t a ih =>
    show (tcI t ++ tcs a)[i * 4 + j]? = _
    cases i with
    | zero =>
      rw [List.getElem?_append_left (by simp [tcI]; omega)]
      simp
    | succ i =>
      rw [List.getElem?_append_right (by simp [tcI]; omega)]
      simp only [List.length_cons] at h
      rw [show (i + 1) * 4 + j - (tcI t).length = i * 4 + j by simp [tcI]; omega, ih i (by omega)]
      simp
theorem one_tcI (t : TkI) : ∀ u ∈ tcI t, u.oneCell' = true := by
  intro u hu
  simp [tcI] at hu
  rcases hu with rfl | rfl | rfl | rfl <;> rfl
theorem tokAt_of {w W : World} {v : Value} {a : List TkI} (x : OneC 80 4 w W v a.length (tcs a)) : TokAt W v a.length (fun i => a.getD i ⟨0, 0, 0, ⟨#[]⟩⟩) := by
  rcases Nat.eq_zero_or_pos a.length with h0 | h0
  · obtain ⟨p, c, rfl⟩ := x.form
    exact ⟨p, c, rfl, .inl h0⟩
  · obtain ⟨g, cap, rfl, hg, lt1⟩ := x.row.form h0
    refine ⟨_, _, rfl, .inr ⟨g, 0, rfl, lt1, fun i hi => ?_⟩⟩
    have e : a.getD i ⟨0, 0, 0, ⟨#[]⟩⟩ = a[i] := by simp [List.getD, hi]
    have key : ∀ j, j < 4 → W.cell? ⟨g, i * 4 + j, none⟩ = (tcI a[i])[j]? := fun j hj => by
      rw [x.row.cellAt (i * 4 + j) (by omega), tcs_at a i j hi hj]
    simp only [Nat.zero_add, e]
    exact ⟨key 0 (by omega), key 1 (by omega), key 2 (by omega), key 3 (by omega)⟩

/-- the token that a word is -/
def tokI (x : WI) : TkI := ⟨if x.num then 2 else 1, x.a, x.n, x.s⟩
/-- an item's name and words, as tokens -/
def hdT (nm : ByteArray) (ws : List WI) : List TkI := ⟨1, 0, 0, nm⟩ :: ws.map tokI
theorem fine_tokI (x : WI) : FineI (tokI x) ↔ FineW x := by
  obtain ⟨p, n, s, a⟩ := x
  cases p with
  | true =>
    constructor
    · rintro (⟨h, _⟩ | ⟨_, h2, h3, h4⟩ | ⟨h, _⟩)
      · simp [tokI] at h
      · exact .inl ⟨rfl, h2, h3, h4⟩
      · simp [tokI] at h
    · rintro (⟨_, h2, h3, h4⟩ | ⟨h, _⟩)
      · exact .inr (.inl ⟨rfl, h2, h3, h4⟩)
      · cases h
  | false =>
    constructor
    · rintro (⟨_, h2, h3⟩ | ⟨h, _⟩ | ⟨h, _⟩)
      · exact .inr ⟨rfl, h2, h3⟩
      · simp [tokI] at h
      · simp [tokI] at h
    · rintro (⟨h, _⟩ | ⟨_, h2, h3⟩)
      · cases h
      · exact .inl ⟨rfl, h2, h3⟩
theorem fine_head (nm : ByteArray) : FineI ⟨1, 0, 0, nm⟩ ↔ Zm.name nm.data.toList = true := by
  constructor
  · rintro (⟨_, _, h3⟩ | ⟨h, _⟩ | ⟨h, _⟩)
    · exact h3
    · simp at h
    · simp at h
  · exact fun h => .inl ⟨rfl, rfl, h⟩
theorem fine_all (nm : ByteArray) (ws : List WI) : (∀ i, i < (hdT nm ws).length → FineI ((hdT nm ws).getD i ⟨0, 0, 0, ⟨#[]⟩⟩)) ↔ Zm.name nm.data.toList = true ∧ ∀ x ∈ ws, FineW x := by
  constructor
  · intro h
    refine ⟨(fine_head nm).1 (by have := h 0 (by simp [hdT]); simpa [hdT] using this), fun x hx => ?_⟩
    obtain ⟨i, hi, rfl⟩ := List.getElem_of_mem hx
    have := h (i + 1) (by simp [hdT]; exact hi)
    have e : (hdT nm ws).getD (i + 1) ⟨0, 0, 0, ⟨#[]⟩⟩ = tokI ws[i] := by simp [hdT, List.getD, hi]
    rw [e] at this
    exact (fine_tokI _).1 this
  · rintro ⟨h1, h2⟩ i hi
    cases i with
    | zero => simpa [hdT] using (fine_head nm).2 h1
    | succ i =>
      have hi' : i < ws.length := by simpa [hdT] using hi
      have e : (hdT nm ws).getD (i + 1) ⟨0, 0, 0, ⟨#[]⟩⟩ = tokI ws[i] := by simp [hdT, List.getD, hi']
      rw [e]
      exact (fine_tokI _).2 (h2 _ (List.getElem_mem _))
theorem joinIs_ex (n : Nat) (z : Nat → TkI) (hn : n ≤ 1000) : ∃ t er, JoinIs n z t er ∧ ((er = 0 ∧ ∀ i, i < n → FineI (z i)) ∨ (er = 1 ∧ ¬ ∀ i, i < n → FineI (z i))) := by
  by_cases h : ∀ i, i < n → FineI (z i)
  · have hl := join_len (toks z n) (toks_fine h)
    rw [toks_len] at hl
    exact ⟨_, _, .inr ⟨by omega, h, .inr ⟨rfl, rfl, by omega⟩⟩, .inl ⟨rfl, h⟩⟩
  · have : ∃ i, i < n ∧ ¬ FineI (z i) := by
      refine Classical.byContradiction fun hc => h fun i hi => Classical.byContradiction fun hf => hc ⟨i, hi, hf⟩
    exact ⟨_, _, .inl ⟨rfl, rfl, .inr this⟩, .inr ⟨rfl, h⟩⟩
theorem hdT_wf (nm : ByteArray) (ws : List WI) (h1 : nm.size ≤ maxLen) (h2 : ∀ x ∈ ws, x.Wf) : ∀ i, i < (hdT nm ws).length → (Lit.int .i64 ((hdT nm ws).getD i ⟨0, 0, 0, ⟨#[]⟩⟩).k).wf = true ∧ ((hdT nm ws).getD i ⟨0, 0, 0, ⟨#[]⟩⟩).s.size ≤ maxLen := by
  intro i hi
  cases i with
  | zero => exact ⟨by simp [hdT]; exact WalkArith.wf_i64 (by omega), by simpa [hdT] using h1⟩
  | succ i =>
    have hi' : i < ws.length := by simpa [hdT] using hi
    have e : (hdT nm ws).getD (i + 1) ⟨0, 0, 0, ⟨#[]⟩⟩ = tokI ws[i] := by simp [hdT, List.getD, hi']
    rw [e]
    refine ⟨?_, h2 _ (List.getElem_mem _)⟩
    simp only [tokI]
    split <;> exact WalkArith.wf_i64 (by omega)

set_option maxRecDepth 100000 in
theorem tokenOf_any (x : WI) (w : World) : Calls Tryz.prog 82 #[.agg #[.bool x.num, .int .i64 x.n, .string x.s, .int .i64 x.a]] w fun e w' => e = .returned (.agg #[.int .i64 (tokI x).k, .int .i64 (tokI x).a, .int .i64 (tokI x).n, .string (tokI x).s]) ∧ Below w.heap.size w w' := by
  obtain ⟨p, n, s, a⟩ := x
  cases p with
  | true =>
    simp only [tokI, if_true]
    go_enter Tryz.func82, Tryz.ntmps82
    go_wp2
    refine bodyPost_ret (v := .agg #[.int .i64 2, .int .i64 a, .int .i64 n, .string s]) (by simp [results, Tryz.results82, go_sem]) rfl ⟨rfl, ?_⟩
    exact balloc (balloc (Below.refl _ _) _) _
  | false =>
    simp only [tokI, Bool.false_eq_true, if_false]
    go_enter Tryz.func82, Tryz.ntmps82
    go_wp2
    refine bodyPost_ret (v := .agg #[.int .i64 1, .int .i64 a, .int .i64 n, .string s]) (by simp [results, Tryz.results82, go_sem]) rfl ⟨rfl, ?_⟩
    exact balloc (balloc (Below.refl _ _) _) _

set_option maxRecDepth 100000 in
theorem rightHead_any (S : Nat → Prop) (nm : ByteArray) (a : Int) (ws : List WI) (b : Bool) (vw : Value) (kp : Option Addr) (kn kc : Nat) (w : World) (r : Bool) (hv : WsV S w vw ws) (hS : ∀ b, S b → b < w.heap.size) (h1 : nm.size ≤ maxLen) (h2 : ∀ x ∈ ws, x.Wf)
    (hr : Hid (r = true ↔ HeadOk nm ws)) (P : Pows w) :
    Calls Tryz.prog 66 #[.agg #[.string nm, .int .i64 a, vw, .bool b, .slice kp kn kc]] w fun e w' => e = .returned (.bool r) ∧ Below w.heap.size w w' := by
  obtain ⟨ptr, cap, rfl, hl⟩ := hv
  by_cases h8 : 8 < ws.length
  · have d8 : decide ((8 : Int) < (ws.length : Int)) = true := decide_eq_true (by omega)
    obtain rfl : r = false := by
      cases r with
      | false => rfl
      | true => have := (hr.out.1 rfl).1; omega
    clear hl h8 h1 h2 hr
    go_enter Tryz.func66, Tryz.ntmps66
    go_wp2_with fail
    go_ret
    exact ⟨rfl, balloc (Below.refl _ _) _⟩
  have d8 : decide ((8 : Int) < (ws.length : Int)) = false := decide_eq_false (by omega)
  have h8' : ws.length ≤ 8 := by omega
  have HL := Lib.hid hl
  have HW := Lib.hid (hdT_wf nm ws h1 h2)
  obtain ⟨t, er, hJ, hE⟩ := joinIs_ex (hdT nm ws).length (fun i => (hdT nm ws).getD i ⟨0, 0, 0, ⟨#[]⟩⟩) (by simp [hdT]; omega)
  have hre : ((er : Int) == 0) = r := by
    rcases hE with ⟨rfl, h⟩ | ⟨rfl, h⟩
    · have := (fine_all nm ws).1 h
      rw [hr.out.2 ⟨h8', this.1, this.2⟩]
      rfl
    · cases r with
      | false => rfl
      | true =>
        have := hr.out.1 rfl
        exact absurd ((fine_all nm ws).2 ⟨this.2.1, this.2.2⟩) h
  have HJ := Lib.hid hJ
  clear hl h8 hr hE hJ h1 h2
  go_enter Tryz.func66, Tryz.ntmps66
  go_wp2_with fail
  have X := OneC.fresh 80 4 w (balloc (Below.refl w.heap.size w) (.cells #[.string nm, .int .i64 a, .slice ptr ws.length cap, .bool b, .slice kp kn kc] 25)) #[.int .i64 1, .int .i64 0, .int .i64 0, .string nm] 1 (w.heap.size + 1) (by simp) (by unfold maxLen; omega) rfl
  go_loopw [3, 19] (fun V J wr => ∃ j : Nat, j ≤ ws.length ∧ J = .int .i64 j ∧ OneC 80 4 w wr V (hdT nm (ws.take j)).length (tcs (hdT nm (ws.take j)))) (fun _ J _ => ws.length - (intOf J).toNat)
  case atStart => exact ⟨0, by omega, rfl, X⟩
  case round =>
    clear X
    obtain ⟨j, hj, rfl, X⟩ := hrel
    by_cases hlt : j < ws.length
    · obtain ⟨g, o, rfl, hf⟩ := HL.out.resolve_left (by intro e; rw [e] at hlt; simp at hlt)
      obtain ⟨h0, x0, x1, x2, x3⟩ := hf.get j hlt
      have lg := hS g h0
      have B1 := X.below
      have hst : Hid (hdT nm (ws.take (j + 1)) = hdT nm (ws.take j) ++ [tokI ws[j]]) := Lib.hid (by
        rw [List.take_add_one, List.getElem?_eq_getElem hlt]
        simp only [hdT, List.map_append, Option.toList, List.map_cons, List.map_nil, List.cons_append])
      have hl2 : (hdT nm (ws.take j)).length ≤ 9 := by simp [hdT]; omega
      replace x0 := (B1.cell (p := ⟨g, _, none⟩) lg).trans x0
      replace x1 := (B1.cell (p := ⟨g, _, none⟩) lg).trans x1
      replace x2 := (B1.cell (p := ⟨g, _, none⟩) lg).trans x2
      replace x3 := (B1.cell (p := ⟨g, _, none⟩) lg).trans x3
      have lg' := Nat.lt_of_lt_of_le lg B1.size
      generalize ws[j] = x at *
      have ct := fun w => tokenOf_any x w
      obtain ⟨xp, xn, xs, xa⟩ := x
      simp only at x0 x1 x2 x3 ct
      obtain ⟨T, hT⟩ : ∃ T, tokI ⟨xp, xn, xs, xa⟩ = T := ⟨_, rfl⟩
      rw [hT] at hst ct
      obtain ⟨L, hL⟩ : ∃ L, hdT nm (ws.take j) = L := ⟨_, rfl⟩
      rw [hL] at X hl2 hst
      clear hf h0 B1 hT hL
      go_wp2_with fail
      refine (ct _).mono ?_
      rintro e w2 ⟨rfl, hb⟩
      have X2 := (X.kept (balloc (Below.refl _ _) _)).kept hb
      clear X hb ct
      go_wp2_with (first | (at_builtin; refine put_c 74 underT infoT (by rfl) (by decide) (by go_simp) _ _ rfl (X2.kept (balloc (Below.refl _ _) _)) rfl rfl (holds_one (EL := 80) (Blk.at_ rfl) rfl (one_tcI T)) (by omega) (by unfold maxLen; omega) ?_))
      intro V3 w3 X3 _
      clear X2
      go_wp2_with fail
      go_roundw
      case rel => exact ⟨j + 1, by omega, by go_num, by rw [hst.out, tcs_snoc, List.length_append]; exact X3⟩
      case measure => simp [intOf]; omega
    · obtain rfl : j = ws.length := by omega
      rw [List.take_length] at X
      have T := tokAt_of X
      have B := X.below
      have PW := P.kept B
      clear X
      go_wp2_with fail
      refine (Join_any _ _ _ t er _ T PW (by simp [hdT]; omega) HW HJ).mono ?_
      rintro e w2 ⟨rfl, hb⟩
      have B2 := bthen B hb
      clear hb T PW B
      go_wp2_with fail
      go_ret
      exact ⟨rfl, B2⟩

end Go.Proofs.YtnjmokmlnpehdaaGreatDoor.Yg

namespace Go.Proofs.YtnjmokmlnpehdaaGreatDoor.Yg
set_option linter.unusedSimpArgs false
set_option linter.unusedVariables false
open Go Go.RowKit Go.Proofs.YtnjmokmlnpehdaaGreatDoor.Zk Go.Proofs.YtnjmokmlnpehdaaGreatDoor.Zm Go.Proofs.YtnjmokmlnpehdaaGreatDoor.Ym Go.Proofs.YtnjmokmlnpehdaaGreatDoor.Bn Go.Proofs.YtnjmokmlnpehdaaGreatDoor.Zp

set_option maxHeartbeats 2000000

set_option maxRecDepth 100000 in
theorem checkIn_any (N : Nat) (hN : N ≤ 1000000) : ∀ (l : List NI) (v : Value) (S : Nat → Prop) (w : World) (d : Nat), cntL l < N → d + N ≤ 1000010 → NsV S w v l → (∀ b, S b → b < w.heap.size) → WfL l → Pows w →
    Calls Tryz.prog 47 #[v, .int .i64 d] w fun e w' => e = .returned (.int .i64 (chkL d l : Nat)) ∧ Below w.heap.size w w' := by
  induction N with
  | zero => intro l v S w d h; omega
  | succ N ih =>
    intro l v S w d hc hd hv hS hwf P
    have ih := ih (by omega)
    obtain ⟨ptr, cap, rfl, hl⟩ := hv
    have HL := Lib.hid hl
    have HWf := Lib.hid hwf
    have hlen := cnt_len l
    clear hl hwf
    go_enter Tryz.func47, Tryz.ntmps47
    go_wp2_with fail
    go_loopw [10] (fun I wr => ∃ k : Nat, k ≤ l.length ∧ I = .int .i64 k ∧ Hid (chkL d (l.take k) = 0) ∧ Below w.heap.size w wr) (fun I _ => l.length - (intOf I).toNat)
    case atStart => exact ⟨0, by omega, rfl, Lib.hid (by simp [chkL]), Below.refl _ _⟩
    case round =>
      obtain ⟨k, hk, rfl, H0, B1⟩ := hrel
      by_cases hlt : k < l.length
      · obtain ⟨g, o, rfl, hf⟩ := HL.out.resolve_left (by intro e; rw [e] at hlt; simp at hlt)
        obtain ⟨nm, a, ws, b, ks, vw, vk, he, h0, x0, x1, x2, x3, x4, hw, hks⟩ := (hf.get k hlt).un
        have hcn := cnt_get l k hlt
        obtain ⟨c1, c2⟩ := chk_take d l k hlt H0.out
        have hwn := HWf.out.get k hlt
        rw [he] at hcn c1 c2 hwn
        simp only [cntN] at hcn
        obtain ⟨f1, f2, f3⟩ := hwn
        have lg := hS g h0
        obtain ⟨kp, kc, rfl, hks⟩ := hks
        obtain ⟨r, hr⟩ : ∃ r : Bool, r = true ↔ HeadOk nm ws := by
          by_cases h : HeadOk nm ws
          · exact ⟨true, by simp [h]⟩
          · exact ⟨false, by simp [h]⟩
        have ch := fun W (hB : Below w.heap.size w W) => rightHead_any S nm a ws b vw kp ks.length kc W r (hw.on hS hB) (fun b hb => Nat.lt_of_lt_of_le (hS b hb) hB.size) f1 f2 (Lib.hid hr) (P.kept hB)
        have ck : ∀ W, Below w.heap.size w W → Calls Tryz.prog 47 #[.slice kp ks.length kc, .int .i64 ((d : Int) + 1)] W fun e w' => e = .returned (.int .i64 (chkL (d + 1) ks : Nat)) ∧ Below W.heap.size W w' := fun W hB => ih ks (.slice kp ks.length kc) S W (d + 1) (by omega) (by omega) (NsV.on (W := w) ⟨kp, kc, rfl, hks⟩ hS hB) (fun b hb => Nat.lt_of_lt_of_le (hS b hb) hB.size) f3 (P.kept hB)
        replace x0 := (B1.cell (p := ⟨g, _, none⟩) lg).trans x0
        replace x1 := (B1.cell (p := ⟨g, _, none⟩) lg).trans x1
        replace x2 := (B1.cell (p := ⟨g, _, none⟩) lg).trans x2
        replace x3 := (B1.cell (p := ⟨g, _, none⟩) lg).trans x3
        replace x4 := (B1.cell (p := ⟨g, _, none⟩) lg).trans x4
        have hkl := cnt_len ks
        have lg' := Nat.lt_of_lt_of_le lg B1.size
        have hwv : ∃ p c, vw = .slice p ws.length c := by
          obtain ⟨p, c, e, _⟩ := hw
          exact ⟨p, c, e⟩
        obtain ⟨wp, wc, rfl⟩ := hwv
        have HC1 := Lib.hid c1
        have HC2 := Lib.hid c2
        have HR := Lib.hid hr
        clear hf h0 he hw hks c1 c2 f1 f2 f3 hr ih
        obtain ⟨E, hE⟩ : ∃ E, chkN d (.mk nm a ws b ks) = E := ⟨_, rfl⟩
        rw [hE] at HC1 HC2
        go_wp2_with fail
        refine (ch _ (balloc B1 _)).mono ?_
        rintro e w2 ⟨rfl, hb⟩
        have B2 := bthen (balloc B1 _) hb
        obtain ⟨_, c0, c1, c2, c3, c4⟩ := ((Box.new wr #[.string nm, .int .i64 a, .slice wp ws.length wc, .bool b, .slice kp ks.length kc] 25).kept hb).five
        clear hb ch x0 x1 x2 x3 x4
        have er : HeadOk nm ws ∨ r = false := by
          cases r with
          | true => exact .inl (HR.out.1 rfl)
          | false => exact .inr rfl
        simp only [chkN] at hE
        by_cases hh : HeadOk nm ws
        · obtain rfl := HR.out.2 hh
          by_cases hkb : 0 < ks.length ∧ b = false
          · obtain ⟨hk0, rfl⟩ := hkb
            rw [if_pos (.inr ⟨hk0, rfl⟩)] at hE
            have Y : Hid (chkL d l = 1) := Lib.hid (by rw [HC2.out (by omega), hE])
            have dk : decide (0 < ks.length) = true := decide_eq_true hk0
            have dk2 : decide ((0 : Int) < (ks.length : Int)) = true := decide_eq_true (by omega)
            clear HC1 HC2 HR ck hE hh er H0 HL HWf
            go_wp2_with fail
            refine bodyPost_ret (v := .int .i64 1) (by simp [results, Tryz.results47, go_sem]) rfl ⟨by rw [Y.out]; rfl, B2⟩
          · rw [if_neg (fun q => q.elim (fun q => q hh) hkb)] at hE
            have dk : (decide ((0 : Int) < (ks.length : Int)) = true ∧ decide (0 < ks.length) = true ∧ b = true) ∨ (decide ((0 : Int) < (ks.length : Int)) = false ∧ decide (0 < ks.length) = false) := by
              by_cases q : 0 < ks.length
              · exact .inl ⟨decide_eq_true (by omega), decide_eq_true q, by
                  cases b with
                  | true => rfl
                  | false => exact absurd ⟨q, rfl⟩ hkb⟩
              · exact .inr ⟨decide_eq_false (by omega), decide_eq_false q⟩
            by_cases hb6 : b = true ∧ d = 6
            · obtain ⟨rfl, rfl⟩ := hb6
              rw [if_pos ⟨rfl, rfl⟩] at hE
              have Y : Hid (chkL 6 l = 7) := Lib.hid (by rw [HC2.out (by omega), hE])
              clear HC1 HC2 HR ck hE hh er H0 HL HWf hkb
              rcases dk with ⟨dk1, dk2, -⟩ | ⟨dk1, dk2⟩
              all_goals
                go_wp2_with fail
                refine bodyPost_ret (v := .int .i64 7) (by simp [results, Tryz.results47, go_sem]) rfl ⟨by rw [Y.out]; rfl, B2⟩
            · rw [if_neg hb6] at hE
              have db : (b = true ∧ ((d : Int) == 6) = false) ∨ b = false := by
                cases b with
                | true => exact .inl ⟨rfl, beq_eq_false_iff_ne.2 (fun q => hb6 ⟨rfl, by omega⟩)⟩
                | false => exact .inr rfl
              rw [hE] at ck
              have hv := chk_val d (.mk nm a ws b ks)
              have hE2 : chkN d (.mk nm a ws b ks) = E := by
                simp only [chkN]
                rw [if_neg (fun q => q.elim (fun q => q hh) hkb), if_neg hb6]
                exact hE
              rw [hE2] at hv
              have dE : (E = 0 ∧ ((E : Int) != 0) = false) ∨ (¬ E = 0 ∧ ((E : Int) != 0) = true) := by
                by_cases q : E = 0
                · exact .inl ⟨q, by simp [q]⟩
                · exact .inr ⟨q, by simp [q]⟩
              clear hE hh er hkb hb6 hv hE2 HR H0
              have ck := Lib.hid ck
              rcases dE with ⟨e0, dE⟩ | ⟨e0, dE⟩
              · have HN := Lib.hid (HC1.out.trans e0)
                clear HC1 HC2 e0
                rcases dk with ⟨dk1, dk2, rfl⟩ | ⟨dk1, dk2⟩
                · rcases db with ⟨-, d6⟩ | q
                  · go_wp2_with fail
                    refine (ck.out _ B2).mono ?_
                    rintro e w3 ⟨rfl, hb3⟩
                    have B3 := bthen B2 hb3
                    clear hb3
                    go_wp2_with fail
                    go_roundw
                    case rel => exact ⟨k + 1, by omega, by go_num, HN, B3⟩
                    case measure => simp [intOf]; omega
                  · cases q
                · rcases db with ⟨rfl, d6⟩ | rfl
                  all_goals
                    go_wp2_with fail
                    refine (ck.out _ B2).mono ?_
                    rintro e w3 ⟨rfl, hb3⟩
                    have B3 := bthen B2 hb3
                    clear hb3
                    go_wp2_with fail
                    go_roundw
                    case rel => exact ⟨k + 1, by omega, by go_num, HN, B3⟩
                    case measure => simp [intOf]; omega
              · have Y : Hid (chkL d l = E) := Lib.hid (HC2.out e0)
                clear HC1 HC2 e0
                rcases dk with ⟨dk1, dk2, rfl⟩ | ⟨dk1, dk2⟩
                · rcases db with ⟨-, d6⟩ | q
                  · go_wp2_with fail
                    refine (ck.out _ B2).mono ?_
                    rintro e w3 ⟨rfl, hb3⟩
                    have B3 := bthen B2 hb3
                    clear hb3
                    go_wp2_with fail
                    refine bodyPost_ret (v := .int .i64 E) (by simp [results, Tryz.results47, go_sem]) rfl ⟨by rw [Y.out], B3⟩
                  · cases q
                · rcases db with ⟨rfl, d6⟩ | rfl
                  all_goals
                    go_wp2_with fail
                    refine (ck.out _ B2).mono ?_
                    rintro e w3 ⟨rfl, hb3⟩
                    have B3 := bthen B2 hb3
                    clear hb3
                    go_wp2_with fail
                    refine bodyPost_ret (v := .int .i64 E) (by simp [results, Tryz.results47, go_sem]) rfl ⟨by rw [Y.out], B3⟩
        · have er : r = false := by
            cases r with
            | true => exact absurd (HR.out.1 rfl) hh
            | false => rfl
          subst er
          rw [if_pos (.inl hh)] at hE
          have Y : Hid (chkL d l = 1) := Lib.hid (by rw [HC2.out (by omega), hE])
          clear HC1 HC2 HR ck hE hh er H0 HL HWf
          go_wp2_with fail
          refine bodyPost_ret (v := .int .i64 1) (by simp [results, Tryz.results47, go_sem]) rfl ⟨by rw [Y.out]; rfl, B2⟩
      · obtain rfl : k = l.length := by omega
        rw [List.take_length] at H0
        go_wp2_with fail
        refine bodyPost_ret (v := .int .i64 0) (by simp [results, Tryz.results47, go_sem]) rfl ⟨by rw [H0.out]; rfl, B1⟩

set_option maxRecDepth 100000 in
theorem Check_any (l : List NI) (v : Value) (S : Nat → Prop) (w : World) (hc : cntL l ≤ 100000) (hv : NsV S w v l) (hS : ∀ b, S b → b < w.heap.size) (hwf : WfL l) (P : Pows w) :
    Calls Tryz.prog 23 #[v] w fun e w' => e = .returned (.int .i64 (chkL 0 l : Nat)) ∧ Below w.heap.size w w' := by
  have c := checkIn_any 1000000 (by omega) l v S w 0 (by omega) (by omega) hv hS hwf P
  go_enter Tryz.func23, Tryz.ntmps23
  go_wp2_with fail
  refine c.mono ?_
  rintro e w2 ⟨rfl, hb⟩
  go_wp2_with fail
  go_ret
  exact ⟨rfl, hb⟩

end Go.Proofs.YtnjmokmlnpehdaaGreatDoor.Yg

namespace Go.Proofs.YtnjmokmlnpehdaaGreatDoor.Yg
set_option linter.unusedSimpArgs false
set_option linter.unusedVariables false
open Go Go.RowKit Go.Proofs.YtnjmokmlnpehdaaGreatDoor.Zm Go.Proofs.YtnjmokmlnpehdaaGreatDoor.Ym Go.Proofs.YtnjmokmlnpehdaaGreatDoor.Bn

set_option maxHeartbeats 2000000

theorem drop_no (f : List NI → Int → Int) {l : List NI} {k : Nat} (hk : k < l.length) {nm : ByteArray} {a : Int} {ws : List WI} {b : Bool} {ks : List NI} (he : l[k] = .mk nm a ws b ks) (m : Int) (h : ¬ (m < 0 ∨ 20 < ws.length)) : lftGo f (l.drop k) m = lftGo f (l.drop (k + 1)) (f ks (m - 1)) := by
  rw [List.drop_eq_getElem_cons hk, he]
  exact if_neg h
theorem drop_yes (f : List NI → Int → Int) {l : List NI} {k : Nat} (hk : k < l.length) {nm : ByteArray} {a : Int} {ws : List WI} {b : Bool} {ks : List NI} (he : l[k] = .mk nm a ws b ks) (m : Int) (h : m < 0 ∨ 20 < ws.length) : lftGo f (l.drop k) m = -1 := by
  rw [List.drop_eq_getElem_cons hk, he]
  exact if_pos h

set_option maxRecDepth 100000 in
theorem rLeftI_any (d : Nat) (hd : d ≤ 100) : ∀ (l : List NI) (v : Value) (S : Nat → Prop) (w : World) (M : Int), NsV S w v l → (∀ b, S b → b < w.heap.size) → l.length ≤ maxLen → LenL l → -1 ≤ M → M ≤ 1000000 →
    Calls Tryz.prog 27 #[v, .int .i64 M, .int .i64 d] w fun e w' => e = .returned (.int .i64 (lft d l M)) ∧ Below w.heap.size w w' := by
  induction d with
  | zero =>
    intro l v S w M hv hS hl hL hM1 hM2
    obtain ⟨ptr, cap, rfl, hl2⟩ := hv
    by_cases hp : 0 < l.length
    · have d1 : decide ((0 : Int) < (l.length : Int)) = true := decide_eq_true (by omega)
      have d2 : decide (0 < l.length) = true := decide_eq_true hp
      have e : lft 0 l M = -1 := by simp only [lft, if_pos hp]
      rw [e]
      clear hl2 hp e
      go_enter Tryz.func27, Tryz.ntmps27
      go_wp2_with fail
      refine bodyPost_ret (v := .int .i64 (-1)) (by simp [results, Tryz.results27, go_sem]) rfl ⟨rfl, Below.refl _ _⟩
    · have e0 : l = [] := List.eq_nil_of_length_eq_zero (by omega)
      subst e0
      have e : lft 0 [] M = M := by simp [lft]
      rw [e]
      clear hl2 hp e
      go_enter Tryz.func27, Tryz.ntmps27
      go_wp2_with fail
      refine wp_loop_rounds 1 ?_
      rw [rounds_succ]
      go_wp2_with fail
      refine bodyPost_ret (v := .int .i64 M) (by simp [results, Tryz.results27, go_sem]) rfl ⟨rfl, Below.refl _ _⟩
  | succ d ih =>
    intro l v S w M hv hS hl hL hM1 hM2
    have ih := ih (by omega)
    obtain ⟨ptr, cap, rfl, hl2⟩ := hv
    have HL := Lib.hid hl2
    have HLen := Lib.hid hL
    unfold maxLen at hl
    obtain ⟨D, hD⟩ : ∃ D : Int, ((d + 1 : Nat) : Int) = D := ⟨_, rfl⟩
    rw [hD]
    have hD1 : 1 ≤ D ∧ D ≤ 101 := by omega
    have d0 : (D == 0) = false := beq_eq_false_iff_ne.2 (by omega)
    have HD : Hid (D - 1 = (d : Int)) := Lib.hid (by omega)
    clear hD
    obtain ⟨R, hR⟩ : ∃ R, lft (d + 1) l M = R := ⟨_, rfl⟩
    rw [hR]
    have HR0 : Hid (lftGo (lft d) (l.drop 0) M = R) := Lib.hid (by rw [← hR]; rfl)
    clear hl2 hL hR
    go_enter Tryz.func27, Tryz.ntmps27
    go_wp2_with fail
    go_loopw [1, 18] (fun Q I wr => ∃ (k : Nat) (q : Int), k ≤ l.length ∧ I = .int .i64 k ∧ Q = .int .i64 q ∧ -1 ≤ q ∧ q ≤ M ∧ Hid (lftGo (lft d) (l.drop k) q = R) ∧ Below w.heap.size w wr) (fun _ I _ => l.length - (intOf I).toNat)
    case atStart => exact ⟨0, M, by omega, rfl, rfl, hM1, by omega, HR0, Below.refl _ _⟩
    case round =>
      clear HR0
      obtain ⟨k, q, hk, rfl, rfl, hq1, hq2, HR, B1⟩ := hrel
      by_cases hlt : k < l.length
      · obtain ⟨g, o, rfl, hf⟩ := HL.out.resolve_left (by intro e; rw [e] at hlt; simp at hlt)
        obtain ⟨nm, a, ws, b, ks, vw, vk, he, h0, x0, x1, x2, x3, x4, hw, hks⟩ := (hf.get k hlt).un
        have hst1 := drop_no (lft d) hlt he q
        have hst2 := drop_yes (lft d) hlt he q
        have hln := HLen.out.get k hlt
        rw [he] at hln
        obtain ⟨f1, f2, f3⟩ := hln
        have lg := hS g h0
        obtain ⟨kp, kc, rfl, hks⟩ := hks
        obtain ⟨wp, wc, rfl, -⟩ := hw
        replace x0 := (B1.cell (p := ⟨g, _, none⟩) lg).trans x0
        replace x1 := (B1.cell (p := ⟨g, _, none⟩) lg).trans x1
        replace x2 := (B1.cell (p := ⟨g, _, none⟩) lg).trans x2
        replace x3 := (B1.cell (p := ⟨g, _, none⟩) lg).trans x3
        replace x4 := (B1.cell (p := ⟨g, _, none⟩) lg).trans x4
        have lg' := Nat.lt_of_lt_of_le lg B1.size
        by_cases hq : q < 0 ∨ 20 < ws.length
        · have hst := hst2 hq
          rw [HR.out] at hst
          subst hst
          clear hst1 hst2
          clear hf h0 he hks f1 f2 f3 ih
          by_cases hq0 : q < 0
          · have dq : decide (q < 0) = true := decide_eq_true hq0
            go_wp2_with fail
            refine bodyPost_ret (v := .int .i64 (-1)) (by simp [results, Tryz.results27, go_sem]) rfl ⟨rfl, balloc B1 _⟩
          · have dq : decide (q < 0) = false := decide_eq_false hq0
            have dw : decide ((20 : Int) < (ws.length : Int)) = true := decide_eq_true (by omega)
            go_wp2_with fail
            refine bodyPost_ret (v := .int .i64 (-1)) (by simp [results, Tryz.results27, go_sem]) rfl ⟨rfl, balloc B1 _⟩
        · have hst := hst1 hq
          rw [HR.out] at hst
          clear hst1 hst2
          have dq : decide (q < 0) = false := decide_eq_false (by omega)
          have dw : decide ((20 : Int) < (ws.length : Int)) = false := decide_eq_false (by omega)
          have hbd := lft_bd d ks (q - 1) (by omega)
          have ck : ∀ W, Below w.heap.size w W → Calls Tryz.prog 27 #[.slice kp ks.length kc, .int .i64 (q - 1), .int .i64 (D - 1)] W fun e w' => e = .returned (.int .i64 (lft d ks (q - 1))) ∧ Below W.heap.size W w' := fun W hB => by
            rw [HD.out]
            exact ih ks _ S W (q - 1) (NsV.on (W := w) ⟨kp, kc, rfl, hks⟩ hS hB) (fun b hb => Nat.lt_of_lt_of_le (hS b hb) hB.size) f2 f3 (by omega) (by omega)
          obtain ⟨Q, hQ⟩ : ∃ Q, lft d ks (q - 1) = Q := ⟨_, rfl⟩
          simp only [hQ] at ck
          rw [hQ] at hst hbd
          have HS := Lib.hid hst.symm
          have ck := Lib.hid ck
          clear hf h0 he hks f1 f2 f3 ih hst hQ
          go_wp2_with fail
          refine (ck.out _ (balloc B1 _)).mono ?_
          rintro e w2 ⟨rfl, hb⟩
          have B2 := bthen (balloc B1 _) hb
          clear hb ck
          go_wp2_with fail
          go_roundw
          case rel =>
            exact ⟨k + 1, Q, by omega, by go_num, rfl, by omega, by omega, HS, B2⟩
          case measure => simp [intOf]; omega
      · obtain rfl : k = l.length := by omega
        have e : q = R := by rw [← HR.out, List.drop_length]; rfl
        subst e
        go_wp2_with fail
        refine bodyPost_ret (v := .int .i64 q) (by simp [results, Tryz.results27, go_sem]) rfl ⟨rfl, B1⟩

set_option maxRecDepth 100000 in
theorem rFewI_any (l : List NI) (v : Value) (S : Nat → Prop) (w : World) (M : Int) (r : Bool) (hv : NsV S w v l) (hS : ∀ b, S b → b < w.heap.size) (hl : l.length ≤ maxLen) (hL : LenL l) (h1 : -1 ≤ M) (h2 : M ≤ 1000000) (hr : Hid (decide (0 ≤ lft 12 l M) = r)) :
    Calls Tryz.prog 12 #[v, .int .i64 M] w fun e w' => e = .returned (.bool r) ∧ Below w.heap.size w w' := by
  have c := rLeftI_any 12 (by omega) l v S w M hv hS hl hL h1 h2
  obtain ⟨p, q, rfl, -⟩ := hv
  have hr := hr.out
  obtain ⟨Q, hQ⟩ : ∃ Q, lft 12 l M = Q := ⟨_, rfl⟩
  rw [hQ] at c hr
  clear hQ
  go_enter Tryz.func12, Tryz.ntmps12
  go_wp2_with fail
  refine c.mono ?_
  rintro e w2 ⟨rfl, hb⟩
  go_wp2_with fail
  go_ret
  exact ⟨rfl, hb⟩

end Go.Proofs.YtnjmokmlnpehdaaGreatDoor.Yg

namespace Go.Proofs.YtnjmokmlnpehdaaGreatDoor.Yg
set_option linter.unusedSimpArgs false
set_option linter.unusedVariables false
open Go Go.RowKit Go.Proofs.YtnjmokmlnpehdaaGreatDoor.Zm Go.Proofs.YtnjmokmlnpehdaaGreatDoor.Ym Go.Proofs.YtnjmokmlnpehdaaGreatDoor.Bn

set_option maxHeartbeats 2000000

theorem wd_neq (p p' : Bool) (n n' a : Int) (s s' : ByteArray) (w : World) :
    (binOp .neq 45 (.agg #[.bool p, .int .i64 n, .string s, .int .i64 a]) (.agg #[.bool p', .int .i64 n', .string s', .int .i64 a])).run Tryz.prog w = .ok (.bool (!decide (p = p' ∧ n = n' ∧ s = s'))) w := by
  by_cases h1 : p = p'
  · by_cases h3 : n = n'
    · by_cases h4 : s = s'
      · subst h1 h3 h4; simp [go_sem]
      · simp [go_sem, h1, h3, h4]; intro e; exact h4 (by rw [ByteArray.toList_eq, ByteArray.toList_eq] at e; exact ByteArray.ext (Array.toList_inj.1 e))
    · simp [go_sem, h1, h3]
  · simp [go_sem, h1]
theorem str_ne {a b : ByteArray} (h : a ≠ b) : (a.toList == b.toList) = false := beq_eq_false_iff_ne.2 (fun e => h (by
  rw [ByteArray.toList_eq, ByteArray.toList_eq] at e
  exact ByteArray.ext (Array.toList_inj.1 e)))

set_option maxRecDepth 100000 in
theorem rSameI_any (N : Nat) (hN : N ≤ 1000000) : ∀ (l m : List NI) (v u : Value) (S : Nat → Prop) (w : World) (r : Bool), cntL l < N → WsL 1000000 l → NsV S w v l → NsV S w u m → (∀ b, S b → b < w.heap.size) → Hid (r = true ↔ SameL l m) →
    Calls Tryz.prog 22 #[v, u] w fun e w' => e = .returned (.bool r) ∧ Below w.heap.size w w' := by
  induction N with
  | zero => intro l m v u S w r h; omega
  | succ N ih =>
    intro l m v u S w r hc hws hv hu hS hr
    have ih := ih (by omega)
    obtain ⟨p1, c1, rfl, h1⟩ := hv
    obtain ⟨p2, c2, rfl, h2⟩ := hu
    have hlen := cnt_len l
    by_cases hlm : l.length = m.length
    · have dn : ((l.length : Int) != (m.length : Int)) = false := by simp [hlm]
      have H1 := Lib.hid h1
      have H2 := Lib.hid h2
      have HLM := Lib.hid hlm
      have HWs := Lib.hid hws
      clear h1 h2 hlm hws
      go_enter Tryz.func22, Tryz.ntmps22
      go_wp2_with fail
      go_loopw [17] (fun I wr => ∃ k : Nat, k ≤ l.length ∧ I = .int .i64 k ∧ Hid (∀ i (h1 : i < l.length) (h2 : i < m.length), i < k → SameN l[i] m[i]) ∧ Below w.heap.size w wr) (fun I _ => l.length - (intOf I).toNat)
      case atStart => exact ⟨0, by omega, rfl, Lib.hid (fun i _ _ h => by omega), Below.refl _ _⟩
      case round =>
        obtain ⟨k, hk, rfl, HE, B1⟩ := hrel
        by_cases hlt : k < l.length
        · have hkm : k < m.length := by have := HLM.out; omega
          obtain ⟨g, o, rfl, f1⟩ := H1.out.resolve_left (by intro e; rw [e] at hlt; simp at hlt)
          obtain ⟨g2, o2, rfl, f2⟩ := H2.out.resolve_left (by intro e; rw [e] at hkm; simp at hkm)
          obtain ⟨nm, a, ws, b, ks, vw, vk, he, s1, x0, x1, x2, x3, x4, hw, hk1⟩ := (f1.get k hlt).un
          obtain ⟨nm', a', ws', b', ks', vw', vk', he', s2, y0, y1, y2, y3, y4, hw', hk2⟩ := (f2.get k hkm).un
          have lg := hS g s1
          have lg2 := hS g2 s2
          have hcn := cnt_get l k hlt
          have hwk := HWs.out.get k hlt
          have hno : ¬ SameN l[k] m[k] → r = false := fun q => by
            cases r with
            | false => rfl
            | true => exact absurd (((sameL_iff l m).1 (hr.out.1 rfl)).2 k hlt hkm) q
          have hyes : SameN l[k] m[k] → ∀ i (h1 : i < l.length) (h2 : i < m.length), i < k + 1 → SameN l[i] m[i] := fun e i h1 h2 h3 => by
            by_cases h4 : i < k
            · exact HE.out i h1 h2 h4
            · obtain rfl : i = k := by omega
              exact e
          rw [he] at hcn hwk hno hyes
          rw [he'] at hno hyes
          simp only [cntN] at hcn
          simp only [SameN] at hno hyes
          obtain ⟨hw20, hwsk⟩ := hwk
          replace x0 := (B1.cell (p := ⟨g, _, none⟩) lg).trans x0
          replace x1 := (B1.cell (p := ⟨g, _, none⟩) lg).trans x1
          replace x2 := (B1.cell (p := ⟨g, _, none⟩) lg).trans x2
          replace x3 := (B1.cell (p := ⟨g, _, none⟩) lg).trans x3
          replace x4 := (B1.cell (p := ⟨g, _, none⟩) lg).trans x4
          replace y0 := (B1.cell (p := ⟨g2, _, none⟩) lg2).trans y0
          replace y1 := (B1.cell (p := ⟨g2, _, none⟩) lg2).trans y1
          replace y2 := (B1.cell (p := ⟨g2, _, none⟩) lg2).trans y2
          replace y3 := (B1.cell (p := ⟨g2, _, none⟩) lg2).trans y3
          replace y4 := (B1.cell (p := ⟨g2, _, none⟩) lg2).trans y4
          have lg' := Nat.lt_of_lt_of_le lg B1.size
          have lg2' := Nat.lt_of_lt_of_le lg2 B1.size
          obtain ⟨wp, wc, rfl, hwf⟩ := hw
          obtain ⟨up, uc, rfl, huf⟩ := hw'
          obtain ⟨kp, kc, rfl, hkf⟩ := hk1
          obtain ⟨jp, jc, rfl, hjf⟩ := hk2
          have HW := Lib.hid hwf
          have HU := Lib.hid huf
          have HK := Lib.hid hkf
          have HJ := Lib.hid hjf
          have Hno := Lib.hid hno
          have Hyes := Lib.hid hyes
          have Hih := Lib.hid ih
          clear hwf huf hkf hjf f1 f2 he he' s1 s2 HE hno hyes ih
          by_cases q1 : nm = nm'
          · subst q1
            by_cases q2 : b = b'
            · subst q2
              by_cases q3 : ws.length = ws'.length
              · rw [← q3] at y2
                obtain ⟨q, hq⟩ : ∃ q : Bool, q = true ↔ SameL ks ks' := by
                  by_cases h : SameL ks ks'
                  · exact ⟨true, by simp [h]⟩
                  · exact ⟨false, by simp [h]⟩
                have ck : ∀ W, Below w.heap.size w W → Calls Tryz.prog 22 #[.slice kp ks.length kc, .slice jp ks'.length jc] W fun e w' => e = .returned (.bool q) ∧ Below W.heap.size W w' := fun W hB =>
                  Hih.out ks ks' _ _ S W q (by omega) hwsk (NsV.on (W := w) ⟨kp, kc, rfl, HK.out⟩ hS hB) (NsV.on (W := w) ⟨jp, jc, rfl, HJ.out⟩ hS hB) (fun b hb => Nat.lt_of_lt_of_le (hS b hb) hB.size) (Lib.hid hq)
                have ck := Lib.hid ck
                have Hq := Lib.hid hq
                have HQ3 := Lib.hid q3
                clear hq q3 Hih hr
                cases q with
                | false =>
                  obtain rfl := Hno.out (fun h => by have := Hq.out.2 h.2.2.2; cases this)
                  clear Hno Hyes
                  go_wp2_with fail
                  refine (ck.out _ (balloc (balloc B1 _) _)).mono ?_
                  rintro e w2 ⟨rfl, hb⟩
                  have B2 := bthen (balloc (balloc B1 _) _) hb
                  clear hb ck
                  go_wp2_with fail
                  go_ret
                  exact ⟨rfl, B2⟩
                | true =>
                  obtain ⟨q, hq⟩ : ∃ q, ws.length = q := ⟨_, rfl⟩
                  have HQ := Lib.hid hq
                  rw [hq] at x2 y2 hw20
                  clear hq
                  obtain ⟨q4, hq4⟩ : ∃ q, ks.length = q := ⟨_, rfl⟩
                  obtain ⟨q5, hq5⟩ : ∃ q, ks'.length = q := ⟨_, rfl⟩
                  rw [hq4] at x4 ck
                  rw [hq5] at y4 ck
                  clear hq4 hq5 hcn hwsk
                  go_wp2_with fail
                  refine (ck.out _ (balloc (balloc B1 _) _)).mono ?_
                  rintro e w2 ⟨rfl, hb⟩
                  have B2 := bthen (balloc (balloc B1 _) _) hb
                  have P1 := ((Box.new wr #[.string nm, .int .i64 a, .slice wp q wc, .bool b, .slice kp q4 kc] 25).alloc (.cells #[.string nm, .int .i64 a', .slice up q uc, .bool b, .slice jp q5 jc] 25)).kept hb
                  have P2 := (Box.new (wr.alloc (.cells #[.string nm, .int .i64 a, .slice wp q wc, .bool b, .slice kp q4 kc] 25)) #[.string nm, .int .i64 a', .slice up q uc, .bool b, .slice jp q5 jc] 25).kept hb
                  rw [World.size_alloc] at P2
                  clear hb ck x0 x1 x2 x3 x4 y0 y1 y2 y3 y4
                  obtain ⟨z1, _, _, c2, _, _, _⟩ := id P1.five
                  go_wp2_with fail
                  go_loopw [58] (fun J w5 => ∃ j : Nat, j ≤ q ∧ J = .int .i64 j ∧ Hid (∀ i (h1 : i < ws.length) (h2 : i < ws'.length), i < j → stw ws[i] = stw ws'[i]) ∧ Below w2.heap.size w2 w5) (fun J _ => q - (intOf J).toNat)
                  case atStart => exact ⟨0, by omega, rfl, Lib.hid (fun i _ _ h => by omega), Below.refl _ _⟩
                  case round =>
                    clear c2
                    obtain ⟨j, hj, rfl, HJE, B3⟩ := hrel
                    have B5 := bthen B2 B3
                    by_cases hjt : j < q
                    · have hQ := HQ.out
                      have j1 : j < ws.length := by omega
                      have j2 : j < ws'.length := by rw [← HQ3.out]; exact j1
                      obtain ⟨gw, ow, rfl, hw⟩ := HW.out.resolve_left (by intro e; rw [e] at j1; simp at j1)
                      obtain ⟨gu, ou, rfl, hu⟩ := HU.out.resolve_left (by intro e; rw [e] at j2; simp at j2)
                      obtain ⟨t0, p0, p1, p2, p3⟩ := hw.get j j1
                      obtain ⟨t1, r0, r1, r2, r3⟩ := hu.get j j2
                      have lw := hS gw t0
                      have lu := hS gu t1
                      replace p0 := (B5.cell (p := ⟨gw, _, none⟩) lw).trans p0
                      replace p1 := (B5.cell (p := ⟨gw, _, none⟩) lw).trans p1
                      replace p2 := (B5.cell (p := ⟨gw, _, none⟩) lw).trans p2
                      replace p3 := (B5.cell (p := ⟨gw, _, none⟩) lw).trans p3
                      replace r0 := (B5.cell (p := ⟨gu, _, none⟩) lu).trans r0
                      replace r1 := (B5.cell (p := ⟨gu, _, none⟩) lu).trans r1
                      replace r2 := (B5.cell (p := ⟨gu, _, none⟩) lu).trans r2
                      replace r3 := (B5.cell (p := ⟨gu, _, none⟩) lu).trans r3
                      obtain ⟨z2, _, _, d2, _, _, _⟩ := id (P2.kept B3).five
                      have lw' := Nat.lt_of_lt_of_le lw B5.size
                      have lu' := Nat.lt_of_lt_of_le lu B5.size
                      obtain ⟨E, hE⟩ : ∃ E, (!decide (ws[j].num = ws'[j].num ∧ ws[j].n = ws'[j].n ∧ ws[j].s = ws'[j].s)) = E := ⟨_, rfl⟩
                      have hqn := fun w => wd_neq ws[j].num ws'[j].num ws[j].n ws'[j].n ws'[j].a ws[j].s ws'[j].s w
                      rw [hE] at hqn
                      have HE1 : Hid (E = true → r = false) := Lib.hid (fun e => by
                        subst e
                        refine Hno.out (fun h => ?_)
                        have := ((stw_iff ws ws').1 h.2.2.1).2 j j1 j2
                        simp only [stw, Prod.mk.injEq] at this
                        simp [this] at hE)
                      have HE2 : Hid (E = false → ∀ i (h1 : i < ws.length) (h2 : i < ws'.length), i < j + 1 → stw ws[i] = stw ws'[i]) := Lib.hid (fun e i h1 h2 h3 => by
                        by_cases h4 : i < j
                        · exact HJE.out i h1 h2 h4
                        · obtain rfl : i = j := by omega
                          subst e
                          have := of_decide_eq_true (by simpa using hE : decide (ws[i].num = ws'[i].num ∧ ws[i].n = ws'[i].n ∧ ws[i].s = ws'[i].s) = true)
                          simp only [stw, Prod.mk.injEq]
                          exact this)
                      generalize ws[j].num = wn at *
                      generalize ws[j].n = wx at *
                      generalize ws[j].a = wa at *
                      generalize ws[j].s = wt at *
                      generalize ws'[j].num = wn' at *
                      generalize ws'[j].n = wx' at *
                      generalize ws'[j].a = wb at *
                      generalize ws'[j].s = wt' at *
                      clear hw hu hQ j1 j2 HJE hE
                      cases E with
                      | false =>
                        have HE3 := Lib.hid (HE2.out rfl)
                        clear HE1 HE2
                        go_wp2_with fail
                        go_quiet (fail)
                        go_wp2_with fail
                        go_roundw
                        case rel => exact ⟨j + 1, by omega, by go_num, HE3, bdrewN (balloc B3 _) _⟩
                        case measure => simp [intOf]; omega
                      | true =>
                        obtain rfl := HE1.out rfl
                        clear HE1 HE2
                        have B6 := balloc B5 (.cells #[.bool wn, .int .i64 wx, .string wt, .int .i64 wb] 45)
                        go_wp2_with fail
                        go_quiet (fail)
                        go_wp2_with fail
                        go_ret
                        exact ⟨rfl, bdrewN (balloc B5 _) _⟩
                    · obtain rfl : j = q := by omega
                      have HY := Lib.hid (Hyes.out ⟨by first | exact trivial | rfl, by first | exact trivial | rfl, (stw_iff ws ws').2 ⟨HQ3.out, fun i h1 h2 => HJE.out i h1 h2 (by have := HQ.out; omega)⟩, by have := Hq.out; simpa using this⟩)
                      clear Hyes Hno HJE
                      go_wp2_with fail
                      go_roundw
                      case rel => exact ⟨k + 1, by omega, by go_num, HY, B5⟩
                      case measure => simp [intOf]; omega
              · obtain rfl := Hno.out (fun h => q3 (by have := congrArg List.length h.2.2.1; simpa using this))
                have dw : ((ws.length : Int) != (ws'.length : Int)) = true := by simp; omega
                clear Hno Hyes HW HU HK HJ Hih hr
                go_wp2_with fail
                go_ret
                exact ⟨rfl, balloc (balloc B1 _) _⟩
            · obtain rfl := Hno.out (fun h => q2 h.2.1)
              have db : (b != b') = true := by simpa using q2
              have db' : (b == b') = false := by simpa using q2
              clear Hno Hyes HW HU HK HJ Hih hr
              go_wp2_with fail
              go_ret
              exact ⟨rfl, balloc (balloc B1 _) _⟩
          · obtain rfl := Hno.out (fun h => q1 h.1)
            have ds := str_ne q1
            have ds' : (nm.toList != nm'.toList) = true := by simp [bne, ds]
            clear Hno Hyes HW HU HK HJ Hih hr
            go_wp2_with fail
            go_ret
            exact ⟨rfl, balloc (balloc B1 _) _⟩
        · obtain rfl : k = l.length := by omega
          obtain rfl : r = true := hr.out.2 ((sameL_iff l m).2 ⟨HLM.out, fun i h1 h2 => HE.out i h1 h2 h1⟩)
          go_wp2_with fail
          go_ret
          exact ⟨rfl, B1⟩
    · have dn : ((l.length : Int) != (m.length : Int)) = true := by simp [hlm]; omega
      obtain rfl : r = false := by
        cases r with
        | false => rfl
        | true => exact absurd ((sameL_iff l m).1 (hr.out.1 rfl)).1 hlm
      clear hr hlm h1 h2 ih
      go_enter Tryz.func22, Tryz.ntmps22
      go_wp2_with fail
      go_ret
      exact ⟨rfl, Below.refl _ _⟩

end Go.Proofs.YtnjmokmlnpehdaaGreatDoor.Yg
