/- What the frames tell a walk of a slice of items that came in. -/
import Derived.WalkKit
import Derived.OpenShut
import Derived.ChangeSame
import Derived.Deep.Slices
import Derived.Deep.Fields
import Derived.SliceStrings
import Derived.Test.YtabhbcedldjjjaaGreatDoorYgen2
namespace Go.Proofs.YtabhbcedldjjjaaGreatDoor.Yg
set_option linter.unusedSimpArgs false
set_option linter.unusedVariables false
set_option linter.unusedSectionVars false
open Go Go.RowKit Go.ChangeShapes Go.WideShapes Go.Deep Go.Proofs.YtabhbcedldjjjaaGreatDoor.Ym

/-- a slice of items that came in -/
def ItemsOf (w : World) (a : Option Addr) (len cap : Nat) (l : List NI) : Prop :=
  len = l.length ∧ len ≤ maxLen ∧ WfL l ∧ LenL l ∧ NsV (· < w.heap.size) w (.slice a len cap) l

section
variable {H : Type} {enc : TypeId × Value → H} {P : Program} {w : World} {base : Nat} {spare : Nat → Bool} {held : Bool}

theorem slice_elems {t e : TypeId} {fuel : Nat} {cs : List Value} {x : DataW H × List MemPlace} (ht : P.underlying t = some (.slice e)) (h : DataW.trod enc P w base spare held fuel t cs = some x) :
    cs = [.slice none 0 0] ∨ ∃ (a : Addr) (len cap n : Nat), fuel = n + 1 ∧ cs = [.slice (some a) len cap] ∧ len ≤ cap ∧ cap ≤ maxLen ∧
      ∀ i, i < len → ∃ cs' y, w.cells? base (a.add (i * P.cellsOf e)) (P.cellsOf e) = some cs' ∧ DataW.trod enc P w base spare held n e cs' = some y := by
  rcases DataW.trod_slice ht h with ⟨h0, _⟩ | ⟨a, len, cap, elems, rest, n, hn, rfl, _, _, hl, hm, hlen, hel, _⟩
  · exact .inl h0
  · refine .inr ⟨a, len, cap, n, hn, rfl, hl, hm, fun i hi => ?_⟩
    have := hel i hi
    rw [List.getElem?_eq_getElem (by omega)] at this
    obtain ⟨cs', h1, h2⟩ := Option.bind_eq_some_iff.1 this
    exact ⟨cs', _, h1, h2⟩

/-- the types of words and items -/
structure Types (P : Program) (tW eW tN eN tI tS tB : TypeId) : Prop where
  sW : P.underlying tW = some (.slice eW)
  sN : P.underlying tN = some (.slice eN)
  i : P.underlying tI = some (.int .i64)
  s : P.underlying tS = some .string
  b : P.underlying tB = some .bool
  cW : P.cellsOf eW = 4
  cN : P.cellsOf eN = 5
  uW : ∃ f0 f1 f2 f3 : Field, P.underlying eW = some (.struct #[f0, f1, f2, f3]) ∧ oneCellFields P #[f0, f1, f2, f3] = true ∧ f0.type = tB ∧ f1.type = tI ∧ f2.type = tS ∧ f3.type = tI
  uN : ∃ f0 f1 f2 f3 f4 : Field, P.underlying eN = some (.struct #[f0, f1, f2, f3, f4]) ∧ oneCellFields P #[f0, f1, f2, f3, f4] = true ∧ f0.type = tS ∧ f1.type = tI ∧ f2.type = tW ∧ f3.type = tB ∧ f4.type = tN

variable {tW eW tN eN tI tS tB : TypeId} (T : Types P tW eW tN eN tI tS tB)
include T
theorem word_open {n : Nat} {cs : List Value} {y : DataW H × List MemPlace} {p : Addr} (hc : w.cells? base p (P.cellsOf eW) = some cs) (h : DataW.trod enc P w base spare held n eW cs = some y) :
    ∃ z : WI, z.Wf ∧ w.cell? (p.add 0) = some (.bool z.num) ∧ w.cell? (p.add 1) = some (.int .i64 z.n) ∧ w.cell? (p.add 2) = some (.string z.s) ∧ w.cell? (p.add 3) = some (.int .i64 z.a) := by
  obtain ⟨f0, f1, f2, f3, he, hone, t0, t1, t2, t3⟩ := T.uW
  rw [T.cW] at hc
  obtain ⟨_, hcl, hat⟩ := World.cells?_some hc
  match cs, hcl with
  | [c0, c1, c2, c3], _ =>
    obtain ⟨xs, m, _, _, _, hlen, hg⟩ := DataW.trod_struct he h
    obtain ⟨o0, k0⟩ := hone_of hone 0 f0 rfl
    obtain ⟨o1, k1⟩ := hone_of hone 1 f1 rfl
    obtain ⟨o2, k2⟩ := hone_of hone 2 f2 rfl
    obtain ⟨o3, k3⟩ := hone_of hone 3 f3 rfl
    match xs, hlen with
    | [y0, y1, y2, y3], _ =>
      have g0 : DataW.trod enc P w base spare held m f0.type [c0] = some y0 := by simpa [o0, k0] using hg 0 f0 rfl
      have g1 : DataW.trod enc P w base spare held m f1.type [c1] = some y1 := by simpa [o1, k1] using hg 1 f1 rfl
      have g2 : DataW.trod enc P w base spare held m f2.type [c2] = some y2 := by simpa [o2, k2] using hg 2 f2 rfl
      have g3 : DataW.trod enc P w base spare held m f3.type [c3] = some y3 := by simpa [o3, k3] using hg 3 f3 rfl
      obtain ⟨b0, e0, _⟩ := DataW.trod_bool (t0 ▸ T.b) g0
      obtain ⟨i1, e1, _, w1⟩ := DataW.trod_int (t1 ▸ T.i) g1
      obtain ⟨s, e2, _, w2⟩ := DataW.trod_string (t2 ▸ T.s) g2
      obtain ⟨i3, e3, _, w3⟩ := DataW.trod_int (t3 ▸ T.i) g3
      simp only [List.cons.injEq, and_true] at e0 e1 e2 e3
      subst e0; subst e1; subst e2; subst e3
      exact ⟨⟨b0, i1, s, i3⟩, w2, hat 0 (by omega), hat 1 (by omega), hat 2 (by omega), hat 3 (by omega)⟩

theorem spot_none {p : Addr} {v : Value} (h : w.cell? (p.add 0) = some v) : p.spot = none := by
  obtain ⟨b, off, spot⟩ := p
  simpa [Addr.add] using World.cell?_spot h

/-- what is in a row, element by element -/
theorem ws_from (g : Nat) : ∀ (n o : Nat) (z : Nat → WI), g < w.heap.size → (∀ i, i < n → w.cell? ⟨g, o + i * 4, none⟩ = some (.bool (z i).num) ∧ w.cell? ⟨g, o + i * 4 + 1, none⟩ = some (.int .i64 (z i).n) ∧ w.cell? ⟨g, o + i * 4 + 2, none⟩ = some (.string (z i).s) ∧ w.cell? ⟨g, o + i * 4 + 3, none⟩ = some (.int .i64 (z i).a)) →
    WsFrom (· < w.heap.size) w g o ((List.range n).map z)
  | 0, o, z, _, _ => trivial
  | n + 1, o, z, hg, h => by
    rw [List.range_succ_eq_map, List.map_cons, List.map_map]
    obtain ⟨c0, c1, c2, c3⟩ := h 0 (by omega)
    simp only [Nat.zero_mul, Nat.add_zero] at c0 c1 c2 c3
    refine ⟨⟨hg, c0, c1, c2, c3⟩, ws_from g n (o + 4) (z ∘ Nat.succ) hg (fun i hi => ?_)⟩
    have := h (i + 1) (by omega)
    rw [show o + (i + 1) * 4 = o + 4 + i * 4 by omega] at this
    exact this

theorem words_open {fuel : Nat} {cs : List Value} {x : DataW H × List MemPlace} (h : DataW.trod enc P w base spare held fuel tW cs = some x) : ∃ (v : Value) (l : List WI), cs = [v] ∧ l.length ≤ maxLen ∧ (∀ x ∈ l, x.Wf) ∧ WsV (· < w.heap.size) w v l := by
  rcases slice_elems T.sW h with rfl | ⟨p, len, cap, n, _, rfl, hl, hm, hi⟩
  · exact ⟨_, [], rfl, by simp, (fun x hx => by cases hx), none, 0, rfl, .inl rfl⟩
  · have each : ∀ i, ∃ z : WI, i < len → z.Wf ∧ w.cell? ((p.add (i * 4)).add 0) = some (.bool z.num) ∧ w.cell? ((p.add (i * 4)).add 1) = some (.int .i64 z.n) ∧ w.cell? ((p.add (i * 4)).add 2) = some (.string z.s) ∧ w.cell? ((p.add (i * 4)).add 3) = some (.int .i64 z.a) := by
      intro i
      by_cases h : i < len
      · obtain ⟨cs', y, hc, hd⟩ := hi i h
        obtain ⟨z, hz⟩ := word_open T hc hd
        rw [T.cW] at hz
        exact ⟨z, fun _ => hz⟩
      · exact ⟨⟨false, 0, ByteArray.empty, 0⟩, fun g => absurd g h⟩
    obtain ⟨z, hz⟩ := Classical.axiomOfChoice each
    refine ⟨_, (List.range len).map z, rfl, by simp; omega, fun x hx => ?_, some p, cap, by simp, ?_⟩
    · obtain ⟨i, hi, rfl⟩ := List.mem_map.1 hx
      exact (hz i (by simpa using hi)).1
    · rcases Nat.eq_zero_or_pos len with g | g
      · subst g; exact .inl rfl
      · obtain ⟨b, off, spot⟩ := p
        have c0 := (hz 0 g).2.1
        have hspot : spot = none := by simpa [Addr.add] using World.cell?_spot c0
        subst hspot
        have hb : b < w.heap.size := by simpa [Addr.add] using World.block_lt_of_cell? w _ c0
        refine .inr ⟨b, off, rfl, ws_from T b len off z hb (fun i h => ?_)⟩
        obtain ⟨_, q0, q1, q2, q3⟩ := hz i h
        rw [Go.WideShapes.add_plain, Go.WideShapes.add_plain] at q0 q1 q2 q3
        rw [Nat.add_zero] at q0
        exact ⟨q0, by rw [Nat.add_assoc]; exact q1, by rw [Nat.add_assoc]; exact q2, by rw [Nat.add_assoc]; exact q3⟩

theorem ns_from (g : Nat) : ∀ (n o : Nat) (z : Nat → NI), (∀ i, i < n → NAt (· < w.heap.size) w g (o + i * 5) (z i)) → NsFrom (· < w.heap.size) w g o ((List.range n).map z)
  | 0, o, z, _ => by simp [NsFrom]
  | n + 1, o, z, h => by
    rw [List.range_succ_eq_map, List.map_cons, List.map_map]
    simp only [NsFrom]
    refine ⟨by simpa using h 0 (by omega), ns_from g n (o + 5) (z ∘ Nat.succ) (fun i hi => ?_)⟩
    have := h (i + 1) (by omega)
    rw [show o + (i + 1) * 5 = o + 5 + i * 5 by omega] at this
    exact this
theorem wfL_map (n : Nat) (z : Nat → NI) (h : ∀ i, i < n → WfN (z i) ∧ LenN (z i)) : ∀ m, m ≤ n → WfL ((List.range m).map z) ∧ LenL ((List.range m).map z) := by
  have key : ∀ (l : List NI), (∀ x ∈ l, WfN x ∧ LenN x) → WfL l ∧ LenL l := by
    intro l
    induction l with
    | nil => intro _; exact ⟨trivial, trivial⟩
    | cons x l ih =>
      intro h
      have := ih (fun y hy => h y (by simp [hy]))
      have hx := h x (by simp)
      exact ⟨⟨hx.1, this.1⟩, ⟨hx.2, this.2⟩⟩
  intro m hm
  refine key _ (fun x hx => ?_)
  obtain ⟨i, hi, rfl⟩ := List.mem_map.1 hx
  exact h i (by have := List.mem_range.1 hi; omega)

theorem items_open : ∀ (fuel : Nat) (cs : List Value) (x : DataW H × List MemPlace), DataW.trod enc P w base spare held fuel tN cs = some x → ∃ (v : Value) (l : List NI), cs = [v] ∧ l.length ≤ maxLen ∧ WfL l ∧ LenL l ∧ NsV (· < w.heap.size) w v l := by
  intro fuel
  induction fuel using Nat.strongRecOn with
  | _ fuel ih =>
  intro cs x h
  rcases slice_elems T.sN h with rfl | ⟨p, len, cap, n, hn, rfl, hl, hm, hi⟩
  · exact ⟨_, [], rfl, by simp, trivial, trivial, none, 0, rfl, .inl rfl⟩
  · have each : ∀ i, ∃ z : NI, i < len → (WfN z ∧ LenN z) ∧ (i = 0 → p.spot = none) ∧ p.block < w.heap.size ∧ NAt (· < w.heap.size) w p.block (p.off + i * 5) z := by
      intro i
      by_cases h : i < len
      · obtain ⟨cs', y, hc, hd⟩ := hi i h
        obtain ⟨f0, f1, f2, f3, f4, he, hone, t0, t1, t2, t3, t4⟩ := T.uN
        rw [T.cN] at hc
        obtain ⟨_, hcl, hat⟩ := World.cells?_some hc
        match cs', hcl with
        | [c0, c1, c2, c3, c4], _ =>
          obtain ⟨xs, m, hm', _, _, hlen, hg⟩ := DataW.trod_struct he hd
          obtain ⟨o0, k0⟩ := hone_of hone 0 f0 rfl
          obtain ⟨o1, k1⟩ := hone_of hone 1 f1 rfl
          obtain ⟨o2, k2⟩ := hone_of hone 2 f2 rfl
          obtain ⟨o3, k3⟩ := hone_of hone 3 f3 rfl
          obtain ⟨o4, k4⟩ := hone_of hone 4 f4 rfl
          match xs, hlen with
          | [y0, y1, y2, y3, y4], _ =>
            have g0 : DataW.trod enc P w base spare held m f0.type [c0] = some y0 := by simpa [o0, k0] using hg 0 f0 rfl
            have g1 : DataW.trod enc P w base spare held m f1.type [c1] = some y1 := by simpa [o1, k1] using hg 1 f1 rfl
            have g2 : DataW.trod enc P w base spare held m f2.type [c2] = some y2 := by simpa [o2, k2] using hg 2 f2 rfl
            have g3 : DataW.trod enc P w base spare held m f3.type [c3] = some y3 := by simpa [o3, k3] using hg 3 f3 rfl
            have g4 : DataW.trod enc P w base spare held m f4.type [c4] = some y4 := by simpa [o4, k4] using hg 4 f4 rfl
            obtain ⟨s0, e0, _, w0⟩ := DataW.trod_string (t0 ▸ T.s) g0
            obtain ⟨i1, e1, _, w1⟩ := DataW.trod_int (t1 ▸ T.i) g1
            rw [t2] at g2
            obtain ⟨vw, ws, e2, hw1, hw2, hw3⟩ := words_open T g2
            obtain ⟨b3, e3, _⟩ := DataW.trod_bool (t3 ▸ T.b) g3
            rw [t4] at g4
            obtain ⟨vk, ks, e4, hk1, hk2, hk3, hk4⟩ := ih m (by omega) _ _ g4
            simp only [List.cons.injEq, and_true] at e0 e1 e2 e3 e4
            subst e0; subst e1; subst e2; subst e3; subst e4
            have q0 := hat 0 (by omega)
            have q1 := hat 1 (by omega)
            have q2 := hat 2 (by omega)
            have q3 := hat 3 (by omega)
            have q4 := hat 4 (by omega)
            have hs0 : i = 0 → p.spot = none := fun e => by
              subst e
              have := World.cell?_spot q0
              simpa [Addr.add] using this
            have at_ : ∀ j, (p.add (i * 5)).add j = ⟨p.block, p.off + i * 5 + j, none⟩ := fun j => by
              obtain ⟨b, off, spot⟩ := p
              rcases Nat.eq_zero_or_pos i with e | e
              · have := hs0 e
                simp only at this
                subst this
                subst e
                unfold Addr.add
                by_cases hj : j = 0 <;> simp [hj]
              · have e5 : (⟨b, off, spot⟩ : Addr).add (i * 5) = ⟨b, off + i * 5, none⟩ := by
                  unfold Addr.add
                  rw [if_neg (by omega)]
                rw [e5]
                unfold Addr.add
                by_cases hj : j = 0 <;> simp [hj]
            rw [at_] at q0 q1 q2 q3 q4
            rw [Nat.add_zero] at q0
            have hb : p.block < w.heap.size := World.block_lt_of_cell? w ⟨p.block, p.off + i * 5, none⟩ (u := .string s0) q0
            obtain ⟨kp, kc, rfl, hk5⟩ := hk4
            refine ⟨.mk s0 i1 ws b3 ks, fun _ => ⟨⟨⟨w0, hw2, hk2⟩, ⟨hw1, hk1, hk3⟩⟩, hs0, hb, ?_⟩⟩
            simp only [NAt]
            exact ⟨hb, q0, q1, ⟨_, q2, hw3⟩, q3, kp, kc, q4, hk5⟩
      · exact ⟨.mk ByteArray.empty 0 [] false [], fun g => absurd g h⟩
    obtain ⟨z, hz⟩ := Classical.axiomOfChoice each
    have hwf := wfL_map T len z (fun i hi => (hz i hi).1) len (Nat.le_refl _)
    refine ⟨_, (List.range len).map z, rfl, by simp; omega, hwf.1, hwf.2, some p, cap, by simp, ?_⟩
    rcases Nat.eq_zero_or_pos len with g | g
    · subst g; exact .inl rfl
    · obtain ⟨_, hs, hb, _⟩ := hz 0 g
      obtain ⟨b, off, spot⟩ := p
      have hs := hs rfl
      simp only at hs hb
      subst hs
      exact .inr ⟨b, off, rfl, ns_from T b len off z (fun i h => (hz i h).2.2.2)⟩
theorem nodes_open {fuel : Nat} {cs : List Value} {x : DataW H × List MemPlace} {a : Option Addr} {len cap : Nat} (hcs : cs = [.slice a len cap]) (h : DataW.trod enc P w base spare held fuel tN cs = some x) : ∃ l, ItemsOf w a len cap l := by
  obtain ⟨v, l, e, h1, h2, h3, h4⟩ := items_open T fuel cs x h
  rw [hcs] at e
  injection e with e _
  subst e
  have h4' := h4
  obtain ⟨p, c, e, _⟩ := h4
  injection e with e1 e2 e3
  exact ⟨l, e2, by omega, h2, h3, h4'⟩
end
theorem typesOk : Types Tryz.prog 48 64 22 50 3 9 4 where
  sW := by kernel_rfl
  sN := by kernel_rfl
  i := by kernel_rfl
  s := by kernel_rfl
  b := by kernel_rfl
  cW := by kernel_rfl
  cN := by kernel_rfl
  uW := ⟨_, _, _, _, Tryz.underlying64, by kernel_rfl, rfl, rfl, rfl, rfl⟩
  uN := ⟨_, _, _, _, _, Tryz.underlying50, by kernel_rfl, rfl, rfl, rfl, rfl, rfl⟩

end Go.Proofs.YtabhbcedldjjjaaGreatDoor.Yg
