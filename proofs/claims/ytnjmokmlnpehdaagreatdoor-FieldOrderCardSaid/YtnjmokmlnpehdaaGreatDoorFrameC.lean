/- What the frames tell a walk of one item that came in: its cells, and that its kids' words have room. -/
import Derived.Test.YtnjmokmlnpehdaaGreatDoorJFd
namespace Go.Proofs.YtnjmokmlnpehdaaGreatDoor.Yg
set_option linter.unusedSimpArgs false
set_option linter.unusedVariables false
set_option linter.unusedSectionVars false
open Go Go.RowKit Go.ChangeShapes Go.WideShapes Go.Deep Go.Proofs.YtnjmokmlnpehdaaGreatDoor.Ym

/-- the words of each kid have no more elements than room -/
def KidCaps (w : World) (kp : Option Addr) (n : Nat) : Prop :=
  ∀ i, i < n → ∃ b off, kp = some ⟨b, off, none⟩ ∧ ∃ q m c, w.cell? ⟨b, off + i * 5 + 2, none⟩ = some (.slice q m c) ∧ m ≤ c
/-- an item that came in -/
def NodeOf (w : World) (nm : ByteArray) (a : Int) (wp : Option Addr) (wn wc : Nat) (b : Bool) (kp : Option Addr) (kn kc : Nat) (ws : List WI) (ks : List NI) : Prop :=
  wn = ws.length ∧ kn = ks.length ∧ wn ≤ maxLen ∧ kn ≤ maxLen ∧ (Lit.int .i64 a).wf = true ∧ WfN (.mk nm a ws b ks) ∧ LenN (.mk nm a ws b ks) ∧ WsV (· < w.heap.size) w (.slice wp wn wc) ws ∧ NsV (· < w.heap.size) w (.slice kp kn kc) ks ∧ KidCaps w kp kn

section
variable {H : Type} {enc : TypeId × Value → H} {P : Program} {w : World} {base : Nat} {spare : Nat → Bool} {held : Bool}
variable {tW eW tN eN tI tS tB : TypeId} (T : Types P tW eW tN eN tI tS tB)
include T

theorem kid_caps {fuel : Nat} {p : Option Addr} {n c : Nat} {x : DataW H × List MemPlace} (h : DataW.trod enc P w base spare held fuel tN [.slice p n c] = some x) : KidCaps w p n := by
  rcases slice_elems T.sN h with e | ⟨p, len, cap, m, hn, e, hl, hm, hi⟩
  · simp at e
    obtain ⟨rfl, rfl, rfl⟩ := e
    exact fun i hi => absurd hi (by omega)
  · simp only [List.cons.injEq, Value.slice.injEq, and_true] at e
    obtain ⟨rfl, rfl, rfl⟩ := e
    have each : ∀ i, i < n → (i = 0 → p.spot = none) ∧ ∃ q m c, w.cell? ((p.add (i * 5)).add 2) = some (.slice q m c) ∧ m ≤ c := by
      intro i hlt
      obtain ⟨cs', y, hc, hd⟩ := hi i hlt
      obtain ⟨f0, f1, f2, f3, f4, he, hone, t0, t1, t2, t3, t4⟩ := T.uN
      rw [T.cN] at hc
      obtain ⟨_, hcl, hat⟩ := World.cells?_some hc
      match cs', hcl with
      | [c0, c1, c2, c3, c4], _ =>
        obtain ⟨xs, m, hm', _, _, hlen, hg⟩ := DataW.trod_struct he hd
        obtain ⟨o0, k0⟩ := hone_of hone 0 f0 rfl
        obtain ⟨o2, k2⟩ := hone_of hone 2 f2 rfl
        match xs, hlen with
        | [y0, y1, y2, y3, y4], _ =>
          have g2 : DataW.trod enc P w base spare held m f2.type [c2] = some y2 := by simpa [o2, k2] using hg 2 f2 rfl
          rw [t2] at g2
          have q0 := hat 0 (by omega)
          have q2 := hat 2 (by omega)
          refine ⟨fun e => ?_, ?_⟩
          · subst e
            have := World.cell?_spot q0
            simpa [Addr.add] using this
          · rcases slice_elems T.sW g2 with e | ⟨q, l2, c2', _, _, e, hl2, _, _⟩
            · simp only [List.cons.injEq, and_true] at e
              subst e
              exact ⟨_, _, _, q2, Nat.le_refl _⟩
            · simp only [List.cons.injEq, and_true] at e
              subst e
              exact ⟨_, _, _, q2, hl2⟩
    intro i hlt
    obtain ⟨hs, _⟩ := each 0 (by omega)
    obtain ⟨_, q, m', c', hq, hle⟩ := each i hlt
    obtain ⟨b, off, spot⟩ := p
    have hs := hs rfl
    simp only at hs
    subst hs
    refine ⟨b, off, rfl, q, m', c', ?_, hle⟩
    rw [add_plain, add_plain] at hq
    exact hq
/-- one item, opened -/
theorem node_open {fuel : Nat} {c0 c1 c2 c3 c4 : Value} {x : DataW H × List MemPlace} (h : DataW.trod enc P w base spare held fuel eN [c0, c1, c2, c3, c4] = some x) :
    ∃ nm a wp wn wc b kp kn kc ws ks, c0 = .string nm ∧ c1 = .int .i64 a ∧ c2 = .slice wp wn wc ∧ c3 = .bool b ∧ c4 = .slice kp kn kc ∧ NodeOf w nm a wp wn wc b kp kn kc ws ks := by
  obtain ⟨f0, f1, f2, f3, f4, he, hone, t0, t1, t2, t3, t4⟩ := T.uN
  obtain ⟨xs, m, hm', _, _, hlen, hg⟩ := DataW.trod_struct he h
  obtain ⟨o0, k0⟩ := hone_of hone 0 f0 rfl
  obtain ⟨o1, k1⟩ := hone_of hone 1 f1 rfl
  obtain ⟨o2, k2⟩ := hone_of hone 2 f2 rfl
  obtain ⟨o3, k3⟩ := hone_of hone 3 f3 rfl
  obtain ⟨o4, k4⟩ := hone_of hone 4 f4 rfl
  match xs, hlen with
  | [y0, y1, y2, y3, y4], _ =>
    have g0 : DataW.trod enc P w base spare held m f0.type [c0] = some y0 := by simpa [o0, k0] using hg 0 f0 rfl
    have g1 : DataW.trod enc P w base spare held m f1.type [c1] = some y1 := by simpa [o1, k1] using hg 1 f1 rfl
    have g2 : DataW.trod enc P w base spare held m f2.type [c2] = some y2 := by simpa [o2, k2] using hg 2 f2 rfl
    have g3 : DataW.trod enc P w base spare held m f3.type [c3] = some y3 := by simpa [o3, k3] using hg 3 f3 rfl
    have g4 : DataW.trod enc P w base spare held m f4.type [c4] = some y4 := by simpa [o4, k4] using hg 4 f4 rfl
    obtain ⟨s0, e0, _, w0⟩ := DataW.trod_string (t0 ▸ T.s) g0
    obtain ⟨i1, e1, _, w1⟩ := DataW.trod_int (t1 ▸ T.i) g1
    rw [t2] at g2
    obtain ⟨vw, ws, e2, hw1, hw2, hw3⟩ := words_open T g2
    obtain ⟨b3, e3, _⟩ := DataW.trod_bool (t3 ▸ T.b) g3
    rw [t4] at g4
    obtain ⟨vk, ks, e4, hk1, hk2, hk3, hk4⟩ := items_open T m _ _ g4
    simp only [List.cons.injEq, and_true] at e0 e1 e2 e3 e4
    subst e0; subst e1; subst e2; subst e3; subst e4
    obtain ⟨wp, wc, rfl, hw4⟩ := hw3
    obtain ⟨kp, kc, rfl, hk5⟩ := hk4
    exact ⟨s0, i1, wp, _, wc, b3, kp, _, kc, ws, ks, rfl, rfl, rfl, rfl, rfl, rfl, rfl, hw1, hk1, w1, ⟨w0, hw2, hk2⟩, ⟨hw1, hk1, hk3⟩, ⟨wp, wc, rfl, hw4⟩, ⟨kp, kc, rfl, hk5⟩, kid_caps T g4⟩
end

theorem cellsNode : Tryz.prog.cellsOf 25 = 5 := by kernel_rfl
set_option maxRecDepth 100000 in
/-- a parameter that is an item -/
theorem open_node {H : Type} {enc : TypeId × Value → H} {w : World} {base b1 : Nat} {r : Reach} {spare : Nat → Bool} {held : Bool} {v : Value} {d : DataW H} {p : List MemPlace} (hv : Value.okWide Tryz.prog w r b1 25 v)
    (h : DataW.Trod enc Tryz.prog w base spare held 25 v d p) :
    ∃ nm a wp wn wc b kp kn kc ws ks, v = .agg #[.string nm, .int .i64 a, .slice wp wn wc, .bool b, .slice kp kn kc] ∧ NodeOf w nm a wp wn wc b kp kn kc ws ks := by
  obtain ⟨cs, rfl, hsz⟩ := okWide_struct Tryz.underlying25 hv
  obtain ⟨fuel, hf⟩ := h
  rw [cellsNode] at hsz
  obtain ⟨cs⟩ := cs
  match cs, hsz with
  | [c0, c1, c2, c3, c4], _ =>
    simp only [Value.cells] at hf
    obtain ⟨nm, a, wp, wn, wc, b, kp, kn, kc, ws, ks, rfl, rfl, rfl, rfl, rfl, H⟩ := node_open typesOk hf
    exact ⟨nm, a, wp, wn, wc, b, kp, kn, kc, ws, ks, rfl, H⟩

end Go.Proofs.YtnjmokmlnpehdaaGreatDoor.Yg
