/- Texts that are joined: Bruns, Bruns2, Bruns3, Blive. -/
import Derived.Shelf.Abstract
import Derived.Shelf.RegionOpen
import Derived.WalkKit
import Derived.OwnWalkIn
import Derived.TacticsInMore
import Derived.LoopNIn
import Derived.LoopIn
import Derived.Maps.AppendAt
import Derived.Maps.OwnIn
import Derived.Sort.CutIn
import Derived.Sort.QuietIn
import Derived.Test.YtkfogmaogfgcgaaGreatDoorQaJT
import Derived.Test.YtkfogmaogfgcgaaGreatDoorQaJD
import Derived.Test.YtkfogmaogfgcgaaGreatDoorQaFcal
import Derived.OpenShut
import Derived.BigQuiet
namespace Go.Proofs.YtkfogmaogfgcgaaGreatDoor.Bp
set_option linter.unusedSimpArgs false
set_option linter.unusedVariables false
open Go.RowKit Go.Maps Go.Shelf Bn Bx Cp Am Fp Ap Cm Em Ep Rk Hp Ip Jp Dp Mp Ui
attribute [local go_sem] Oper.semAt_some

abbrev SpanB := {s : Int × Int // 0 ≤ s.1 ∧ s.1 ≤ 3068037 ∧ 0 ≤ s.2 ∧ s.2 ≤ 3068036}
def sval (s : Int × Int) : Value := .agg #[.int .i64 s.1, .int .i64 s.2]

theorem calin_heap {W W' : World} {b : Nat} {c : CalZ} (h : CalIn W b c) (e : W'.heap[b]? = W.heap[b]?) : CalIn W' b c := by
  have hc : ∀ i, W'.cell? ⟨b, i, none⟩ = W.cell? ⟨b, i, none⟩ := fun i => World.cell?_of_block (w := W) e
  have := Array.getElem?_eq_getElem h.lt
  rw [← e] at this
  exact ⟨(Array.getElem?_eq_some_iff.1 this).1, (hc _).trans h.c0, (hc _).trans h.c1, (hc _).trans h.c2, (hc _).trans h.c3, (hc _).trans h.c4, (hc _).trans h.c5, (hc _).trans h.c6, (hc _).trans h.c7, (hc _).trans h.c8, (hc _).trans h.c9, (hc _).trans h.c10, (hc _).trans h.c11, (hc _).trans h.c12, (hc _).trans h.c13⟩

set_option maxRecDepth 100000 in
set_option maxHeartbeats 8000000 in
theorem spans1_in (c : CalZ) (l : List U3) (xs : List SpanB) (hxs : xs.map (fun s => s.1) = l.map (spanOf c)) (hl : l.length ≤ 60) (hu : ∀ (j : Nat) (u : U3), l[j]? = some u → u.1 = 5 ∧ UnitOk c 5 u.2.1 u.2.2) (g cap bl bc : Nat) (w0 w : World) (hw : Below w0.heap.size w0 w) (Cw : CalIn w bc c) (L0 : Cel w bl (.slice (some ⟨g, 0, none⟩) l.length cap)) (R0 : Urow w0 g l)
    (hm : c.nm.size ≤ maxLen) (T0 : FTab w0) (m : Nat) (hm1 : 1 ≤ m) :
    SeqV Fence.wide m Tryz.prog 108 #[.pointer (some ⟨bl, 0, none⟩), .pointer (some ⟨bc, 0, none⟩)] (fun s : SpanB => #[sval s.1]) w0.heap.size xs [bc] w := by
  intro lp J W hW bear hY h0
  have B0 : Below w0.heap.size w0 W := hw.trans (hW.mono hw.size)
  refine callsIn_of_wp Tryz.func108 rfl trivial ?_ rfl
  simp only [Tryz.ntmps108, List.size_toArray, List.length_cons, List.length_nil, Nat.reduceAdd, Nat.reduceSub, Array.replicate_succ, Array.replicate_zero, List.push_toArray, List.append_toArray, List.nil_append, List.cons_append]
  have Lc := (L0.kept hW).c
  have C0 := Cw.kept hW
  gi_wp2
  gi_loopw [10] (fun X wr => ∃ k : Nat, k ≤ l.length ∧ X = .int .i64 (k : Int) ∧ J (xs.take k) [bc] wr ∧ Below w0.heap.size w0 wr ∧ wr.heap[bc]? = W.heap[bc]?) (fun X _ => (61 - intOf X).toNat)
  case atStart => exact ⟨0, by omega, rfl, by simpa using h0, B0, rfl⟩
  case round =>
    obtain ⟨k, kn, rfl, hJ, B, hbc⟩ := hrel
    have C := calin_heap C0 hbc
    have T := T0.kept B
    have R := R0.kept B
    by_cases hlt : k < l.length
    · obtain ⟨u, hk⟩ : ∃ u, l[k]? = some u := ⟨_, List.getElem?_eq_getElem hlt⟩
      obtain ⟨h5, un⟩ := hu k u hk
      obtain ⟨u1, y, i⟩ := u
      simp only at h5 un
      subst h5
      have rk := R.c k _ hk
      obtain ⟨rk0, rk1, rk2⟩ := rk
      have kk : (k : Int) < l.length := by omega
      obtain ⟨a, ha⟩ : ∃ a, a = uend c y 5 (i - 1) + 1 := ⟨_, rfl⟩
      obtain ⟨b, hb'⟩ : ∃ b, b = uend c y 5 i := ⟨_, rfl⟩
      have cs := fun w T => Span_any c 5 y i a b 0 w (.inl ⟨un, ha, hb', rfl⟩) hm T
      have xl : xs.length = l.length := by have := congrArg List.length hxs; simpa using this
      obtain ⟨z, hz⟩ : ∃ z, xs[k]? = some z := ⟨_, List.getElem?_eq_getElem (by omega)⟩
      have ze : z.1 = (a, b) := by
        have := congrArg (fun q => q[k]?) hxs
        simp only [List.getElem?_map, hz, hk, Option.map_some, spanOf] at this
        rw [ha, hb']
        exact Option.some.inj this
      have tk : xs.take (k + 1) = xs.take k ++ [z] := by
        rw [List.take_add_one, hz]
        simp
      have tlen : (xs.take k).length < xs.length := by simp; omega
      clear ha hb' un
      have V := Tri.new wr (.int .i64 5) (.int .i64 y) (.int .i64 i) 26
      gi_upto_region 3 with fail
      have C1 := C.alloc (.cells #[.int .i64 5, .int .i64 y, .int .i64 i] 26)
      have T1 := T.alloc (.cells #[.int .i64 5, .int .i64 y, .int .i64 i] 26)
      have B1 := balloc B (.cells #[.int .i64 5, .int .i64 y, .int .i64 i] 26)
      have e1 : (wr.alloc (.cells #[.int .i64 5, .int .i64 y, .int .i64 i] 26)).heap[bc]? = W.heap[bc]? := (((Below.refl _ wr).alloc (Nat.le_refl _) _).block bc C.lt).trans hbc
      have J1 := bear.grow _ _ _ _ hJ (World.grownBy_alloc wr (.cells #[.int .i64 5, .int .i64 y, .int .i64 i] 26) none)
      clear rk0 rk1 rk2 hJ B C T R hbc
      generalize wr.alloc (.cells #[.int .i64 5, .int .i64 y, .int .i64 i] 26) = W1 at *
      obtain ⟨_, c0, c1, c2, c3, c4, c5, c6, c7, c8, c9, c10, c11, c12, c13⟩ := id C1
      obtain ⟨_, v0, v1, v2, fv0, fv1, fv2⟩ := id V
      gi_wp2_with fail
      refine ⟨trivial, (callsIn_wide.2 (cs _ T1)).mono ?_⟩
      rintro e w2 ⟨rfl, hb⟩
      have J2 := bear.grow _ _ _ _ J1 (grow_below hb)
      have B2 := bthen B1 hb
      have e2 := (hb.block bc C1.lt).trans e1
      have lt2 : bc < w2.heap.size := Nat.lt_of_lt_of_le C1.lt hb.size
      have K := Pr.Two.new w2 (.int .i64 a) (.int .i64 b) 34
      have e3 : (w2.alloc (.cells #[.int .i64 a, .int .i64 b] 34)).heap[bc]? = W.heap[bc]? := (((Below.refl _ w2).alloc (Nat.le_refl _) _).block bc lt2).trans e2
      have J3 := bear.grow _ _ _ _ J2 (World.grownBy_alloc w2 (.cells #[.int .i64 a, .int .i64 b] 34) none)
      have B3 := balloc B2 (.cells #[.int .i64 a, .int .i64 b] 34)
      clear c0 c1 c2 c3 c4 c5 c6 c7 c8 c9 c10 c11 c12 c13 v0 v1 v2 fv0 fv1 fv2 C1 T1 V J1 J2 B1 B2 hb cs
      gi_upto_region 4 with fail
      generalize w2.alloc (.cells #[.int .i64 a, .int .i64 b] 34) = W3 at *
      obtain ⟨_, k0, k1, _, _⟩ := id K
      obtain ⟨fn, tmps, assign, body, hy, hR⟩ := hY _ [bc] z W3 J3 tlen
      rw [ze] at hy
      simp only [sval] at hy
      gi_wp2
      refine hR.mono ?_
      rintro e W4 ⟨rfl, hJ4, hk4, hb4⟩
      rw [← tk] at hJ4
      have B4 := B3.trans hb4
      have e4 := (hk4 bc (List.mem_cons_self ..)).trans e3
      gi_wp2
      go_roundw
      case rel => exact ⟨k + 1, by omega, by go_num, hJ4, B4, e4⟩
      case measure => simp [intOf]; omega
    · have kn' : k = l.length := by omega
      have dk : decide ((k : Int) < (l.length : Int)) = false := decide_eq_false (by omega)
      have J' : J xs [bc] wr := by
        have xl : xs.length = l.length := by have := congrArg List.length hxs; simpa using this
        rw [kn', List.take_of_length_le (by omega)] at hJ
        exact hJ
      clear kn'
      gi_wp2
      go_end0
      exact ⟨⟨_, rfl⟩, [bc], J'⟩

end Go.Proofs.YtkfogmaogfgcgaaGreatDoor.Bp

namespace Go.Proofs.YtkfogmaogfgcgaaGreatDoor.Bp
set_option linter.unusedSimpArgs false
set_option linter.unusedVariables false
open Go.RowKit Go.Maps Go.Shelf Bn Bx Cp Am Fp Ap Cm Em Ep Rk Hp Ip Jp Dp Mp Ui
attribute [local go_sem] Oper.semAt_some

theorem underS : Tryz.prog.underlying 46 = some (.slice 34) := by kernel_rfl
theorem infoS : (Tryz.prog.info? 34).map (fun i => (i.zero, i.size, i.bytes)) = some (some (.agg #[.int .i64 0, .int .i64 0]), 2, 16) := by kernel_rfl

theorem own_set {W : World} {base size n cap g i : Nat} {e : TypeId} {xs : List Value} (u : Value) (h : W.ownsRow base e size (.slice (some ⟨g, 0, none⟩) n cap) n xs) : (W.setCell ⟨g, i, none⟩ u).ownsRow base e size (.slice (some ⟨g, 0, none⟩) n cap) n (xs.set i u) := by
  obtain ⟨h1, h2⟩ := h
  rcases h2 with ⟨h, _⟩ | ⟨g', cap', cur, hv, hb, hg, hc, hm, hs, ht⟩
  · cases h
  cases hv
  refine ⟨by rw [List.length_set]; exact h1, .inr ⟨g, cap, cur.setIfInBounds i u, rfl, hb, ?_, hc, hm, by simp [hs], ?_⟩⟩
  · obtain ⟨hlt, hk⟩ := Array.getElem?_eq_some_iff.1 hg
    show (W.heap.modify g _)[g]? = _
    rw [Array.getElem?_eq_getElem (by rw [Array.size_modify]; exact hlt), Array.getElem_modify_self, hk]
    rfl
  · rw [Array.toList_setIfInBounds, List.take_set, ht]
theorem own_lt {W : World} {base x size k : Nat} {e : TypeId} {v : Value} {xs : List Value} (h : W.ownsRow base e size v k xs) (q : v.ownBlock = some x) : base ≤ x ∧ ∃ cur, W.heap[x]? = some (.cells cur e (0, 0)) := by
  rcases h.2 with ⟨h1, _⟩ | ⟨g, cap, cur, hv, hb, hg, _⟩
  · rw [h1] at q; cases q
  · rw [hv] at q
    have : g = x := by simpa [Value.ownBlock] using q
    subst this; exact ⟨hb, cur, hg⟩
theorem box1 {W : World} {B : Nat} {v : Value} {t : TypeId} (h : W.heap[B]? = some (.cells #[v] t (0, 0))) : W.cell? ⟨B, 0, none⟩ = some v ∧ W.frozen? ⟨B, 0, none⟩ = false := by
  constructor <;> simp [World.cell?, World.frozen?, h]
theorem box2 {W : World} {B : Nat} {u v : Value} {t : TypeId} (h : W.heap[B]? = some (.cells #[u, v] t (0, 0))) : W.cell? ⟨B, 0, none⟩ = some u ∧ W.cell? ⟨B, 1, none⟩ = some v := by
  refine ⟨?_, ?_⟩ <;> simp [World.cell?, h]
theorem set_box {W : World} {B : Nat} {v : Value} {t : TypeId} (v' : Value) (h : W.heap[B]? = some (.cells #[v] t (0, 0))) : (W.setCell ⟨B, 0, none⟩ v').heap[B]? = some (.cells #[v'] t (0, 0)) := by
  obtain ⟨hlt, hk⟩ := Array.getElem?_eq_some_iff.1 h
  show (W.heap.modify B _)[B]? = _
  rw [Array.getElem?_eq_getElem (by rw [Array.size_modify]; exact hlt), Array.getElem_modify_self, hk]
  rfl
def RunC (w : World) (ss : List SpanB) (fs : List Nat) (W : World) : Prop :=
  (∃ v, W.heap[w.heap.size]? = some (.cells #[v] 46 (0, 0)) ∧ W.ownsRow (w.heap.size + 1) 34 2 v (runs (ss.map (fun s => s.1))).length (scells (runs (ss.map (fun s => s.1)))) ∧ ∀ b, b ∈ fs → v.ownBlock ≠ some b) ∧
  (∀ b, b ∈ fs → w.heap.size + 1 ≤ b ∧ b < W.heap.size) ∧ Below w.heap.size w W ∧ w.heap.size + 1 ≤ W.heap.size
theorem runc_step {w W W' : World} {ss : List SpanB} {fs : List Nat} {row : Option Nat} (h : RunC w ss fs W) (g : W.grownBy W' row) (hr : ∀ r, row = some r → w.heap.size + 1 ≤ r ∧ (r ∈ fs ∨ ∃ o, W.heap[r]? = some o ∧ o.isCells = false)) : RunC w ss fs W' := by
  obtain ⟨⟨v, hv, ho, hf⟩, hfs, hb, hs⟩ := h
  have ne : some w.heap.size ≠ row := fun e => by have := (hr _ e.symm).1; omega
  refine ⟨⟨v, (g.block _ (by omega) (fun e => ne e)).trans hv, ho.kept g ?_, hf⟩, fun b hb' => ⟨(hfs b hb').1, Nat.lt_of_lt_of_le (hfs b hb').2 g.size⟩, hb.grown g (by omega) (fun k e => by have := (hr _ e).1; omega), Nat.le_trans hs g.size⟩
  cases e : v.ownBlock with
  | none => exact .inl rfl
  | some x =>
    refine .inr fun q => ?_
    obtain ⟨_, cur, hx⟩ := own_lt ho e
    rcases (hr x q.symm).2 with q | ⟨o, ho', hc⟩
    · exact hf x q e
    · rw [hx] at ho'; cases ho'; cases hc
theorem runc_bears (w : World) : Bears w.heap.size (RunC w) :=
  ⟨fun ss fs W h => h.2.2.1.size, fun ss fs W b h hb => (h.2.1 b hb).2, fun ss fs W W' h g => runc_step h g (fun r e => by cases e), fun ss fs W o h => by
    have g : W.grownBy (W.alloc o) none := World.grownBy_alloc _ _ _
    obtain ⟨⟨v, hv, ho, hf⟩, hfs, hb, hs⟩ := runc_step h g (fun r e => by cases e)
    have z : (W.alloc o).heap.size = W.heap.size + 1 := by simp
    refine ⟨⟨v, hv, ho, fun b hb => ?_⟩, fun b hb => ?_, hb, hs⟩
    · rcases List.mem_cons.1 hb with rfl | hb
      · intro e
        obtain ⟨⟨v', hv', ho', _⟩, _, _, hs'⟩ := h
        have e2 := (g.block w.heap.size (by omega) (by simp)).trans hv'
        rw [hv] at e2
        cases e2
        obtain ⟨_, cur, hx⟩ := own_lt ho' e
        have := (Array.getElem?_eq_some_iff.1 hx).1
        omega
      · exact hf b hb
    · rcases List.mem_cons.1 hb with rfl | hb
      · exact ⟨h.2.2.2, by omega⟩
      · exact hfs b hb,
    fun ss fs W W' b h hb g => runc_step h g (fun r e => by cases e; exact ⟨(h.2.1 b hb).1, .inl hb⟩)⟩

set_option maxRecDepth 100000 in
theorem spans_any (c : CalZ) (ptr : Option Addr) (n cap : Nat) (w : World) :
    Calls Tryz.prog 71 #[.agg #[.string c.nm, .int .i64 c.k, .int .i64 c.d, .int .i64 c.m, .int .i64 c.s, .int .i64 c.sh, .int .i64 c.p0, .int .i64 c.p1, .int .i64 c.p2, .int .i64 c.cy, .int .i64 c.ex, .int .i64 c.fi, .int .i64 c.la, .int .i64 c.po], .slice ptr n cap] w fun e w' => ∃ bc bl : Nat,
      e = .returned (.func (.func 108) #[] #[.pointer (some ⟨bl, 0, none⟩), .pointer (some ⟨bc, 0, none⟩)]) ∧ CalIn w' bc c ∧ Cel w' bl (.slice ptr n cap) ∧ w.heap.size ≤ bc ∧ Below w.heap.size w w' := by
  have C := CalIn.new w c 24
  have K := Cel.new (w.alloc (.cells #[.string c.nm, .int .i64 c.k, .int .i64 c.d, .int .i64 c.m, .int .i64 c.s, .int .i64 c.sh, .int .i64 c.p0, .int .i64 c.p1, .int .i64 c.p2, .int .i64 c.cy, .int .i64 c.ex, .int .i64 c.fi, .int .i64 c.la, .int .i64 c.po] 24)) (.slice ptr n cap) 37
  have B := balloc (balloc (Below.refl _ w) (.cells #[.string c.nm, .int .i64 c.k, .int .i64 c.d, .int .i64 c.m, .int .i64 c.s, .int .i64 c.sh, .int .i64 c.p0, .int .i64 c.p1, .int .i64 c.p2, .int .i64 c.cy, .int .i64 c.ex, .int .i64 c.fi, .int .i64 c.la, .int .i64 c.po] 24)) (.cells #[.slice ptr n cap] 37)
  replace C := C.alloc (.cells #[.slice ptr n cap] 37)
  rw [World.size_alloc] at K
  go_enter Tryz.func71, Tryz.ntmps71
  go_wp2
  go_ret
  exact ⟨_, _, by first | rfl | simp, C, K, Nat.le_refl _, B⟩
theorem scells_set (p : List (Int × Int)) (x1 x2 s2 : Int) : (scells (p ++ [(x1, x2)])).set (p.length * 2 + 1) (.int .i64 s2) = scells (p ++ [(x1, s2)]) := by
  rw [scells_app, scells_app, List.set_append, if_neg (by rw [scells_len]; omega), scells_len, show p.length * 2 + 1 - p.length * 2 = 1 by omega]
  rfl
theorem mstep_mem {P : Int × Int → Prop} {r : List (Int × Int)} {s : Int × Int} (hr : ∀ x, x ∈ r → P x) (hs : P s) (hj : ∀ x, P x → P (x.1, s.2)) : ∀ x, x ∈ mstep r s → P x := by
  rcases snoc_cases r with rfl | ⟨p, y, rfl⟩
  · intro x hx
    rcases List.mem_singleton.1 hx with rfl
    exact hs
  · by_cases h : y.2 + 1 = s.1
    · rw [mstep_join h]
      intro x hx
      rcases List.mem_append.1 hx with hx | hx
      · exact hr x (List.mem_append.2 (.inl hx))
      · rcases List.mem_singleton.1 hx with rfl
        exact hj y (hr y (by simp))
    · rw [mstep_new h]
      intro x hx
      rcases List.mem_append.1 hx with hx | hx
      · exact hr x hx
      · rcases List.mem_singleton.1 hx with rfl
        exact hs
theorem mstep_len (r : List (Int × Int)) (s : Int × Int) : (mstep r s).length ≤ r.length + 1 := by
  rcases snoc_cases r with rfl | ⟨p, y, rfl⟩
  · simp [mstep]
  · by_cases h : y.2 + 1 = s.1
    · rw [mstep_join h]; simp
    · rw [mstep_new h]; simp
theorem runs_bd (l : List SpanB) : (∀ x, x ∈ runs (l.map (fun s => s.1)) → 0 ≤ x.2 ∧ x.2 ≤ 3068036) ∧ (runs (l.map (fun s => s.1))).length ≤ l.length := by
  have e : ∀ (l : List SpanB) (r : List (Int × Int)), (∀ x, x ∈ r → 0 ≤ x.2 ∧ x.2 ≤ 3068036) → (∀ x, x ∈ (l.map (fun s => s.1)).foldl mstep r → 0 ≤ x.2 ∧ x.2 ≤ 3068036) ∧ ((l.map (fun s => s.1)).foldl mstep r).length ≤ r.length + l.length := by
    intro l
    induction l with
    | nil => intro r hr; exact ⟨hr, by simp⟩
    | cons s l ih =>
      intro r hr
      have a := ih (mstep r s.1) (mstep_mem (P := fun x => 0 ≤ x.2 ∧ x.2 ≤ 3068036) hr s.2.2.2 (fun x _ => s.2.2.2))
      have b := mstep_len r s.1
      exact ⟨a.1, by have := a.2; simp only [List.map_cons, List.foldl_cons, List.length_cons]; omega⟩
  have := e l [] (fun x h => absurd h (by simp))
  exact ⟨this.1, by simpa [runs] using this.2⟩
theorem spanb_ex {c : CalZ} {l : List U3} {r : List (Int × Int)} (X : TwList c l r) : ∃ xs : List SpanB, xs.map (fun s => s.1) = l.map (spanOf c) := by
  have hu := X.u
  clear X
  induction l with
  | nil => exact ⟨[], rfl⟩
  | cons u l ih =>
    obtain ⟨xs, hx⟩ := ih (fun j v h => hu (j + 1) v (by simpa using h))
    obtain ⟨h5, ok, l5, s, i0, i1⟩ := hu 0 u (by simp)
    have st := served_told ok s
    have b0 := uend_bd (y := u.2.1) (i := u.2.2 - 1) ok.1 (by omega) (by omega) l5 (by omega) (by omega)
    have b1 := uend_bd (y := u.2.1) (i := u.2.2) ok.1 (by omega) (by omega) l5 (by omega) i1
    exact ⟨⟨spanOf c u, by simp only [spanOf]; omega⟩ :: xs, by simp [hx]⟩

set_option maxRecDepth 100000 in
set_option maxHeartbeats 8000000 in
theorem runs_in (c : CalZ) (L y i k : Int) (l : List U3) (r : List (Int × Int)) (w : World) (R : TwA c L y i k l 0) (X : TwList c l r) (hm : c.nm.size ≤ maxLen) (T0 : FTab w) :
    CallsIn Fence.wide 4 Tryz.prog 28 #[.agg #[.string c.nm, .int .i64 c.k, .int .i64 c.d, .int .i64 c.m, .int .i64 c.s, .int .i64 c.sh, .int .i64 c.p0, .int .i64 c.p1, .int .i64 c.p2, .int .i64 c.cy, .int .i64 c.ex, .int .i64 c.fi, .int .i64 c.la, .int .i64 c.po], .agg #[.int .i64 L, .int .i64 y, .int .i64 i], .int .i64 k] w (SpansOut w r) := by
  obtain ⟨i0, hi, hz0, hz1, hz2⟩ := info_parts infoS
  have h1 : 1 ≤ 4 := by omega
  have cw := fun w T => Weeks_ok c L y i k l w R hm T
  have C := CalIn.new w c 24
  have U := Tri.new (w.alloc (.cells #[.string c.nm, .int .i64 c.k, .int .i64 c.d, .int .i64 c.m, .int .i64 c.s, .int .i64 c.sh, .int .i64 c.p0, .int .i64 c.p1, .int .i64 c.p2, .int .i64 c.cy, .int .i64 c.ex, .int .i64 c.fi, .int .i64 c.la, .int .i64 c.po] 24)) (.int .i64 L) (.int .i64 y) (.int .i64 i) 26
  rw [World.size_alloc] at U
  replace C := C.alloc (.cells #[.int .i64 L, .int .i64 y, .int .i64 i] 26)
  have B := balloc (balloc (Below.refl _ w) (.cells #[.string c.nm, .int .i64 c.k, .int .i64 c.d, .int .i64 c.m, .int .i64 c.s, .int .i64 c.sh, .int .i64 c.p0, .int .i64 c.p1, .int .i64 c.p2, .int .i64 c.cy, .int .i64 c.ex, .int .i64 c.fi, .int .i64 c.la, .int .i64 c.po] 24)) (.cells #[.int .i64 L, .int .i64 y, .int .i64 i] 26)
  have T := (T0.alloc (.cells #[.string c.nm, .int .i64 c.k, .int .i64 c.d, .int .i64 c.m, .int .i64 c.s, .int .i64 c.sh, .int .i64 c.p0, .int .i64 c.p1, .int .i64 c.p2, .int .i64 c.cy, .int .i64 c.ex, .int .i64 c.fi, .int .i64 c.la, .int .i64 c.po] 24)).alloc (.cells #[.int .i64 L, .int .i64 y, .int .i64 i] 26)
  refine callsIn_of_wp_marks Tryz.func28 rfl trivial ?_ rfl
  simp only [Tryz.ntmps28, List.size_toArray, List.length_cons, List.length_nil, Nat.reduceAdd, Nat.reduceSub, Array.replicate_succ, Array.replicate_zero, List.push_toArray, List.append_toArray, List.nil_append, List.cons_append]
  gi_upto_region 1 with fail
  generalize (w.alloc (.cells #[.string c.nm, .int .i64 c.k, .int .i64 c.d, .int .i64 c.m, .int .i64 c.s, .int .i64 c.sh, .int .i64 c.p0, .int .i64 c.p1, .int .i64 c.p2, .int .i64 c.cy, .int .i64 c.ex, .int .i64 c.fi, .int .i64 c.la, .int .i64 c.po] 24)).alloc (.cells #[.int .i64 L, .int .i64 y, .int .i64 i] 26) = W0 at *
  obtain ⟨_, c0, c1, c2, c3, c4, c5, c6, c7, c8, c9, c10, c11, c12, c13⟩ := id C
  obtain ⟨_, u0, u1, u2, fu0, fu1, fu2⟩ := id U
  gi_wp2_with fail
  refine ⟨trivial, (callsIn_wide.2 (cw _ T)).mono ?_⟩
  rintro e w1 ⟨g, cap, rfl, Rw, hg, hb, hcap⟩
  replace C := C.kept hb
  replace B := bthen B hb
  replace T := T.kept hb
  clear hb c0 c1 c2 c3 c4 c5 c6 c7 c8 c9 c10 c11 c12 c13 u0 u1 u2 fu0 fu1 fu2 U cw
  gi_upto_region 5 with fail
  obtain ⟨WB, hWB⟩ : ∃ WB, w1.alloc (.cells #[.slice none 0 0] 46) = WB := ⟨_, rfl⟩
  have hbox : WB.heap[w1.heap.size]? = some (.cells #[.slice none 0 0] 46 (0, 0)) := by rw [← hWB]; exact World.alloc_heap_new w1 _
  have zB : WB.heap.size = w1.heap.size + 1 := by rw [← hWB]; simp
  have b1 : Below w1.heap.size w1 WB := by rw [← hWB]; exact (Below.refl _ w1).alloc (Nat.le_refl _) _
  replace C := C.kept b1
  have BW := bthen B b1
  rw [hWB]
  clear hWB
  obtain ⟨_, c0, c1, c2, c3, c4, c5, c6, c7, c8, c9, c10, c11, c12, c13⟩ := id C
  gi_wp2_with fail
  refine ⟨trivial, (callsIn_wide.2 (spans_any c (some ⟨g, 0, none⟩) l.length cap _)).mono ?_⟩
  rintro e w5 ⟨bc, bl, rfl, C5, L5, hbc, hb⟩
  have b5 : Below w1.heap.size w1 w5 := bthen b1 hb
  have box5 := (hb.block w1.heap.size (by omega)).trans hbox
  have BW5 := bthen BW hb
  have lt5 := C5.lt
  clear c0 c1 c2 c3 c4 c5 c6 c7 c8 c9 c10 c11 c12 c13 hb C hbox
  obtain ⟨xs, hxs⟩ : ∃ xs : List SpanB, xs.map (fun s => s.1) = l.map (spanOf c) := spanb_ex X
  have seq := spans1_in c l xs hxs X.l1 X.u g cap bl bc w1 w5 b5 C5 L5 Rw hm T 3 (by omega)
  gi_upto_region 6 with fail
  refine range_v rfl h1 (gf := 108) (lb := #[.pointer (some ⟨bl, 0, none⟩), .pointer (some ⟨bc, 0, none⟩)]) rfl trivial (enters_of Tryz.func108 (by kernel_rfl) rfl) (B := w1.heap.size) b5.size seq (fun _ => rfl) (RunC w1) (runc_bears w1)
    (fun ss fs W W' l h hl ho g => runc_step h g (fun r e => by cases e; exact ⟨by omega, .inr ho⟩)) ?h0
    (fun s a' W => ∃ b, W.heap[b]? = some (.cells #[.int .i64 s.1.1, .int .i64 s.1.2] 34 (0, 0)) ∧ a' = { tmps := #[.agg #[.string c.nm, .int .i64 c.k, .int .i64 c.d, .int .i64 c.m, .int .i64 c.s, .int .i64 c.sh, .int .i64 c.p0, .int .i64 c.p1, .int .i64 c.p2, .int .i64 c.cy, .int .i64 c.ex, .int .i64 c.fi, .int .i64 c.la, .int .i64 c.po], .agg #[.int .i64 L, .int .i64 y, .int .i64 i], .int .i64 k, .pointer (some ⟨w.heap.size, 0, none⟩), .pointer (some ⟨w.heap.size + 1, 0, none⟩), undef, .slice none 0 0, .int .i64 0, .slice (some ⟨g, 0, none⟩) l.length cap, .int .i64 0, .pointer (some ⟨w1.heap.size, 0, none⟩), .pointer (some ⟨b, 0, none⟩), undef, .tuple #[.slice (some ⟨g, 0, none⟩) l.length cap, .int .i64 0], .agg #[.string c.nm, .int .i64 c.k, .int .i64 c.d, .int .i64 c.m, .int .i64 c.s, .int .i64 c.sh, .int .i64 c.p0, .int .i64 c.p1, .int .i64 c.p2, .int .i64 c.cy, .int .i64 c.ex, .int .i64 c.fi, .int .i64 c.la, .int .i64 c.po], .agg #[.int .i64 L, .int .i64 y, .int .i64 i], .int .i64 k, .tuple #[.slice (some ⟨g, 0, none⟩) l.length cap, .int .i64 0], .slice (some ⟨g, 0, none⟩) l.length cap, .int .i64 0, .int .i64 0, .bool false, undef, .agg #[.string c.nm, .int .i64 c.k, .int .i64 c.d, .int .i64 c.m, .int .i64 c.s, .int .i64 c.sh, .int .i64 c.p0, .int .i64 c.p1, .int .i64 c.p2, .int .i64 c.cy, .int .i64 c.ex, .int .i64 c.fi, .int .i64 c.la, .int .i64 c.po], .slice (some ⟨g, 0, none⟩) l.length cap, .func (.func 108) #[] #[.pointer (some ⟨bl, 0, none⟩), .pointer (some ⟨bc, 0, none⟩)], sval s.1, undef, undef, undef, undef, undef, undef, undef, undef, undef, undef, undef, undef, undef, undef, undef, undef, undef, undef, undef, undef, undef, undef, undef, undef, undef, undef, undef], defers := [] })
    (fun s a' W W' l h ho g => by
      obtain ⟨b, hb, e⟩ := h
      obtain ⟨o, ho, hc⟩ := ho
      exact ⟨b, other_kept g hb (fun q => by subst q; rw [hb] at ho; cases ho; cases hc), e⟩) ?assign ?body ?done
  case h0 => exact ⟨⟨.slice none 0 0, box5, World.ownsRow_nil _ _ _ _, fun b hb => by simp [Value.ownBlock]⟩, fun b hb => by rcases List.mem_singleton.1 hb with rfl; exact ⟨by omega, lt5⟩, b5, by have := b5.size; omega⟩
  case assign =>
    intro lp pre fs s W K hI hlen hK
    simp only [sval]
    gi_wp2
    have g0 : W.grownBy (W.alloc (.cells #[.int .i64 s.1.1, .int .i64 s.1.2] 34)) none := World.grownBy_alloc _ _ _
    exact hK _ _ g0 (runc_step hI g0 (fun r e => by cases e)) ⟨W.heap.size, World.alloc_heap_new W _, rfl⟩
  case body =>
    rintro lp pre fs s a' W hI ⟨b, hb, rfl⟩ hlen
    obtain ⟨⟨v, hv, ho, hf⟩, hfs, hB, hs⟩ := hI
    obtain ⟨x0, f0⟩ := box1 hv
    obtain ⟨⟨s1, s2⟩, sb⟩ := s
    simp only at hb sb
    obtain ⟨d0, d1⟩ := box2 hb
    have bd := runs_bd pre
    have em : runs ((pre ++ [(⟨(s1, s2), sb⟩ : SpanB)]).map (fun s => s.1)) = mstep (runs (pre.map (fun s => s.1))) (s1, s2) := by
      rw [List.map_append]
      exact runs_snoc _ _
    have xl : xs.length ≤ 60 := by have := congrArg List.length hxs; simp at this; have := X.l1; omega
    obtain ⟨q, hq⟩ : ∃ q, runs (pre.map (fun s => s.1)) = q := ⟨_, rfl⟩
    rw [hq] at ho bd em
    have sz := hB.size
    simp only [sval]
    rcases snoc_cases q with rfl | ⟨p, x, rfl⟩
    · obtain ⟨ptr, cap', rfl⟩ : ∃ ptr cap', v = .slice ptr 0 cap' := by
        rcases ho.2 with ⟨e, _⟩ | ⟨g', cap', cur, e, _⟩
        · exact ⟨_, _, e⟩
        · exact ⟨_, _, e⟩
      gi_upto_region 8 with fail
      refine region_round lp (by kernel_rfl) (by kernel_rfl) (by kernel_rfl) ?_
      repeat (quiet_step_in (fail))
      refine wpQuietIn_nil ?_
      intro _ hw'
      obtain ⟨nq, hw''⟩ := hw'
      subst hw''
      generalize hWQ : W.drewN nq = WQ at *
      have hv' : WQ.heap[w1.heap.size]? = some (.cells #[.slice ptr 0 cap'] 46 (0, 0)) := by rw [← hWQ]; exact hv
      have hb' : WQ.heap[b]? = some (.cells #[.int .i64 s1, .int .i64 s2] 34 (0, 0)) := by rw [← hWQ]; exact hb
      have ho' : WQ.ownsRow (w1.heap.size + 1) 34 2 (.slice ptr 0 cap') 0 (scells []) := by rw [← hWQ]; exact ho
      have gq : W.grownBy WQ none := by rw [← hWQ]; exact ⟨rfl, rfl, rfl, Nat.le_refl _, fun k _ _ => rfl⟩
      obtain ⟨y0, yf0⟩ := box1 hv'
      obtain ⟨e0, e1⟩ := box2 hb'
      have zqh : Hid (WQ.heap.size = W.heap.size) := Lib.hid (by rw [← hWQ]; rfl)
      clear hWQ x0 f0 d0 d1
      gi_wp2_with (first
        | (gi_at_builtin; refine wpListIn_append_own_at _ rfl _ _ 46 rfl (w1.heap.size + 1) 34 i0 (.agg #[.int .i64 0, .int .i64 0]) 2 16 underS hi hz0 hz1 hz2 rfl (by decide) _ 0 (scells []) rfl (ho'.alloc _) ⟨WQ.heap.size, 0, none⟩ 1 1 [.int .i64 s1, .int .i64 s2] rfl rfl ?c1 ?c2 ?c3 ?c4 ?c5 ?m1))
      case c1 =>
        intro j u hj
        match j, hj with
        | 0, hj => simp at hj; subst hj; simp [Addr.add, go_sem]
        | 1, hj => simp at hj; subst hj; simp [Addr.add, go_sem]
      case c2 => intro u hu; simp at hu; rcases hu with rfl | rfl <;> rfl
      case c3 => unfold maxLen; omega
      case c4 => omega
      case c5 => simp; have := zqh.out; omega
      case m1 =>
        intro v3 w3 hown3 hg3 hnil3 hat3
        obtain ⟨g3, cap3, rfl, _, _⟩ := hown3.form (by omega)
        have g2 : WQ.grownBy (WQ.alloc (.cells #[.int .i64 s1, .int .i64 s2] 34)) none := World.grownBy_alloc _ _ _
        have ob : ∀ y, (.slice ptr 0 cap' : Value).ownBlock = some y → w1.heap.size + 1 ≤ y ∧ ∃ cur, W.heap[y]? = some (.cells cur 34 (0, 0)) := fun y e => own_lt ho e
        have z2 : W.heap.size < (WQ.alloc (.cells #[.int .i64 s1, .int .i64 s2] 34)).heap.size := by simp [zqh.out]
        have h3 : ∀ k, k < W.heap.size → some k ≠ (.slice ptr 0 cap' : Value).ownBlock → w3.heap[k]? = W.heap[k]? := fun k hk ne => ((hg3.block k (by omega) ne).trans (g2.block k (by have := zqh.out; omega) (by simp))).trans (gq.block k hk (by simp))
        have ne0 : some w1.heap.size ≠ (.slice ptr 0 cap' : Value).ownBlock := fun e => by have := (ob _ e.symm).1; omega
        have hv3 := (h3 _ (by omega) ne0).trans hv
        obtain ⟨c3, f3⟩ := box1 hv3
        have z3 := hg3.size
        have y3 : ∀ y, (Value.slice (some ⟨g3, 0, none⟩) (0 + 1) cap3).ownBlock = some y → w1.heap.size + 1 ≤ y := fun y e => (own_lt hown3 e).1
        gi_wp2
        obtain ⟨w4, hw4⟩ : ∃ w4, w3.setCell ⟨w1.heap.size, 0, none⟩ (.slice (some ⟨g3, 0, none⟩) (0 + 1) cap3) = w4 := ⟨_, rfl⟩
        have g4 : w3.grownBy w4 (some w1.heap.size) := by rw [← hw4]; exact grownBy_setCell' _ _ _
        have hv4 : w4.heap[w1.heap.size]? = some (.cells #[.slice (some ⟨g3, 0, none⟩) (0 + 1) cap3] 46 (0, 0)) := by rw [← hw4]; exact set_box _ hv3
        have hb3 : Below w1.heap.size W w3 := (((Below.refl _ W).grown gq (by omega) (fun k e => by cases e)).grown g2 (by have := zqh.out; omega) (fun k e => by cases e)).grown hg3 (by omega) (fun k e => by have := (ob k e).1; omega)
        have hb4 : Below w1.heap.size W w4 := hb3.grown g4 (by omega) (fun k e => by cases e; exact Nat.le_refl _)
        have z4 := g4.size
        have keep : ∀ k, k < W.heap.size → some k ≠ (.slice ptr 0 cap' : Value).ownBlock → k ≠ w1.heap.size → w4.heap[k]? = W.heap[k]? := fun k hk ne ne' => (g4.block k (by omega) (fun e => ne' (by cases e; rfl))).trans (h3 k hk ne)
        rw [hw4]
        have em2 : mstep ([]) (s1, s2) = [] ++ [(s1, s2)] := rfl
        refine ⟨⟨by omega, fun k o hk ho' hc => ?_⟩, ⟨⟨_, hv4, ?_, fun b hb' e => ?_⟩, fun b hb' => ⟨(hfs b hb').1, by have := (hfs b hb').2; omega⟩, hB.trans hb4, by omega⟩, fun b hb' => ?_, hb4⟩
        · have kl := (Array.getElem?_eq_some_iff.1 ho').1
          have bl5 := b5.size
          refine (keep k kl (fun e => ?_) (by omega)).trans ho'
          obtain ⟨_, cur, hx'⟩ := ob k e.symm
          rw [hx'] at ho'; cases ho'; cases hc
        · rw [em, em2, List.length_append, scells_app]
          refine hown3.kept g4 ?_
          cases e : (Value.slice (some ⟨g3, 0, none⟩) (0 + 1) cap3).ownBlock with
          | none => exact .inl rfl
          | some y => exact .inr (fun q => by have := y3 y e; cases q; omega)
        · rcases hat3 with q | q
          · rw [q] at e; exact hf b hb' e
          · rw [q] at e; simp at e; have := (hfs b hb').2; have := zqh.out; omega
        · exact keep b (hfs b hb').2 (fun e => hf b hb' e.symm) (by have := (hfs b hb').1; omega)
    · have pl : (p ++ [x]).length = p.length + 1 := by simp
      rw [pl] at ho bd
      obtain ⟨gr, cap', rfl, _, _⟩ := ho.form (by omega)
      have xb := bd.1 x (by simp)
      have xc := (scells_at (l := p ++ [x]) (i := p.length) (s := x) (by simp))
      have cx : W.cell? ⟨gr, p.length * 2 + 1, none⟩ = some (.int .i64 x.2) := by rw [ho.cellAt (p.length * 2 + 1) (by omega)]; exact xc.2
      obtain ⟨x1, x2⟩ := x
      simp only at xb cx
      have np : IntKind.i64.wrap ((p.length : Int) + 1 - 1) = (p.length : Int) := by rw [show (p.length : Int) + 1 - 1 = p.length by omega]; exact IntWalk.i64_in _ (by omega)
      have np2 : IntKind.i64.wrap (p.length : Int) = (p.length : Int) := IntWalk.i64_in _ (by omega)
      have nx : IntKind.i64.wrap (x2 + 1) = x2 + 1 := IntWalk.i64_in _ (by omega)
      have n0 : (0 : Int) ≤ p.length := by omega
      have n1 : (p.length : Int) < (p.length : Int) + 1 := by omega
      gi_upto_region 8 with fail
      by_cases hj : x2 + 1 = s1
      · have dj : (x2 + 1 == s1) = true := beq_iff_eq.2 hj
        have hj' := Lib.hid hj
        clear hj
        refine region_round lp (by kernel_rfl) (by kernel_rfl) (by kernel_rfl) ?_
        repeat (quiet_step_in (fail))
        refine wpQuietIn_nil ?_
        intro _ hw'
        obtain ⟨nq, hw''⟩ := hw'
        subst hw''
        obtain ⟨WQ, hWQ⟩ : ∃ WQ, W.drewN nq = WQ := ⟨_, rfl⟩
        rw [hWQ]
        have hv' : WQ.heap[w1.heap.size]? = some (.cells #[.slice (some ⟨gr, 0, none⟩) (p.length + 1) cap'] 46 (0, 0)) := by rw [← hWQ]; exact hv
        have hb' : WQ.heap[b]? = some (.cells #[.int .i64 s1, .int .i64 s2] 34 (0, 0)) := by rw [← hWQ]; exact hb
        have ho' : WQ.ownsRow (w1.heap.size + 1) 34 2 (.slice (some ⟨gr, 0, none⟩) (p.length + 1) cap') (p.length + 1) (scells (p ++ [(x1, x2)])) := by rw [← hWQ]; exact ho
        have gq : W.grownBy WQ none := by rw [← hWQ]; exact ⟨rfl, rfl, rfl, Nat.le_refl _, fun k _ _ => rfl⟩
        have zqh : Hid (WQ.heap.size = W.heap.size) := Lib.hid (by rw [← hWQ]; rfl)
        obtain ⟨y0, yf0⟩ := box1 hv'
        obtain ⟨e0, e1⟩ := box2 hb'
        have cx' : WQ.cell? ⟨gr, p.length * 2 + 1, none⟩ = some (.int .i64 x2) := by rw [← hWQ]; exact cx
        have fx : WQ.frozen? ⟨gr, p.length * 2 + 1, none⟩ = false := ho'.frozenAt _
        clear hWQ x0 f0 d0 d1 cx
        gi_wp2
        obtain ⟨w4, hw4⟩ : ∃ w4, WQ.setCell ⟨gr, p.length * 2 + 1, none⟩ (.int .i64 s2) = w4 := ⟨_, rfl⟩
        have gs : WQ.grownBy w4 (some gr) := by rw [← hw4]; exact grow_set _ _ _ _
        have ho4 : w4.ownsRow (w1.heap.size + 1) 34 2 (.slice (some ⟨gr, 0, none⟩) (p.length + 1) cap') (p.length + 1) (scells (p ++ [(x1, s2)])) := by
          rw [← hw4, ← scells_set]
          exact own_set _ ho'
        obtain ⟨grb, cur, hgr⟩ := own_lt ho (x := gr) rfl
        have z4 := gs.size
        have keep : ∀ k, k < W.heap.size → k ≠ gr → w4.heap[k]? = W.heap[k]? := fun k hk ne => (gs.block k (by have := zqh.out; omega) (fun e => ne (by cases e; rfl))).trans (gq.block k hk (by simp))
        have hb4 : Below w1.heap.size W w4 := ((Below.refl _ W).grown gq (by omega) (fun k e => by cases e)).grown gs (by have := zqh.out; omega) (fun k e => by cases e; omega)
        rw [hw4]
        have em2 : mstep (p ++ [(x1, x2)]) (s1, s2) = p ++ [(x1, s2)] := mstep_join hj'.out
        refine ⟨⟨by have := zqh.out; omega, fun k o hk ho1 hc => ?_⟩, ⟨⟨_, (keep _ (by omega) (by omega)).trans hv, ?_, fun b hb' e => ?_⟩, fun b hb' => ⟨(hfs b hb').1, by have := (hfs b hb').2; have := zqh.out; omega⟩, hB.trans hb4, by have := zqh.out; omega⟩, fun b hb' => ?_, hb4⟩
        · have kl := (Array.getElem?_eq_some_iff.1 ho1).1
          refine (keep k kl (fun e => ?_)).trans ho1
          subst e
          rw [hgr] at ho1; cases ho1; cases hc
        · rw [em, em2, show (p ++ [(x1, s2)]).length = p.length + 1 by simp]
          exact ho4
        · exact hf b hb' e
        · exact keep b (hfs b hb').2 (fun e => hf b hb' (by rw [e]; rfl))
      · have dj : (x2 + 1 == s1) = false := beq_eq_false_iff_ne.2 hj
        have hj' := Lib.hid hj
        clear hj
        refine region_round lp (by kernel_rfl) (by kernel_rfl) (by kernel_rfl) ?_
        repeat (quiet_step_in (fail))
        refine wpQuietIn_nil ?_
        intro _ hw'
        obtain ⟨nq, hw''⟩ := hw'
        subst hw''
        generalize hWQ : W.drewN nq = WQ at *
        have hv' : WQ.heap[w1.heap.size]? = some (.cells #[.slice (some ⟨gr, 0, none⟩) (p.length + 1) cap'] 46 (0, 0)) := by rw [← hWQ]; exact hv
        have hb' : WQ.heap[b]? = some (.cells #[.int .i64 s1, .int .i64 s2] 34 (0, 0)) := by rw [← hWQ]; exact hb
        have ho' : WQ.ownsRow (w1.heap.size + 1) 34 2 (.slice (some ⟨gr, 0, none⟩) (p.length + 1) cap') (p.length + 1) (scells (p ++ [(x1, x2)])) := by rw [← hWQ]; exact ho
        have gq : W.grownBy WQ none := by rw [← hWQ]; exact ⟨rfl, rfl, rfl, Nat.le_refl _, fun k _ _ => rfl⟩
        obtain ⟨y0, yf0⟩ := box1 hv'
        obtain ⟨e0, e1⟩ := box2 hb'
        have zqh : Hid (WQ.heap.size = W.heap.size) := Lib.hid (by rw [← hWQ]; rfl)
        clear hWQ x0 f0 d0 d1 cx
        gi_wp2_with (first
          | (gi_at_builtin; refine wpListIn_append_own_at _ rfl _ _ 46 rfl (w1.heap.size + 1) 34 i0 (.agg #[.int .i64 0, .int .i64 0]) 2 16 underS hi hz0 hz1 hz2 rfl (by decide) _ (p.length + 1) (scells (p ++ [(x1, x2)])) rfl (ho'.alloc _) ⟨WQ.heap.size, 0, none⟩ 1 1 [.int .i64 s1, .int .i64 s2] rfl rfl ?c1 ?c2 ?c3 ?c4 ?c5 ?m1))
        case c2 => first | exact ⟨rfl, rfl⟩ | (intro u hu; simp at hu; rcases hu with rfl | rfl <;> rfl)
        case c3 => unfold maxLen; omega
        case c4 => omega
        case c5 => first | (simp; have := zqh.out; omega) | (have := zqh.out; omega)
        case m1 =>
          intro v3 w3 hown3 hg3 hnil3 hat3
          obtain ⟨g3, cap3, rfl, _, _⟩ := hown3.form (by omega)
          have g2 : WQ.grownBy (WQ.alloc (.cells #[.int .i64 s1, .int .i64 s2] 34)) none := World.grownBy_alloc _ _ _
          have ob : ∀ y, (.slice (some ⟨gr, 0, none⟩) (p.length + 1) cap' : Value).ownBlock = some y → w1.heap.size + 1 ≤ y ∧ ∃ cur, W.heap[y]? = some (.cells cur 34 (0, 0)) := fun y e => own_lt ho e
          have z2 : W.heap.size < (WQ.alloc (.cells #[.int .i64 s1, .int .i64 s2] 34)).heap.size := by simp [zqh.out]
          have h3 : ∀ k, k < W.heap.size → some k ≠ (.slice (some ⟨gr, 0, none⟩) (p.length + 1) cap' : Value).ownBlock → w3.heap[k]? = W.heap[k]? := fun k hk ne => ((hg3.block k (by omega) ne).trans (g2.block k (by have := zqh.out; omega) (by simp))).trans (gq.block k hk (by simp))
          have ne0 : some w1.heap.size ≠ (.slice (some ⟨gr, 0, none⟩) (p.length + 1) cap' : Value).ownBlock := fun e => by have := (ob _ e.symm).1; omega
          have hv3 := (h3 _ (by omega) ne0).trans hv
          obtain ⟨c3, f3⟩ := box1 hv3
          have z3 := hg3.size
          have y3 : ∀ y, (Value.slice (some ⟨g3, 0, none⟩) ((p.length + 1) + 1) cap3).ownBlock = some y → w1.heap.size + 1 ≤ y := fun y e => (own_lt hown3 e).1
          gi_wp2
          obtain ⟨w4, hw4⟩ : ∃ w4, w3.setCell ⟨w1.heap.size, 0, none⟩ (.slice (some ⟨g3, 0, none⟩) ((p.length + 1) + 1) cap3) = w4 := ⟨_, rfl⟩
          have g4 : w3.grownBy w4 (some w1.heap.size) := by rw [← hw4]; exact grownBy_setCell' _ _ _
          have hv4 : w4.heap[w1.heap.size]? = some (.cells #[.slice (some ⟨g3, 0, none⟩) ((p.length + 1) + 1) cap3] 46 (0, 0)) := by rw [← hw4]; exact set_box _ hv3
          have hb3 : Below w1.heap.size W w3 := (((Below.refl _ W).grown gq (by omega) (fun k e => by cases e)).grown g2 (by have := zqh.out; omega) (fun k e => by cases e)).grown hg3 (by omega) (fun k e => by have := (ob k e).1; omega)
          have hb4 : Below w1.heap.size W w4 := hb3.grown g4 (by omega) (fun k e => by cases e; exact Nat.le_refl _)
          have z4 := g4.size
          have keep : ∀ k, k < W.heap.size → some k ≠ (.slice (some ⟨gr, 0, none⟩) (p.length + 1) cap' : Value).ownBlock → k ≠ w1.heap.size → w4.heap[k]? = W.heap[k]? := fun k hk ne ne' => (g4.block k (by omega) (fun e => ne' (by cases e; rfl))).trans (h3 k hk ne)
          rw [hw4]
          have em2 : mstep ((p ++ [(x1, x2)])) (s1, s2) = (p ++ [(x1, x2)]) ++ [(s1, s2)] := mstep_new hj'.out
          refine ⟨⟨by omega, fun k o hk ho' hc => ?_⟩, ⟨⟨_, hv4, ?_, fun b hb' e => ?_⟩, fun b hb' => ⟨(hfs b hb').1, by have := (hfs b hb').2; omega⟩, hB.trans hb4, by omega⟩, fun b hb' => ?_, hb4⟩
          · have kl := (Array.getElem?_eq_some_iff.1 ho').1
            have bl5 := b5.size
            refine (keep k kl (fun e => ?_) (by omega)).trans ho'
            obtain ⟨_, cur, hx'⟩ := ob k e.symm
            rw [hx'] at ho'; cases ho'; cases hc
          · rw [em, em2, show (p ++ [(x1, x2)] ++ [(s1, s2)]).length = p.length + 1 + 1 by simp, scells_app _ [(s1, s2)]]
            refine hown3.kept g4 ?_
            cases e : (Value.slice (some ⟨g3, 0, none⟩) ((p.length + 1) + 1) cap3).ownBlock with
            | none => exact .inl rfl
            | some y => exact .inr (fun q => by have := y3 y e; cases q; omega)
          · rcases hat3 with q | q
            · rw [q] at e; exact hf b hb' e
            · rw [q] at e; simp at e; have := (hfs b hb').2; have := zqh.out; omega
          · exact keep b (hfs b hb').2 (fun e => hf b hb' e.symm) (by have := (hfs b hb').1; omega)
  case done =>
    intro D fs W hD hI hK
    obtain ⟨⟨v, hv, ho, hf⟩, hfs, hB, hs⟩ := hI
    obtain ⟨x0, f0⟩ := box1 hv
    gi_wp2
    refine ⟨by simp, .inl ⟨_, _, rfl, run_takeDeferred hK, ?_⟩⟩
    have gD : W.grownBy (W.putObj D (.deferred none)) (some D) := grownBy_putObj' _ _ _
    have bl5 := b5.size
    obtain ⟨⟨v', hv', ho', hf'⟩, _, hB', _⟩ := runc_step (fs := fs) ⟨⟨v, hv, ho, hf⟩, hfs, hB, hs⟩ gD (fun r e => by cases e; exact ⟨by omega, .inr ⟨_, hK, rfl⟩⟩)
    have e : v' = v := by
      have := (gD.block w1.heap.size (by omega) (fun e => by cases e; omega)).trans hv
      rw [hv'] at this
      cases this; rfl
    subst e
    have er : runs (xs.map (fun s => s.1)) = r := by rw [hxs]; exact X.eq.symm
    rw [er] at ho'
    have r1 : 1 ≤ r.length := by rcases X.two with ⟨f, t, e, _⟩ | ⟨f1, t1, f2, t2, e, _⟩ <;> rw [e] <;> simp
    obtain ⟨gr, cap', e, hgr, _⟩ := ho'.form (by omega)
    subst e
    exact ⟨_, by simp [results, Tryz.results28, go_sem], gr, cap', rfl, Srow.of_owns ho' (by omega), by have := B.size; omega, bthen B hB', own_cap ho'⟩

end Go.Proofs.YtkfogmaogfgcgaaGreatDoor.Bp

namespace Go.Proofs.YtkfogmaogfgcgaaGreatDoor.Bp
set_option linter.unusedSimpArgs false
set_option linter.unusedVariables false
open Go.RowKit Go.Maps Bn Bx Cp Am Fp Ap Cm Em Ep Rk Hp Ip Jp Dp Mp

theorem Runs_ok (c : CalZ) (L y i k : Int) (l : List U3) (r : List (Int × Int)) (w : World) (R : TwA c L y i k l 0) (X : TwList c l r) (hm : c.nm.size ≤ maxLen) (T : FTab w) :
    Calls Tryz.prog 28 #[.agg #[.string c.nm, .int .i64 c.k, .int .i64 c.d, .int .i64 c.m, .int .i64 c.s, .int .i64 c.sh, .int .i64 c.p0, .int .i64 c.p1, .int .i64 c.p2, .int .i64 c.cy, .int .i64 c.ex, .int .i64 c.fi, .int .i64 c.la, .int .i64 c.po], .agg #[.int .i64 L, .int .i64 y, .int .i64 i], .int .i64 k] w (SpansOut w r) :=
  callsIn_wide.1 (runs_in c L y i k l r w R X hm T)

set_option maxRecDepth 100000 in
set_option maxHeartbeats 8000000 in
theorem Runs_er (c : CalZ) (L y i k er : Int) (l : List U3) (w : World) (R : TwA c L y i k l er) (ne : er ≠ 0) (wk : (Lit.int .i64 k).wf = true) (hm : c.nm.size ≤ maxLen) (T0 : FTab w) :
    Calls Tryz.prog 28 #[.agg #[.string c.nm, .int .i64 c.k, .int .i64 c.d, .int .i64 c.m, .int .i64 c.s, .int .i64 c.sh, .int .i64 c.p0, .int .i64 c.p1, .int .i64 c.p2, .int .i64 c.cy, .int .i64 c.ex, .int .i64 c.fi, .int .i64 c.la, .int .i64 c.po], .agg #[.int .i64 L, .int .i64 y, .int .i64 i], .int .i64 k] w fun e w' => e = .returned (.tuple #[.slice none 0 0, .int .i64 er]) ∧ Below w.heap.size w w' := by
  have cw := fun w T => Weeks_er c L y i k er l w R ne wk hm T
  have n1 : (er != 0) = true := bne_iff_ne.2 ne
  clear R ne
  have C := CalIn.new w c 24
  have U := Tri.new (w.alloc (.cells #[.string c.nm, .int .i64 c.k, .int .i64 c.d, .int .i64 c.m, .int .i64 c.s, .int .i64 c.sh, .int .i64 c.p0, .int .i64 c.p1, .int .i64 c.p2, .int .i64 c.cy, .int .i64 c.ex, .int .i64 c.fi, .int .i64 c.la, .int .i64 c.po] 24)) (.int .i64 L) (.int .i64 y) (.int .i64 i) 26
  rw [World.size_alloc] at U
  replace C := C.alloc (.cells #[.int .i64 L, .int .i64 y, .int .i64 i] 26)
  have B := balloc (balloc (Below.refl _ w) (.cells #[.string c.nm, .int .i64 c.k, .int .i64 c.d, .int .i64 c.m, .int .i64 c.s, .int .i64 c.sh, .int .i64 c.p0, .int .i64 c.p1, .int .i64 c.p2, .int .i64 c.cy, .int .i64 c.ex, .int .i64 c.fi, .int .i64 c.la, .int .i64 c.po] 24)) (.cells #[.int .i64 L, .int .i64 y, .int .i64 i] 26)
  have T := (T0.alloc (.cells #[.string c.nm, .int .i64 c.k, .int .i64 c.d, .int .i64 c.m, .int .i64 c.s, .int .i64 c.sh, .int .i64 c.p0, .int .i64 c.p1, .int .i64 c.p2, .int .i64 c.cy, .int .i64 c.ex, .int .i64 c.fi, .int .i64 c.la, .int .i64 c.po] 24)).alloc (.cells #[.int .i64 L, .int .i64 y, .int .i64 i] 26)
  go_enter Tryz.func28, Tryz.ntmps28
  go_upto_region 1 with fail
  generalize (w.alloc (.cells #[.string c.nm, .int .i64 c.k, .int .i64 c.d, .int .i64 c.m, .int .i64 c.s, .int .i64 c.sh, .int .i64 c.p0, .int .i64 c.p1, .int .i64 c.p2, .int .i64 c.cy, .int .i64 c.ex, .int .i64 c.fi, .int .i64 c.la, .int .i64 c.po] 24)).alloc (.cells #[.int .i64 L, .int .i64 y, .int .i64 i] 26) = W0 at *
  obtain ⟨_, c0, c1, c2, c3, c4, c5, c6, c7, c8, c9, c10, c11, c12, c13⟩ := id C
  obtain ⟨_, u0, u1, u2, fu0, fu1, fu2⟩ := id U
  go_wp2_with fail
  refine (cw _ T).mono ?_
  rintro e w1 ⟨rfl, hb⟩
  replace C := C.kept hb
  replace B := bthen B hb
  replace T := T.kept hb
  replace U := U.kept hb
  clear hb c0 c1 c2 c3 c4 c5 c6 c7 c8 c9 c10 c11 c12 c13 u0 u1 u2 fu0 fu1 fu2
  obtain ⟨_, c0, c1, c2, c3, c4, c5, c6, c7, c8, c9, c10, c11, c12, c13⟩ := id C
  obtain ⟨_, u0, u1, u2, fu0, fu1, fu2⟩ := id U
  go_wp2
  go_ret2
  exact ⟨by simp, B⟩

end Go.Proofs.YtkfogmaogfgcgaaGreatDoor.Bp

namespace Go.Proofs.YtkfogmaogfgcgaaGreatDoor.Bl
set_option linter.unusedSimpArgs false
set_option linter.unusedVariables false
open Go.RowKit Bn Bx Cp Am Fp Ap Cm Em Ep Rk Hp Ip Jp Dp Mp Bp

def nrf3 : CalZ := ⟨⟨#[120]⟩, 3, 6, 1, 1, 1, 4, 5, 4, 0, 12, 2000, 2030, 3⟩
theorem nrf3_ok : CalOk nrf3 := ⟨.inr (.inl ⟨rfl, rfl, rfl, rfl, rfl, rfl, rfl, rfl, rfl, rfl⟩), by decide, ⟨by decide, by decide, by decide, by decide⟩, ⟨by decide, by decide, by decide⟩⟩
def nl : List U3 := [(5, 2022, 49), (5, 2022, 50), (5, 2022, 51), (5, 2022, 52)]
theorem nrf3_cmp : cmpW nrf3 2023 2022 49 5 = some nl := by decide +kernel
theorem nrf3_u : UnitOk nrf3 4 2023 12 := ⟨nrf3_ok, ⟨by decide, by decide⟩, ⟨by decide, by decide⟩, by decide, by decide +kernel⟩
theorem nrf3_w : WkOf nrf3 4 2023 12 49 53 := ⟨⟨by decide, by decide +kernel, by decide +kernel, by decide +kernel⟩, ⟨by decide, by decide +kernel, by decide +kernel, by decide +kernel⟩⟩
theorem nrf3_twa : TwA nrf3 4 2023 12 (-1) nl 0 := .inl ⟨nrf3_u, ⟨by decide, by decide⟩, some nl, .inl ⟨by decide, 49, 53, nrf3_w, nrf3_cmp.symm⟩, .inr (.inr ⟨rfl, by decide, rfl⟩)⟩
theorem nrf3_runs : runs (nl.map (spanOf nrf3)) = [(154498, 154525)] := by decide +kernel

set_option maxRecDepth 100000 in
set_option maxHeartbeats 8000000 in
theorem blive_ok (w : World) (tb : FTab w) : Calls Tryz.prog 25 #[] w fun e w' => e = .returned (.bool true) ∧ Below w.heap.size w w' := by
  have q1 : ∀ w, FTab w → Calls Tryz.prog 26 #[.agg #[.string ⟨#[120]⟩, .int .i64 3, .int .i64 6, .int .i64 1, .int .i64 1, .int .i64 1, .int .i64 4, .int .i64 5, .int .i64 4, .int .i64 0, .int .i64 12, .int .i64 2000, .int .i64 2030, .int .i64 3], .agg #[.int .i64 4, .int .i64 2023, .int .i64 12], .int .i64 (-1)] w (UnitsTo w nl) :=
    fun w T => Weeks_ok nrf3 4 2023 12 (-1) nl w nrf3_twa (by unfold maxLen; decide) T
  have q2 : ∀ w, FTab w → Calls Tryz.prog 28 #[.agg #[.string ⟨#[120]⟩, .int .i64 3, .int .i64 6, .int .i64 1, .int .i64 1, .int .i64 1, .int .i64 4, .int .i64 5, .int .i64 4, .int .i64 0, .int .i64 12, .int .i64 2000, .int .i64 2030, .int .i64 3], .agg #[.int .i64 4, .int .i64 2023, .int .i64 12], .int .i64 (-1)] w (SpansOut w [(154498, 154525)]) :=
    fun w T => by
      have X := twa_list nrf3_twa
      rw [nrf3_runs] at X
      exact Runs_ok nrf3 4 2023 12 (-1) nl _ w nrf3_twa X (by unfold maxLen; decide) T
  have C := CalIn.new w nrf3 24
  have B := balloc (Below.refl _ w) (.cells #[.string ⟨#[120]⟩, .int .i64 3, .int .i64 6, .int .i64 1, .int .i64 1, .int .i64 1, .int .i64 4, .int .i64 5, .int .i64 4, .int .i64 0, .int .i64 12, .int .i64 2000, .int .i64 2030, .int .i64 3] 24)
  have T := tb.alloc (.cells #[.string ⟨#[120]⟩, .int .i64 3, .int .i64 6, .int .i64 1, .int .i64 1, .int .i64 1, .int .i64 4, .int .i64 5, .int .i64 4, .int .i64 0, .int .i64 12, .int .i64 2000, .int .i64 2030, .int .i64 3] 24)
  go_enter Tryz.func25, Tryz.ntmps25
  go_upto_region 2 with fail
  replace C : CalIn (w.alloc (.cells #[.string ⟨#[120]⟩, .int .i64 3, .int .i64 6, .int .i64 1, .int .i64 1, .int .i64 1, .int .i64 4, .int .i64 5, .int .i64 4, .int .i64 0, .int .i64 12, .int .i64 2000, .int .i64 2030, .int .i64 3] 24)) w.heap.size nrf3 := C
  generalize w.alloc (.cells #[.string ⟨#[120]⟩, .int .i64 3, .int .i64 6, .int .i64 1, .int .i64 1, .int .i64 1, .int .i64 4, .int .i64 5, .int .i64 4, .int .i64 0, .int .i64 12, .int .i64 2000, .int .i64 2030, .int .i64 3] 24) = W0 at *
  obtain ⟨_, k0, k1, k2, k3, k4, k5, k6, k7, k8, k9, k10, k11, k12, k13⟩ := id C
  simp only [nrf3] at k0 k1 k2 k3 k4 k5 k6 k7 k8 k9 k10 k11 k12 k13
  go_wp2_with fail
  refine (q1 _ T).mono ?_
  rintro e w1 ⟨g, cap, rfl, R, hg, hb, hc⟩
  replace C := C.kept hb
  replace B := bthen B hb
  replace T := T.kept hb
  clear hb k0 k1 k2 k3 k4 k5 k6 k7 k8 k9 k10 k11 k12 k13
  clear hg hc
  obtain ⟨_, k0, k1, k2, k3, k4, k5, k6, k7, k8, k9, k10, k11, k12, k13⟩ := id C
  simp only [nrf3] at k0 k1 k2 k3 k4 k5 k6 k7 k8 k9 k10 k11 k12 k13
  go_wp2_with fail
  refine (q2 _ T).mono ?_
  rintro e w2 ⟨g2, cap2, rfl, S, hg, hb, hc⟩
  replace R := R.kept hb
  replace B := bthen B hb
  clear hb k0 k1 k2 k3 k4 k5 k6 k7 k8 k9 k10 k11 k12 k13
  clear hg hc C T q1 q2
  have r := R.c 0 (5, 2022, 49) rfl
  have s := S.c 0 (154498, 154525) rfl
  simp only [Nat.zero_mul, Nat.zero_add] at r s
  obtain ⟨r0, r1, r2⟩ := r
  obtain ⟨s0, s1⟩ := s
  have l4 : nl.length = 4 := rfl
  rw [l4]
  go_upto_region 4 with fail
  go_quiet (fail)
  go_wp2
  go_ret
  exact ⟨by simp, bdrewN B _⟩

end Go.Proofs.YtkfogmaogfgcgaaGreatDoor.Bl

