/- slices.Collect of units that an iterator tells. -/
import Derived.Shelf.Abstract
import Derived.Shelf.RegionOpen
import Derived.WalkKit
import Derived.OwnWalkIn
import Derived.TacticsInMore
import Derived.LoopNIn
import Derived.LoopIn
import Derived.Maps.AppendAt
import Derived.Maps.OwnIn
import Derived.Test.YtoeifpeiogeenaaGreatDoorProg
import Derived.Test.YtoeifpeiogeenaaGreatDoorJK
import Derived.Test.YtoeifpeiogeenaaGreatDoorJD
namespace Go.Proofs.YtoeifpeiogeenaaGreatDoor.Dp
set_option linter.unusedSimpArgs false
set_option linter.unusedVariables false
open Go.RowKit Go.Shelf Go.Maps Go.Proofs.YtoeifpeiogeenaaGreatDoor.Rk Go.Proofs.YtoeifpeiogeenaaGreatDoor.Ui
attribute [local go_sem] Oper.semAt_some

/-- the box s (its block is w's next one) holds a slice of what has come -/
def Coll (w : World) (ss : List U3) (fs : List Nat) (W : World) : Prop :=
  (∃ v, W.heap[w.heap.size]? = some (.cells #[v] 28 (0, 0)) ∧ W.ownsRow (w.heap.size + 1) 26 3 v ss.length (ucells ss) ∧ (v = .slice none 0 0 ↔ ss = []) ∧ ∀ b, b ∈ fs → v.ownBlock ≠ some b) ∧
  (∀ b, b ∈ fs → w.heap.size + 1 ≤ b ∧ b < W.heap.size) ∧ Below w.heap.size w W ∧ w.heap.size + 1 ≤ W.heap.size
theorem own_lt {W : World} {base x size k : Nat} {e : TypeId} {v : Value} {xs : List Value} (h : W.ownsRow base e size v k xs) (q : v.ownBlock = some x) : base ≤ x ∧ ∃ cur, W.heap[x]? = some (.cells cur e (0, 0)) := by
  rcases h.2 with ⟨h1, _⟩ | ⟨g, cap, cur, hv, hb, hg, _⟩
  · rw [h1] at q; cases q
  · rw [hv] at q
    have : g = x := by simpa [Value.ownBlock] using q
    subst this; exact ⟨hb, cur, hg⟩
theorem coll_step {w W W' : World} {ss : List U3} {fs : List Nat} {row : Option Nat} (h : Coll w ss fs W) (g : W.grownBy W' row) (hr : ∀ r, row = some r → w.heap.size + 1 ≤ r ∧ (r ∈ fs ∨ ∃ o, W.heap[r]? = some o ∧ o.isCells = false)) : Coll w ss fs W' := by
  obtain ⟨⟨v, hv, ho, hn, hf⟩, hfs, hb, hs⟩ := h
  have ne : some w.heap.size ≠ row := fun e => by have := (hr _ e.symm).1; omega
  refine ⟨⟨v, (g.block _ (by omega) (fun e => ne e)).trans hv, ho.kept g ?_, hn, hf⟩, fun b hb' => ⟨(hfs b hb').1, Nat.lt_of_lt_of_le (hfs b hb').2 g.size⟩, hb.grown g (by omega) (fun k e => by have := (hr _ e).1; omega), Nat.le_trans hs g.size⟩
  cases e : v.ownBlock with
  | none => exact .inl rfl
  | some x =>
    refine .inr fun q => ?_
    obtain ⟨_, cur, hx⟩ := own_lt ho e
    rcases (hr x q.symm).2 with q | ⟨o, ho', hc⟩
    · exact hf x q e
    · rw [hx] at ho'; cases ho'; cases hc
theorem coll_bears (w : World) : Bears w.heap.size (Coll w) :=
  ⟨fun ss fs W h => h.2.2.1.size, fun ss fs W b h hb => (h.2.1 b hb).2, fun ss fs W W' h g => coll_step h g (fun r e => by cases e), fun ss fs W o h => by
    have g : W.grownBy (W.alloc o) none := World.grownBy_alloc _ _ _
    obtain ⟨⟨v, hv, ho, hn, hf⟩, hfs, hb, hs⟩ := coll_step h g (fun r e => by cases e)
    have z : (W.alloc o).heap.size = W.heap.size + 1 := by simp
    refine ⟨⟨v, hv, ho, hn, fun b hb => ?_⟩, fun b hb => ?_, hb, hs⟩
    · rcases List.mem_cons.1 hb with rfl | hb
      · intro e
        obtain ⟨⟨v', hv', ho', _⟩, _, _, hs'⟩ := h
        have e2 := (g.block w.heap.size (by omega) (by simp)).trans hv'
        rw [hv] at e2
        cases e2
        obtain ⟨_, cur, hx⟩ := own_lt ho' e
        have := (Array.getElem?_eq_some_iff.1 hx).1
        omega
      · exact hf b hb
    · rcases List.mem_cons.1 hb with rfl | hb
      · exact ⟨h.2.2.2, by omega⟩
      · exact hfs b hb,
    fun ss fs W W' b h hb g => coll_step h g (fun r e => by cases e; exact ⟨(h.2.1 b hb).1, .inl hb⟩)⟩

theorem set_box {W : World} {B : Nat} {v : Value} {t : TypeId} (v' : Value) (h : W.heap[B]? = some (.cells #[v] t (0, 0))) : (W.setCell ⟨B, 0, none⟩ v').heap[B]? = some (.cells #[v'] t (0, 0)) := by
  obtain ⟨hlt, hk⟩ := Array.getElem?_eq_some_iff.1 h
  show (W.heap.modify B _)[B]? = _
  rw [Array.getElem?_eq_getElem (by rw [Array.size_modify]; exact hlt), Array.getElem_modify_self, hk]
  rfl
theorem underU : Tryz.prog.underlying 28 = some (.slice 26) := by kernel_rfl
theorem infoU : (Tryz.prog.info? 26).map (fun i => (i.zero, i.size, i.bytes)) = some (some (.agg #[.int .i64 0, .int .i64 0, .int .i64 0]), 3, 24) := by kernel_rfl
theorem box1 {W : World} {B : Nat} {v : Value} {t : TypeId} (h : W.heap[B]? = some (.cells #[v] t (0, 0))) : W.cell? ⟨B, 0, none⟩ = some v ∧ W.frozen? ⟨B, 0, none⟩ = false := by
  constructor <;> simp [World.cell?, World.frozen?, h]
theorem box3 {W : World} {B : Nat} {u v x : Value} {t : TypeId} (h : W.heap[B]? = some (.cells #[u, v, x] t (0, 0))) : W.cell? ⟨B, 0, none⟩ = some u ∧ W.cell? ⟨B, 1, none⟩ = some v ∧ W.cell? ⟨B, 2, none⟩ = some x := by
  refine ⟨?_, ?_, ?_⟩ <;> simp [World.cell?, h]

set_option maxRecDepth 100000 in
set_option maxHeartbeats 4000000 in
theorem appendSeq_in (xs : List U3) (hx : xs.length ≤ 100000) (gf : Nat) (lb : Array Value) (eg : ∀ args w, (callFunc gf args).run Tryz.prog w = .ok (.enter gf args) w) (n : Nat) (h1 : 1 ≤ n) (w : World)
    (hseq : ∀ w1, Below w.heap.size w w1 → SeqU Fence.wide (n - 1) Tryz.prog gf lb (fun u : U3 => #[uval u]) w.heap.size xs w1) :
    CallsIn Fence.wide n Tryz.prog 100 #[.slice none 0 0, .func (.func gf) #[] lb] w fun e w' => ∃ v, e = .returned v ∧ w'.ownsRow (w.heap.size + 1) 26 3 v xs.length (ucells xs) ∧ (v = .slice none 0 0 ↔ xs = []) ∧ Below w.heap.size w w' := by
  obtain ⟨i0, hi, hz0, hz1, hz2⟩ := info_parts infoU
  refine callsIn_of_wp_marks Tryz.func100 rfl trivial ?_ rfl
  simp only [Tryz.ntmps100, List.size_toArray, List.length_cons, List.length_nil, Nat.reduceAdd, Nat.reduceSub, Array.replicate_succ, Array.replicate_zero, List.push_toArray, List.append_toArray, List.nil_append, List.cons_append]
  gi_wp2
  refine range_u rfl h1 (gf := gf) (lb := lb) rfl trivial eg (B := w.heap.size) (by simp) (hseq _ ((Below.refl _ w).alloc (Nat.le_refl _) _)) (fun _ => rfl) (Coll w) (coll_bears w) (fun ss fs W W' l h hl ho g => coll_step h g (fun r e => by cases e; simp at hl; exact ⟨hl, .inr ho⟩)) ?h0
    (fun x a' W => ∃ b, W.heap[b]? = some (.cells #[.int .i64 x.1, .int .i64 x.2.1, .int .i64 x.2.2] 26 (0, 0)) ∧ a' = { tmps := #[.slice none 0 0, .func (.func gf) #[] lb, .pointer (some ⟨w.heap.size, 0, none⟩), undef, .slice none 0 0, .pointer (some ⟨b, 0, none⟩), .func (.func gf) #[] lb, uval x, undef, undef, undef, undef, undef], defers := [] })
    (fun x a' W W' l h ho g => by
      obtain ⟨b, hb, e⟩ := h
      obtain ⟨o, ho, hc⟩ := ho
      exact ⟨b, other_kept g hb (fun q => by subst q; rw [hb] at ho; cases ho; cases hc), e⟩) ?assign ?body ?done
  case h0 =>
    refine ⟨⟨.slice none 0 0, World.alloc_heap_new w _, World.ownsRow_nil _ _ _ _, ⟨fun _ => rfl, fun _ => rfl⟩, fun b hb => absurd hb (by simp)⟩, fun b hb => absurd hb (by simp), (Below.refl _ w).alloc (Nat.le_refl _) _, by simp⟩
  case assign =>
    intro l pre fs x W K hI hlen hK
    simp only [uval]
    gi_wp2
    have g : W.grownBy (W.alloc (.cells #[.int .i64 x.1, .int .i64 x.2.1, .int .i64 x.2.2] 26)) none := World.grownBy_alloc _ _ _
    exact hK _ _ g (coll_step hI g (fun r e => by cases e)) ⟨W.heap.size, World.alloc_heap_new W _, rfl⟩
  case body =>
    rintro l pre fs x a' W hI ⟨b, hb, rfl⟩ hlen
    obtain ⟨⟨v, hv, ho, hn, hf⟩, hfs, hB, hs⟩ := hI
    obtain ⟨c0, f0⟩ := box1 hv
    obtain ⟨d0, d1, d2⟩ := box3 hb
    have sz := hB.size
    simp only [uval]
    gi_wp2_with (first
      | (gi_at_builtin; refine wpListIn_append_own_at _ rfl _ _ 28 rfl (w.heap.size + 1) 26 i0 (.agg #[.int .i64 0, .int .i64 0, .int .i64 0]) 3 24 underU hi hz0 hz1 hz2 rfl (by decide) _ pre.length (ucells pre) rfl (ho.alloc _) ⟨W.heap.size, 0, none⟩ 1 1 [.int .i64 x.1, .int .i64 x.2.1, .int .i64 x.2.2] rfl rfl ?c1 ?c2 ?c3 ?c4 ?c5 ?m1))
    case c1 =>
      intro j u hj
      match j, hj with
      | 0, hj => simp at hj; subst hj; simp [Addr.add, go_sem]
      | 1, hj => simp at hj; subst hj; simp [Addr.add, go_sem]
      | 2, hj => simp at hj; subst hj; simp [Addr.add, go_sem]
    case c2 => intro u hu; simp at hu; rcases hu with rfl | rfl | rfl <;> rfl
    case c3 => unfold maxLen; omega
    case c4 => omega
    case c5 => simp; omega
    case m1 =>
      intro v3 w3 hown3 hg3 hnil3 hat3
      obtain ⟨g3, cap3, rfl, _, _⟩ := hown3.form (by omega)
      have g2 : W.grownBy (W.alloc (.cells #[.int .i64 x.1, .int .i64 x.2.1, .int .i64 x.2.2] 26)) none := World.grownBy_alloc _ _ _
      have ob : ∀ y, v.ownBlock = some y → w.heap.size + 1 ≤ y ∧ ∃ cur, W.heap[y]? = some (.cells cur 26 (0, 0)) := fun y e => own_lt ho e
      have z2 : (W.alloc (.cells #[.int .i64 x.1, .int .i64 x.2.1, .int .i64 x.2.2] 26)).heap.size = W.heap.size + 1 := by simp
      have h3 : ∀ k, k < W.heap.size → some k ≠ v.ownBlock → w3.heap[k]? = W.heap[k]? := fun k hk ne => (hg3.block k (by omega) ne).trans (g2.block k hk (by simp))
      have ne0 : some w.heap.size ≠ v.ownBlock := fun e => by have := (ob _ e.symm).1; omega
      have hv3 := (h3 _ (by omega) ne0).trans hv
      obtain ⟨c3, f3⟩ := box1 hv3
      have z3 := hg3.size
      have y3 : ∀ y, (Value.slice (some ⟨g3, 0, none⟩) (pre.length + 1) cap3).ownBlock = some y → w.heap.size + 1 ≤ y := fun y e => (own_lt hown3 e).1
      gi_wp2
      obtain ⟨w4, hw4⟩ : ∃ w4, w3.setCell ⟨w.heap.size, 0, none⟩ (.slice (some ⟨g3, 0, none⟩) (pre.length + 1) cap3) = w4 := ⟨_, rfl⟩
      have g4 : w3.grownBy w4 (some w.heap.size) := by rw [← hw4]; exact grownBy_setCell' _ _ _
      have hv4 : w4.heap[w.heap.size]? = some (.cells #[.slice (some ⟨g3, 0, none⟩) (pre.length + 1) cap3] 28 (0, 0)) := by rw [← hw4]; exact set_box _ hv3
      have hb3 : Below w.heap.size W w3 := ((Below.refl _ W).grown g2 (by omega) (fun k e => by cases e)).grown hg3 (by omega) (fun k e => by have := (ob k e).1; omega)
      have hb4 : Below w.heap.size W w4 := hb3.grown g4 (by omega) (fun k e => by cases e; exact Nat.le_refl _)
      have z4 := g4.size
      have keep : ∀ k, k < W.heap.size → some k ≠ v.ownBlock → k ≠ w.heap.size → w4.heap[k]? = W.heap[k]? := fun k hk ne ne' => (g4.block k (by omega) (fun e => ne' (by cases e; rfl))).trans (h3 k hk ne)
      rw [hw4]
      refine ⟨⟨by omega, fun k o hk ho' hc => ?_⟩, ⟨⟨_, hv4, ?_, ?_, fun b hb' e => ?_⟩, fun b hb' => ⟨(hfs b hb').1, by have := (hfs b hb').2; omega⟩, hB.trans hb4, by omega⟩, fun b hb' => ?_, hb4⟩
      · have kl := (Array.getElem?_eq_some_iff.1 ho').1
        refine (keep k kl (fun e => ?_) (by omega)).trans ho'
        obtain ⟨_, cur, hx'⟩ := ob k e.symm
        rw [hx'] at ho'; cases ho'; cases hc
      · rw [List.length_append, ucells_snoc]
        refine hown3.kept g4 ?_
        cases e : (Value.slice (some ⟨g3, 0, none⟩) (pre.length + 1) cap3).ownBlock with
        | none => exact .inl rfl
        | some y => exact .inr (fun q => by have := y3 y e; cases q; omega)
      · constructor
        · intro e; exact absurd e hnil3
        · intro e; simp at e
      · rcases hat3 with q | q
        · rw [q] at e; exact hf b hb' e
        · rw [q] at e; simp at e; have := (hfs b hb').2; omega
      · exact keep b (hfs b hb').2 (fun e => hf b hb' e.symm) (by have := (hfs b hb').1; omega)
  case done =>
    intro D fs W hD hI hK
    obtain ⟨⟨v, hv, ho, hn, hf⟩, hfs, hB, hs⟩ := hI
    obtain ⟨c0, f0⟩ := box1 hv
    gi_wp2
    refine ⟨by simp, .inl ⟨_, _, rfl, run_takeDeferred hK, ?_⟩⟩
    have g : W.grownBy (W.putObj D (.deferred none)) (some D) := grownBy_putObj' _ _ _
    simp at hD
    obtain ⟨⟨v', hv', ho', hn', hf'⟩, _, hB', _⟩ := coll_step (fs := fs) ⟨⟨v, hv, ho, hn, hf⟩, hfs, hB, hs⟩ g (fun r e => by cases e; exact ⟨hD, .inr ⟨_, hK, rfl⟩⟩)
    have e : v' = v := by
      have := (g.block w.heap.size (by omega) (fun e => by cases e; omega)).trans hv
      rw [hv'] at this
      cases this; rfl
    subst e
    exact ⟨_, results_tmp rfl _ _ _, v', rfl, ho', hn', hB'⟩

set_option maxRecDepth 100000 in
set_option maxHeartbeats 4000000 in
theorem collect_in (xs : List U3) (hx : xs.length ≤ 100000) (gf : Nat) (lb : Array Value) (eg : ∀ args w, (callFunc gf args).run Tryz.prog w = .ok (.enter gf args) w) (w : World)
    (hseq : ∀ w1, Below w.heap.size w w1 → SeqU Fence.wide 2 Tryz.prog gf lb (fun u : U3 => #[uval u]) w.heap.size xs w1) :
    CallsIn Fence.wide 4 Tryz.prog 58 #[.func (.func gf) #[] lb] w fun e w' => ∃ v, e = .returned v ∧ w'.ownsRow (w.heap.size + 1) 26 3 v xs.length (ucells xs) ∧ (v = .slice none 0 0 ↔ xs = []) ∧ Below w.heap.size w w' := by
  have h1 : 1 ≤ 4 := by omega
  refine callsIn_of_wp Tryz.func58 rfl trivial ?_ rfl
  simp only [Tryz.ntmps58, List.size_toArray, List.length_cons, List.length_nil, Nat.reduceAdd, Nat.reduceSub, Array.replicate_succ, Array.replicate_zero, List.push_toArray, List.append_toArray, List.nil_append, List.cons_append]
  gi_wp2_with fail
  refine ⟨trivial, (appendSeq_in xs hx gf lb eg 3 (by omega) _ hseq).mono ?_⟩
  rintro e w' ⟨v, rfl, ho, hn, hb⟩
  gi_wp2
  go_ret
  exact ⟨v, rfl, ho, hn, hb⟩

end Go.Proofs.YtoeifpeiogeenaaGreatDoor.Dp
