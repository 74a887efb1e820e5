/- count of package shape: weeks that an iterator tells one by one. -/
import Derived.RangeFuncNested
import Derived.RangeFuncBound
import Derived.RangeFuncCalls
import Derived.RangeFuncLeaves
import Derived.RangeFuncFrom
import Derived.Shelf.Abstract
import Derived.Shelf.RegionOpen
import Derived.WalkKit
import Derived.OwnWalkIn
import Derived.TacticsInMore
import Derived.LoopNIn
import Derived.LoopIn
import Derived.Maps.AppendAt
import Derived.Test.YtjiifmdjhdhabaaGreatDoorProg
import Derived.Test.YtjiifmdjhdhabaaGreatDoorJK
namespace Go.Proofs.YtjiifmdjhdhabaaGreatDoor.Hp
set_option linter.unusedSimpArgs false
set_option linter.unusedVariables false
open Go.RowKit Go.Shelf Go.Proofs.YtjiifmdjhdhabaaGreatDoor.Bx
attribute [local go_sem] Oper.semAt_some

theorem cnew (w : World) (v : Value) (t : TypeId) : (w.alloc (.cells #[v] t)).cell? ⟨w.heap.size, 0, none⟩ = some v ∧ (w.alloc (.cells #[v] t)).frozen? ⟨w.heap.size, 0, none⟩ = false := ⟨by simp [go_sem], by simp [go_sem]⟩
theorem calloc {w : World} {a : Addr} {v : Value} (o : Obj) (h : w.cell? a = some v) : (w.alloc o).cell? a = some v := by
  exact (((Below.refl _ w).alloc (Nat.le_refl _) o).cell (p := a) (World.block_lt_of_cell? _ _ h)).trans h

/-- the block lies as it lay -/
def KeepB (B : Nat) (W W' : World) : Prop := W'.heap[B]? = W.heap[B]?
theorem keepB_b {B : Nat} {w : World} (hB : B < w.heap.size) (W : World) (l : Nat) (o o' : Obj) (hl : w.heap.size ≤ l) (_ : W.heap[l]? = some o) (_ : o.isCells = false) (_ : o.isWalk = false) : KeepB B W (W.putObj l o') := World.putObj_heap_other (by omega)
theorem keepB_of {B n : Nat} {W W' : World} (h : Below n W W') (k : B < n) : KeepB B W W' := h.block B k
theorem keepB_set {B g n : Nat} (W : World) (x : Value) (h : B ≠ g) : KeepB B W (W.setCell ⟨g, n, none⟩ x) := by
  have h' : ¬ g = B := fun e => h e.symm
  unfold KeepB World.setCell
  simp [Array.getElem?_modify, h']

set_option maxRecDepth 100000 in
set_option maxHeartbeats 2000000 in
theorem weeks_in (F : Fence) (n : Nat) (h : F.fn 115) (hro : F.round = none) (a b : Int) (w : World) :
    CallsIn F n Tryz.prog 115 #[.int .i64 a, .int .i64 b] w fun e W' =>
      e = .returned (.func (.func 128) #[] #[.pointer (some ⟨w.heap.size, 0, none⟩), .pointer (some ⟨w.heap.size + 1, 0, none⟩)]) ∧ W' = (w.alloc (.cells #[.int .i64 a] 3)).alloc (.cells #[.int .i64 b] 3) := by
  refine callsIn_of_wp Tryz.func115 rfl h ?_ hro
  simp only [Tryz.ntmps115, List.size_toArray, List.length_cons, List.length_nil, Nat.reduceAdd, Nat.reduceSub, Array.replicate_succ, Array.replicate_zero, List.push_toArray, List.append_toArray, List.nil_append, List.cons_append]
  gi_wp2
  refine bodyPost_ret (results_tmp rfl _ _ _) rfl ?_
  exact ⟨by simp, by simp⟩

set_option maxRecDepth 100000 in
set_option maxHeartbeats 2000000 in
theorem weeks1_in (F : Fence) (n : Nat) (h : F.fn 128) (hro : F.round = none) (hn : 1 ≤ n) (l Ba Bb N : Nat) (a b : Int) (hN : (N : Int) = (b - a + 7) / 7) (a0 : 0 ≤ a) (ab : a ≤ b) (b1 : b ≤ 3068036) (J Jx : List Int → World → Prop)
    (hY : ∀ pre x W, J pre W → pre.length < N → YieldAt F (n - 1) Tryz.prog l #[.int .i64 x] W fun e W' =>
      (e = .returned (.bool true) ∧ J (pre ++ [x]) W' ∧ KeepB Bb W W') ∨ (e = .returned (.bool false) ∧ Jx (pre ++ [x]) W'))
    (W : World) (ha : W.cell? ⟨Ba, 0, none⟩ = some (.int .i64 a)) (hb : W.cell? ⟨Bb, 0, none⟩ = some (.int .i64 b)) (h0 : J [] W) :
    CallsIn F n Tryz.prog 128 #[.func (.yield l) #[] #[], .pointer (some ⟨Ba, 0, none⟩), .pointer (some ⟨Bb, 0, none⟩)] W fun e W' => (∃ v, e = .returned v) ∧
      ((∃ xs : List Int, xs.length = N ∧ J xs W') ∨ (∃ pre, True ∧ Jx pre W')) := by
  refine callsIn_of_wp Tryz.func128 rfl h ?_ hro
  simp only [Tryz.ntmps128, List.size_toArray, List.length_cons, List.length_nil, Nat.reduceAdd, Nat.reduceSub, Array.replicate_succ, Array.replicate_zero, List.push_toArray, List.append_toArray, List.nil_append, List.cons_append]
  gi_wp2
  gi_loopw [4] (fun p wr => ∃ pre : List Int, p = .int .i64 (a + 7 * pre.length) ∧ pre.length ≤ N ∧ wr.cell? ⟨Bb, 0, none⟩ = some (.int .i64 b) ∧ J pre wr) (fun p wr => (b + 8 - intOf p).toNat)
  case atStart => exact ⟨[], by simp, by simp, hb, h0⟩
  case round =>
    obtain ⟨pre, rfl, hl, hc, hJ⟩ := hrel
    obtain ⟨k, hk⟩ : ∃ k : Int, k = pre.length := ⟨_, rfl⟩
    rw [← hk]
    have HK := Lib.hid hk
    have kn : pre.length < N ↔ a + 7 * k ≤ b := by omega
    have kN : (k : Int) ≤ N := by omega
    clear hk
    by_cases hlt : pre.length < N
    · obtain ⟨fn, tmps, assign, body, hy, hR⟩ := hY pre (a + 7 * k) wr hJ hlt
      have c1 : a + 7 * k ≤ b := kn.1 hlt
      have c0 : 0 ≤ k := by have := HK.out; omega
      gi_wp2
      refine hR.mono ?_
      rintro e W3 (⟨rfl, hJ3, hk3⟩ | ⟨rfl, hJx3⟩)
      · have hc3 : W3.cell? ⟨Bb, 0, none⟩ = some (.int .i64 b) := (show W3.cell? ⟨Bb, 0, none⟩ = wr.cell? ⟨Bb, 0, none⟩ from World.cell?_of_block (w := wr) (show W3.heap[(⟨Bb, 0, none⟩ : Addr).block]? = wr.heap[(⟨Bb, 0, none⟩ : Addr).block]? from hk3)).trans hc
        gi_wp2
        go_roundw
        case rel => exact ⟨pre ++ [a + 7 * k], by have := HK.out; simp [← this]; omega, by simp; omega, hc3, hJ3⟩
        case measure => simp [intOf]; omega
      · gi_wp2
        refine bodyPost_ret (results_none rfl _ _ _) rfl ?_
        exact ⟨⟨_, rfl⟩, .inr ⟨_, trivial, hJx3⟩⟩
    · have c1 : b < a + 7 * k := by omega
      have c0 : 0 ≤ k := by have := HK.out; omega
      gi_wp2
      go_end0
      exact ⟨⟨_, rfl⟩, .inl ⟨pre, by omega, hJ⟩⟩

theorem weeks_stops (F : Fence) (n : Nat) (h : F.fn 128) (hro : F.round = none) (hn : 1 ≤ n) (Ba Bb N : Nat) (a b : Int) (hN : (N : Int) = (b - a + 7) / 7) (a0 : 0 ≤ a) (ab : a ≤ b) (b1 : b ≤ 3068036)
    (w : World) (hBa : Ba < w.heap.size) (hBb : Bb < w.heap.size) (ha : w.cell? ⟨Ba, 0, none⟩ = some (.int .i64 a)) (hb : w.cell? ⟨Bb, 0, none⟩ = some (.int .i64 b)) :
    SeqStopsK F n Tryz.prog 128 #[.pointer (some ⟨Ba, 0, none⟩), .pointer (some ⟨Bb, 0, none⟩)] (fun x : Int => #[.int .i64 x]) (KeepB Bb) (fun xs => xs.length = N) (fun _ => True) N w :=
  fun l J Jx W hB _ _ hY h0 => weeks1_in F n h hro hn l Ba Bb N a b hN a0 ab b1 J Jx hY W ((hB.cell (p := ⟨Ba, 0, none⟩) hBa).trans ha) ((hB.cell (p := ⟨Bb, 0, none⟩) hBb).trans hb) h0

set_option maxRecDepth 100000 in
set_option maxHeartbeats 2000000 in
theorem count_in (F : Fence) (n : Nat) (h3 : F.fn 100) (h5 : F.fn 115) (h6 : F.fn 128) (hro : F.round = none) (hn : 3 ≤ n) (a b : Int) (N : Nat) (hN : (N : Int) = (b - a + 7) / 7) (a0 : 0 ≤ a) (ab : a ≤ b) (b1 : b ≤ 3068036) (w : World) :
    CallsIn F n Tryz.prog 100 #[.int .i64 a, .int .i64 b] w fun e W' => e = .returned (.int .i64 N) ∧ Below w.heap.size w W' := by
  have h1 : 1 ≤ n := by omega
  refine callsIn_of_wp_marks Tryz.func100 rfl h3 ?_ hro
  simp only [Tryz.ntmps100, List.size_toArray, List.length_cons, List.length_nil, Nat.reduceAdd, Nat.reduceSub, Array.replicate_succ, Array.replicate_zero, List.push_toArray, List.append_toArray, List.nil_append, List.cons_append]
  gi_wp2_with (gi_at_call 115; refine (weeks_in F (n - 1) h5 hro a b _).mono ?_; rintro e w' ⟨rfl, rfl⟩)
  have hs := cnew w (.int .i64 0) 3
  have ha := cnew (w.alloc (.cells #[.int .i64 0] 3)) (.int .i64 a) 3
  have hb := cnew ((w.alloc (.cells #[.int .i64 0] 3)).alloc (.cells #[.int .i64 a] 3)) (.int .i64 b) 3
  simp only [World.size_alloc] at ha hb
  have hB0 : Below w.heap.size w (((w.alloc (.cells #[.int .i64 0] 3)).alloc (.cells #[.int .i64 a] 3)).alloc (.cells #[.int .i64 b] 3)) := balloc (balloc (balloc (Below.refl _ w) _) _) _
  refine wpIn_rangeFunc_ownF hro h1 (gf := 128) (lb := #[.pointer (some ⟨w.heap.size + 1, 0, none⟩), .pointer (some ⟨w.heap.size + 1 + 1, 0, none⟩)]) rfl h6 (enters_of Tryz.func128 (by kernel_rfl) rfl)
    (weeks_stops F (n - 1) h6 hro (by omega) (w.heap.size + 1) (w.heap.size + 1 + 1) N a b hN a0 ab b1 _ (by simp) (by simp) (calloc _ ha.1) hb.1) (fun h k => k.trans h) (keepB_b (by simp)) (Below.refl _ _) (fun _ => rfl)
    (fun pre W => (W.cell? ⟨w.heap.size, 0, none⟩ = some (.int .i64 (pre.length : Int)) ∧ W.frozen? ⟨w.heap.size, 0, none⟩ = false) ∧ Below w.heap.size w W)
    (fun _ _ _ => False)
    (OwnFrom.and (Own.from (fun s A B row hs hg hr => ⟨cell_kept hs.1 hg hr, (frozen_kept hs.1 hg hr).trans hs.2⟩) _) (ownFrom_below (Nat.le_refl _) (by simp; omega)))
    (fun _ _ _ _ _ hs _ _ => hs)
    ⟨⟨by simp [calloc _ (calloc _ hs.1)], by simp [go_sem]⟩, hB0⟩
    (fun x => { tmps := #[.int .i64 a, .int .i64 b, undef, undef, .int .i64 0, .pointer (some ⟨w.heap.size, 0, none⟩), .int .i64 a, .int .i64 b, .func (.func 128) #[] #[.pointer (some ⟨w.heap.size + 1, 0, none⟩), .pointer (some ⟨w.heap.size + 1 + 1, 0, none⟩)], .int .i64 x, undef, undef, undef], defers := [] }) ?assign ?body ?done ?stop
  case assign =>
    intro l x W K hK
    gi_wp2
    first | exact hK | simpa using hK
  case body =>
    rintro l pre x W ⟨⟨hc, hf⟩, hB⟩ hlt
    have p0 : (0 : Int) ≤ (pre.length : Int) := by omega
    have pN : (pre.length : Int) < N := by omega
    have nN : (N : Int) ≤ 3068036 := by omega
    gi_wp2
    exact ⟨KeepsOthers.setCell _ _ _, keepB_set _ _ (by omega), ⟨by rw [World.cell?_setCell_same' _ _ _ (by rw [hc]; rfl)]; simp, by rw [World.frozen?_setCell]; exact hf⟩, hB.setCell (p := ⟨w.heap.size, 0, none⟩) (Nat.le_refl _) _⟩
  case done =>
    rintro D ys W hD hl ⟨⟨hc, _⟩, hB⟩ hK
    rw [hl] at hc
    have hN' := Lib.hid hN
    clear hN hl
    obtain ⟨v, hv⟩ : ∃ v : Int, v = N := ⟨_, rfl⟩
    rw [← hv] at hc
    have hv' := Lib.hid hv
    clear hv
    gi_wp2
    refine ⟨by simp, .inl ⟨_, _, rfl, run_takeDeferred hK, ?_⟩⟩
    exact ⟨_, results_tmp rfl _ _ _, by rw [← hv'.out]; rfl, hB.trans (belowK_b (w := w) (Nat.le_refl _) W D _ _ (by simp at hD; omega) hK rfl rfl)⟩
  case stop =>
    rintro D c pre W _ _ h _
    exact h.elim

theorem count_any (a b v : Int) (w : World) (hv : v = (b - a + 7) / 7) (a0 : 0 ≤ a) (ab : a ≤ b) (b1 : b ≤ 3068036) :
    Calls Tryz.prog 100 #[.int .i64 a, .int .i64 b] w fun e w' => e = .returned (.int .i64 v) ∧ Below w.heap.size w w' := by
  have := callsIn_wide.1 (count_in Fence.wide 3 trivial trivial trivial rfl (Nat.le_refl _) a b v.toNat (by omega) a0 ab b1 w)
  rwa [show ((v.toNat : Nat) : Int) = v by omega] at this

end Go.Proofs.YtjiifmdjhdhabaaGreatDoor.Hp
