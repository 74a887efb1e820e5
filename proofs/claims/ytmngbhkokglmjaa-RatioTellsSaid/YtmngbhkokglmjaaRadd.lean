/- What Add of the reference of layer 2 comes to. -/
import Derived.Test.YtmngbhkokglmjaaRneg
import Derived.Deep.RegionHeld3
import Derived.Deep.DeepCutAuto
import Derived.Deep.DrawnRows
namespace Go.Proofs.Ytmngbhkokglmjaa.Vr
open Go.RowKit Go.Proofs.Ytmngbhkokglmjaa.Vm Go.Proofs.Ytmngbhkokglmjaa.Vc Go.Proofs.Ytmngbhkokglmjaa.Vl
attribute [local go_sem ↓] Go.wp_at_zero Go.wp_at_succ

set_option maxHeartbeats 1000000

theorem of_to (h l d0 d1 d2 d3 d4 d5 d6 d7 : Int) (w : World) (B : Bd h l) (D : D8 (num h l).natAbs d0 d1 d2 d3 d4 d5 d6 d7) :
    Calls Try.prog 68 #[.agg #[.int .i64 h, .int .u64 l]] w fun e w' => e = .returned (.agg #[.bool (decide (h < 0)), .int .u64 d0, .int .u64 d1, .int .u64 d2, .int .u64 d3, .int .u64 d4, .int .u64 d5, .int .u64 d6, .int .u64 d7]) ∧ Below w.heap.size w w' :=
  (of_at h l d0 d1 d2 d3 d4 d5 d6 d7 w B D).mono fun e w' ⟨he, hw⟩ => ⟨he, by rw [hw]; exact (((((Below.refl _ _).alloc (Nat.le_refl _) _).alloc (by simp) _).alloc (by simp <;> omega) _).alloc (by simp <;> omega) _)⟩

/-- block g holds a sign and eight digits -/
def Nine (W : World) (g : Nat) (v : Bool) (r0 r1 r2 r3 r4 r5 r6 r7 : Int) : Prop := W.cell? ⟨g, 0, none⟩ = some (.bool v) ∧ W.cell? ⟨g, 1, none⟩ = some (.int .u64 r0) ∧ W.cell? ⟨g, 2, none⟩ = some (.int .u64 r1) ∧ W.cell? ⟨g, 3, none⟩ = some (.int .u64 r2) ∧ W.cell? ⟨g, 4, none⟩ = some (.int .u64 r3) ∧ W.cell? ⟨g, 5, none⟩ = some (.int .u64 r4) ∧ W.cell? ⟨g, 6, none⟩ = some (.int .u64 r5) ∧ W.cell? ⟨g, 7, none⟩ = some (.int .u64 r6) ∧ W.cell? ⟨g, 8, none⟩ = some (.int .u64 r7)

/-- block g is there, holds nought, and may be written -/
structure Blk9 (W : World) (g : Nat) : Prop where
  lt : g < W.heap.size
  c : Nine W g false 0 0 0 0 0 0 0 0
  f : ∀ i, W.frozen? ⟨g, i, none⟩ = false
theorem Blk9.kept {W w1 : World} {g : Nat} (p : Blk9 W g) (hb : Below W.heap.size W w1) : Blk9 w1 g := by
  refine ⟨Nat.lt_of_lt_of_le p.lt hb.size, ?_, fun i => (hb.frozen (p := ⟨g, i, none⟩) p.lt).trans (p.f i)⟩
  obtain ⟨k0, k1, k2, k3, k4, k5, k6, k7, k8⟩ := p.c
  have q := fun i => hb.cell (p := ⟨g, i, none⟩) p.lt
  exact ⟨(q 0).trans k0, (q 1).trans k1, (q 2).trans k2, (q 3).trans k3, (q 4).trans k4, (q 5).trans k5, (q 6).trans k6, (q 7).trans k7, (q 8).trans k8⟩
theorem Blk9.new (W : World) (t : TypeId) : Blk9 (W.alloc (.cells #[.bool false, .int .u64 0, .int .u64 0, .int .u64 0, .int .u64 0, .int .u64 0, .int .u64 0, .int .u64 0, .int .u64 0] t)) W.heap.size := by
  refine ⟨by simp, ?_, fun i => by simp [go_sem]⟩
  unfold Nine
  refine ⟨?_, ?_, ?_, ?_, ?_, ?_, ?_, ?_, ?_⟩ <;> simp [go_sem]
theorem Blk9.newD (W : World) (t : TypeId) : Blk9 ((W.alloc (.cells #[.bool false, .int .u64 0, .int .u64 0, .int .u64 0, .int .u64 0, .int .u64 0, .int .u64 0, .int .u64 0, .int .u64 0] t)).drew) W.heap.size := ⟨(Blk9.new W t).lt, (Blk9.new W t).c, (Blk9.new W t).f⟩

/-- the first n cells of block g are f's -/
def Has (W : World) (g n : Nat) (f : Nat → Value) : Prop := ∀ i, i < n → W.cell? ⟨g, i, none⟩ = some (f i)
theorem has_set {W : World} {g n k : Nat} {f : Nat → Value} {v : Value} (h : Has W g n f) (hk : k < n) : Has (W.setCell ⟨g, k, none⟩ v) g n (fun i => if i = k then v else f i) := by
  intro i hi
  show _ = some (if i = k then v else f i)
  by_cases e : i = k
  · subst e
    rw [if_pos rfl]
    exact World.cell?_setCell_same W _ v (h i hi)
  · rw [if_neg e, World.cell?_setCell_other W _ _ v (by intro e'; injection e' with _ e'; exact e e'.symm)]
    exact h i hi
theorem nine_set {W : World} {g : Nat} (v : Bool) (r0 r1 r2 r3 r4 r5 r6 r7 : Int) (K : Blk9 W g) : Nine (((((((((W.setCell ⟨g, 0, none⟩ (.bool v)).setCell ⟨g, 1, none⟩ (.int .u64 r0)).setCell ⟨g, 2, none⟩ (.int .u64 r1)).setCell ⟨g, 3, none⟩ (.int .u64 r2)).setCell ⟨g, 4, none⟩ (.int .u64 r3)).setCell ⟨g, 5, none⟩ (.int .u64 r4)).setCell ⟨g, 6, none⟩ (.int .u64 r5)).setCell ⟨g, 7, none⟩ (.int .u64 r6)).setCell ⟨g, 8, none⟩ (.int .u64 r7)) g v r0 r1 r2 r3 r4 r5 r6 r7 := by
  obtain ⟨k0, k1, k2, k3, k4, k5, k6, k7, k8⟩ := K.c
  have h0 : Has W g 9 (fun i => if i = 0 then .bool false else .int .u64 0) := by
    intro i hi
    match i, hi with
    | 0, _ => exact k0
    | 1, _ => exact k1
    | 2, _ => exact k2
    | 3, _ => exact k3
    | 4, _ => exact k4
    | 5, _ => exact k5
    | 6, _ => exact k6
    | 7, _ => exact k7
    | 8, _ => exact k8
  have h := has_set (has_set (has_set (has_set (has_set (has_set (has_set (has_set (has_set h0 (k := 0) (v := .bool v) (by omega)) (k := 1) (v := .int .u64 r0) (by omega)) (k := 2) (v := .int .u64 r1) (by omega)) (k := 3) (v := .int .u64 r2) (by omega)) (k := 4) (v := .int .u64 r3) (by omega)) (k := 5) (v := .int .u64 r4) (by omega)) (k := 6) (v := .int .u64 r5) (by omega)) (k := 7) (v := .int .u64 r6) (by omega)) (k := 8) (v := .int .u64 r7) (by omega)
  unfold Nine
  refine ⟨?_, ?_, ?_, ?_, ?_, ?_, ?_, ?_, ?_⟩
  · exact (h 0 (by omega)).trans (by simp)
  · exact (h 1 (by omega)).trans (by simp)
  · exact (h 2 (by omega)).trans (by simp)
  · exact (h 3 (by omega)).trans (by simp)
  · exact (h 4 (by omega)).trans (by simp)
  · exact (h 5 (by omega)).trans (by simp)
  · exact (h 6 (by omega)).trans (by simp)
  · exact (h 7 (by omega)).trans (by simp)
  · exact (h 8 (by omega)).trans (by simp)

theorem nine_new (W : World) (v : Bool) (r0 r1 r2 r3 r4 r5 r6 r7 : Int) (t : TypeId) : Nine (W.alloc (.cells #[.bool v, .int .u64 r0, .int .u64 r1, .int .u64 r2, .int .u64 r3, .int .u64 r4, .int .u64 r5, .int .u64 r6, .int .u64 r7] t)) W.heap.size v r0 r1 r2 r3 r4 r5 r6 r7 := by
  unfold Nine
  refine ⟨?_, ?_, ?_, ?_, ?_, ?_, ?_, ?_, ?_⟩ <;> (rw [World.cell?_alloc_at _ _ _ _ rfl]; rfl)

theorem below_nine {B : Nat} {W0 W : World} {g : Nat} (v : Bool) (r0 r1 r2 r3 r4 r5 r6 r7 : Int) (h : Below B W0 W) (hg : B ≤ g) : Below B W0 (((((((((W.setCell ⟨g, 0, none⟩ (.bool v)).setCell ⟨g, 1, none⟩ (.int .u64 r0)).setCell ⟨g, 2, none⟩ (.int .u64 r1)).setCell ⟨g, 3, none⟩ (.int .u64 r2)).setCell ⟨g, 4, none⟩ (.int .u64 r3)).setCell ⟨g, 5, none⟩ (.int .u64 r4)).setCell ⟨g, 6, none⟩ (.int .u64 r5)).setCell ⟨g, 7, none⟩ (.int .u64 r6)).setCell ⟨g, 8, none⟩ (.int .u64 r7)) :=
  ((((((((h.setCell hg _).setCell hg _).setCell hg _).setCell hg _).setCell hg _).setCell hg _).setCell hg _).setCell hg _).setCell hg _

/-- the two arguments' boxes, and the answer's -/
abbrev raW (h1 l1 h2 l2 : Int) (w : World) : World :=
  ((w.alloc (.cells #[.int .i64 h1, .int .u64 l1] 40)).alloc (.cells #[.int .i64 h2, .int .u64 l2] 40)).alloc (.cells #[.int .i64 0, .int .u64 0] 40)

/-- what the loads read stands in every world that is the same below -/
theorem ra_held {h1 l1 h2 l2 : Int} {w w' : World} (h : Below (w.heap.size + 3) (raW h1 l1 h2 l2 w) w') : Below (w.heap.size + 3) (raW h1 l1 h2 l2 w) w' ∧
    w'.cell? ⟨w.heap.size, 0, none⟩ = some (.int .i64 h1) ∧ w'.cell? ⟨w.heap.size, 1, none⟩ = some (.int .u64 l1) ∧ w'.cell? ⟨w.heap.size + 1, 0, none⟩ = some (.int .i64 h2) ∧ w'.cell? ⟨w.heap.size + 1, 1, none⟩ = some (.int .u64 l2) := by
  refine ⟨h, ?_, ?_, ?_, ?_⟩
  · rw [h.cell (p := ⟨w.heap.size, 0, none⟩) (by simp)]; simp [raW, go_sem]
  · rw [h.cell (p := ⟨w.heap.size, 1, none⟩) (by simp)]; simp [raW, go_sem]
  · rw [h.cell (p := ⟨w.heap.size + 1, 0, none⟩) (by simp)]; simp [raW, go_sem]
  · rw [h.cell (p := ⟨w.heap.size + 1, 1, none⟩) (by simp)]; simp [raW, go_sem]

theorem ra_res {h1 l1 h2 l2 : Int} {w w' : World} (h : Below (w.heap.size + 3) (raW h1 l1 h2 l2 w) w') :
    w'.cell? ⟨w.heap.size + 1 + 1, 0, none⟩ = some (.int .i64 0) ∧ w'.cell? ⟨w.heap.size + 1 + 1, 1, none⟩ = some (.int .u64 0) ∧
    w'.frozen? ⟨w.heap.size + 1 + 1, 0, none⟩ = false ∧ w'.frozen? ⟨w.heap.size + 1 + 1, 1, none⟩ = false ∧ w.heap.size + 1 + 1 < w'.heap.size ∧ Below w.heap.size w w' := by
  refine ⟨?_, ?_, ?_, ?_, ?_, ?_⟩
  · rw [h.cell (p := ⟨w.heap.size + 1 + 1, 0, none⟩) (by simp)]; simp [raW, go_sem]
  · rw [h.cell (p := ⟨w.heap.size + 1 + 1, 1, none⟩) (by simp)]; simp [raW, go_sem]
  · rw [h.frozen (p := ⟨w.heap.size + 1 + 1, 0, none⟩) (by simp)]; simp [raW, go_sem]
  · rw [h.frozen (p := ⟨w.heap.size + 1 + 1, 1, none⟩) (by simp)]; simp [raW, go_sem]
  · have := h.size; simp [raW] at this; omega
  · refine Below.trans ?_ (h.mono (by omega))
    exact (((Below.refl _ _).alloc (Nat.le_refl _) _).alloc (by simp) _).alloc (by simp <;> omega) _

theorem below_alloc {B : Nat} {W0 W : World} (hB : B ≤ W0.heap.size) (h : Below B W0 W) (o : Obj) : Below B W0 (W.alloc o) := h.alloc (Nat.le_trans hB h.size) o

/-- what the region leaves: the number of the sum in block g, and whether there were digits enough -/
def AddMid (sum : Int) (w : World) (s6 s7 : Value) (wx : World) : Prop :=
  ∃ (g : Nat) (v : Bool) (z r0 r1 r2 r3 r4 r5 r6 r7 : Int) (ok : Bool), s6 = .pointer (some ⟨g, 0, none⟩) ∧ s7 = .bool ok ∧ D8 z r0 r1 r2 r3 r4 r5 r6 r7 ∧ ((ok = true ∧ sgn v z = sum) ∨ (ok = false ∧ ¬ Fits sum)) ∧ Nine wx g v r0 r1 r2 r3 r4 r5 r6 r7 ∧
    wx.cell? ⟨w.heap.size + 1 + 1, 0, none⟩ = some (.int .i64 0) ∧ wx.cell? ⟨w.heap.size + 1 + 1, 1, none⟩ = some (.int .u64 0) ∧
    wx.frozen? ⟨w.heap.size + 1 + 1, 0, none⟩ = false ∧ wx.frozen? ⟨w.heap.size + 1 + 1, 1, none⟩ = false ∧ w.heap.size + 1 + 1 < wx.heap.size ∧ Below w.heap.size w wx

theorem mid_set {sum h1 l1 h2 l2 : Int} {w W : World} {g : Nat} {v : Bool} {z r0 r1 r2 r3 r4 r5 r6 r7 : Int} {ok : Bool} (K : Blk9 W g) (hB : Below (w.heap.size + 3) (raW h1 l1 h2 l2 w) W) (hg : w.heap.size + 3 ≤ g)
    (dz : D8 z r0 r1 r2 r3 r4 r5 r6 r7) (fin : (ok = true ∧ sgn v z = sum) ∨ (ok = false ∧ ¬ Fits sum)) : AddMid sum w (.pointer (some ⟨g, 0, none⟩)) (.bool ok) (((((((((W.setCell ⟨g, 0, none⟩ (.bool v)).setCell ⟨g, 1, none⟩ (.int .u64 r0)).setCell ⟨g, 2, none⟩ (.int .u64 r1)).setCell ⟨g, 3, none⟩ (.int .u64 r2)).setCell ⟨g, 4, none⟩ (.int .u64 r3)).setCell ⟨g, 5, none⟩ (.int .u64 r4)).setCell ⟨g, 6, none⟩ (.int .u64 r5)).setCell ⟨g, 7, none⟩ (.int .u64 r6)).setCell ⟨g, 8, none⟩ (.int .u64 r7)) :=
  ⟨g, v, z, r0, r1, r2, r3, r4, r5, r6, r7, ok, rfl, rfl, dz, fin, nine_set v r0 r1 r2 r3 r4 r5 r6 r7 K, ra_res (below_nine v r0 r1 r2 r3 r4 r5 r6 r7 hB hg)⟩
theorem mid_new {sum h1 l1 h2 l2 : Int} {w W : World} {v : Bool} {z r0 r1 r2 r3 r4 r5 r6 r7 : Int} {ok : Bool} {t : TypeId} (hB : Below (w.heap.size + 3) (raW h1 l1 h2 l2 w) W)
    (dz : D8 z r0 r1 r2 r3 r4 r5 r6 r7) (fin : (ok = true ∧ sgn v z = sum) ∨ (ok = false ∧ ¬ Fits sum)) : AddMid sum w (.pointer (some ⟨W.heap.size, 0, none⟩)) (.bool ok) (W.alloc (.cells #[.bool v, .int .u64 r0, .int .u64 r1, .int .u64 r2, .int .u64 r3, .int .u64 r4, .int .u64 r5, .int .u64 r6, .int .u64 r7] t)) :=
  ⟨_, v, z, r0, r1, r2, r3, r4, r5, r6, r7, ok, rfl, rfl, dz, fin, nine_new _ v r0 r1 r2 r3 r4 r5 r6 r7 _, ra_res (below_alloc (by simp [raW]) hB _)⟩

set_option maxHeartbeats 4000000 in
theorem rAdd_tells (h1 l1 h2 l2 : Int) (w : World) (b1 : Bd h1 l1) (b2 : Bd h2 l2) :
    Calls Try.prog 44 #[.agg #[.int .i64 h1, .int .u64 l1], .agg #[.int .i64 h2, .int .u64 l2]] w (Tells (num h1 l1 + num h2 l2) w) := by
  obtain ⟨n0, n1, n2⟩ := num_abs h1 l1 b1
  obtain ⟨m0, m1, m2⟩ := num_abs h2 l2 b2
  obtain ⟨x0, x1, x2, x3, x4, x5, x6, x7, D⟩ := d8_ex n0 n1
  obtain ⟨y0, y1, y2, y3, y4, y5, y6, y7, E⟩ := d8_ex m0 m1
  have co1 := fun w => of_to h1 l1 x0 x1 x2 x3 x4 x5 x6 x7 w b1 D
  have co2 := fun w => of_to h2 l2 y0 y1 y2 y3 y4 y5 y6 y7 w b2 E
  have cp := fun w => plus_tells (decide (h1 < 0)) (decide (h2 < 0)) ((num h1 l1).natAbs : Int) ((num h2 l2).natAbs : Int) x0 x1 x2 x3 x4 x5 x6 x7 y0 y1 y2 y3 y4 y5 y6 y7 w D E
  clear D E n1 m1 b1 b2
  have key : ∀ (v : Bool) (z : Int) (ok : Bool), ((ok = true ∧ sgn v z = sgn (decide (h1 < 0)) ((num h1 l1).natAbs : Int) + sgn (decide (h2 < 0)) ((num h2 l2).natAbs : Int)) ∨ (ok = false ∧ decide (h1 < 0) = decide (h2 < 0) ∧ 340282366920938463463374607431768211456 ≤ ((num h1 l1).natAbs : Int) + ((num h2 l2).natAbs : Int))) →
      ((ok = true ∧ sgn v z = num h1 l1 + num h2 l2) ∨ (ok = false ∧ ¬ Fits (num h1 l1 + num h2 l2))) := by
    intro v z ok r
    rcases r with ⟨h, h'⟩ | ⟨h, h', h''⟩
    · exact .inl ⟨h, by rw [h', n2, m2]⟩
    · refine .inr ⟨h, ?_⟩
      rw [← n2, ← m2, ← h']
      unfold Fits sgn
      split <;> omega
  clear n2 m2 n0 m0
  generalize ((num h1 l1).natAbs : Int) = x at *
  generalize ((num h2 l2).natAbs : Int) = y at *
  generalize num h1 l1 + num h2 l2 = sum at *
  replace key := Lib.hid key
  go_enter Try.func44, Try.ntmps44
  go_upto_region 1 with fail
  go_cut [6, 7] (fun s6 s7 wx => AddMid sum w s6 s7 wx)
  case first =>
    go_region_held3 (fun w' => Below (w.heap.size + 3) (raW h1 l1 h2 l2 w) w' ∧ w'.cell? ⟨w.heap.size, 0, none⟩ = some (.int .i64 h1) ∧ w'.cell? ⟨w.heap.size, 1, none⟩ = some (.int .u64 l1) ∧ w'.cell? ⟨w.heap.size + 1, 0, none⟩ = some (.int .i64 h2) ∧ w'.cell? ⟨w.heap.size + 1, 1, none⟩ = some (.int .u64 l2))
      ((refine ra_held ?_; first | (with_reducible assumption) | (with_reducible exact (Below.refl _ _).drew) | ((with_reducible refine Below.drew (below_alloc ?_ ?_ _)); (simp [raW]); (exact Below.refl _ _)) | ((with_reducible refine below_alloc ?_ ?_ _); (simp [raW]); assumption) | ((with_reducible refine below_nine _ _ _ _ _ _ _ _ _ ?_ ?_); assumption; first | omega | (simp <;> omega))))
      (first | (go_at_call 68; first | ((with_reducible refine (co1 _).mono ?_); rintro e w1 ⟨rfl, hb⟩; have hB := below_step (B := w.heap.size + 3) (W0 := raW h1 l1 h2 l2 w) (by simp [raW]) (by with_reducible assumption) hb; have hz : w.heap.size + 3 ≤ w1.heap.size := (by have := hB.size; simp [raW] at this; omega); (first | (have K := Blk9.kept (by with_reducible assumption) hb) | (have K := Blk9.kept (by with_reducible exact Blk9.newD _ _) hb) | (have K := Blk9.kept (by with_reducible exact Blk9.new _ _) hb) | skip); (try simp only [World.size_alloc] at K); (try (obtain ⟨⟨k0, k1, k2, k3, k4, k5, k6, k7, k8⟩, kf⟩ := (⟨K.c, K.f⟩ : _ ∧ _)))) | ((with_reducible refine (co2 _).mono ?_); rintro e w1 ⟨rfl, hb⟩; have hB := below_step (B := w.heap.size + 3) (W0 := raW h1 l1 h2 l2 w) (by simp [raW]) (by with_reducible assumption) hb; have hz : w.heap.size + 3 ≤ w1.heap.size := (by have := hB.size; simp [raW] at this; omega); (first | (have K := Blk9.kept (by with_reducible assumption) hb) | (have K := Blk9.kept (by with_reducible exact Blk9.newD _ _) hb) | (have K := Blk9.kept (by with_reducible exact Blk9.new _ _) hb) | skip); (try simp only [World.size_alloc] at K); (try (obtain ⟨⟨k0, k1, k2, k3, k4, k5, k6, k7, k8⟩, kf⟩ := (⟨K.c, K.f⟩ : _ ∧ _))))) | (go_at_call 69; (with_reducible refine (cp _).mono ?_); rintro e w1 ⟨v, z, r0, r1, r2, r3, r4, r5, r6, r7, ok, rfl, dz, rr, hb⟩; have hB := below_step (B := w.heap.size + 3) (W0 := raW h1 l1 h2 l2 w) (by simp [raW]) (by with_reducible assumption) hb; have hz : w.heap.size + 3 ≤ w1.heap.size := (by have := hB.size; simp [raW] at this; omega); (first | (have K := Blk9.kept (by with_reducible assumption) hb) | (have K := Blk9.kept (by with_reducible exact Blk9.newD _ _) hb) | (have K := Blk9.kept (by with_reducible exact Blk9.new _ _) hb) | skip); (try simp only [World.size_alloc] at K); (try (obtain ⟨⟨k0, k1, k2, k3, k4, k5, k6, k7, k8⟩, kf⟩ := (⟨K.c, K.f⟩ : _ ∧ _)))))
    all_goals go_wp2_with fail
    all_goals go_meet
    all_goals
      first
        | ((with_reducible refine mid_set K hB ?_ dz (key.out v z ok rr)); first | omega | (simp <;> omega))
        | (with_reducible exact mid_new hB dz (key.out v z ok rr))
  case rest =>
    obtain ⟨g, v, z, r0, r1, r2, r3, r4, r5, r6, r7, ok, rfl, rfl, dz, rr, ⟨c0, c1, c2, c3, c4, c5, c6, c7, c8⟩, k0, k1, f0, f1, z0, B1⟩ := hcut
    have cb := fun w => back_tells v z r0 r1 r2 r3 r4 r5 r6 r7 w dz
    clear dz co1 co2 cp key
    go_wp2_with fail
    refine (cb _).mono ?_
    rintro e w1 ⟨h, l, is, rfl, r, hb1⟩
    have q0 := (hb1.cell (p := ⟨w.heap.size + 1 + 1, 0, none⟩) z0).trans k0
    have q1 := (hb1.cell (p := ⟨w.heap.size + 1 + 1, 1, none⟩) z0).trans k1
    have p0 := (hb1.frozen (p := ⟨w.heap.size + 1 + 1, 0, none⟩) z0).trans f0
    have p1 := (hb1.frozen (p := ⟨w.heap.size + 1 + 1, 1, none⟩) z0).trans f1
    have z1 := Nat.lt_of_lt_of_le z0 hb1.size
    have B2 : Below w.heap.size w w1 := bthen B1 hb1
    clear hb1 c0 c1 c2 c3 c4 c5 c6 c7 c8 k0 k1 f0 f1 cb B1
    have fin : (ok = true ∧ is = true ∧ Res sum h l 0) ∨ ((ok = false ∨ (ok = true ∧ is = false)) ∧ ¬ Fits sum) := by
      rcases rr with ⟨rfl, e⟩ | ⟨rfl, e⟩
      · rw [e] at r
        rcases r with ⟨rfl, r⟩ | ⟨rfl, r⟩
        · exact .inl ⟨rfl, rfl, r⟩
        · exact .inr ⟨.inr ⟨rfl, rfl⟩, r⟩
      · exact .inr ⟨.inl rfl, e⟩
    clear rr r z0
    rcases fin with ⟨rfl, rfl, r⟩ | ⟨rfl | ⟨rfl, rfl⟩, r⟩
    · replace r := Lib.hid r
      go_wp2
      refine bodyPost_ret (v := .tuple #[.agg #[.int .i64 h, .int .u64 l], .int .i64 0]) (by simp [results, Try.results44, go_sem, q0, q1, z1]) rfl ⟨h, l, 0, rfl, r.out, ?_⟩
      repeat (first | exact B2 | refine Below.setCell ?_ (by simp <;> omega) _ | refine Below.alloc ?_ (by simp <;> omega) _)
    all_goals
      replace r := Lib.hid r
      go_wp2
      refine bodyPost_ret (v := .tuple #[.agg #[.int .i64 0, .int .u64 0], .int .i64 2]) (by simp [results, Try.results44, go_sem, q0, q1, z1]) rfl ⟨0, 0, 2, rfl, Or.inr ⟨rfl, rfl, rfl, r.out⟩, ?_⟩
      repeat (first | exact B2 | refine Below.setCell ?_ (by simp <;> omega) _ | refine Below.alloc ?_ (by simp <;> omega) _)

theorem rAdd_any (h1 l1 h2 l2 h l er : Int) (w : World) (b1 : Bd h1 l1) (b2 : Bd h2 l2) (r : Res (num h1 l1 + num h2 l2) h l er) :
    Calls Try.prog 44 #[.agg #[.int .i64 h1, .int .u64 l1], .agg #[.int .i64 h2, .int .u64 l2]] w fun e w' =>
      e = .returned (.tuple #[.agg #[.int .i64 h, .int .u64 l], .int .i64 er]) ∧ Below w.heap.size w w' :=
  (rAdd_tells h1 l1 h2 l2 w b1 b2).mono fun e w' ⟨h', l', er', he, r', hb⟩ => by
    obtain ⟨rfl, rfl, rfl⟩ := res_unique r r'
    exact ⟨he, hb⟩

end Go.Proofs.Ytmngbhkokglmjaa.Vr
