/- FieldEnds, walked. -/
import Derived.Test.YtnjmokmlnpehdaaGreatDoorFrow
import Derived.BigRegion
namespace Go.Proofs.YtnjmokmlnpehdaaGreatDoor.Fl
set_option linter.unusedSimpArgs false
set_option linter.unusedVariables false
open Go Go.RowKit Go.Proofs.YtnjmokmlnpehdaaGreatDoor Go.Proofs.YtnjmokmlnpehdaaGreatDoor.Am Go.Proofs.YtnjmokmlnpehdaaGreatDoor.Bn Go.Proofs.YtnjmokmlnpehdaaGreatDoor.Zp Go.Proofs.YtnjmokmlnpehdaaGreatDoor.Zk Go.Proofs.YtnjmokmlnpehdaaGreatDoor.Yg Go.Proofs.YtnjmokmlnpehdaaGreatDoor.Fm Go.Proofs.YtnjmokmlnpehdaaGreatDoor.Fp Go.Proofs.YtnjmokmlnpehdaaGreatDoor.Fn Go.Proofs.YtnjmokmlnpehdaaGreatDoor.Fs

set_option maxHeartbeats 8000000

/-- the first item of a row is written over -/
theorem RowB.head {W : World} {g : Nat} {n n' : NI} {l : List NI} {a0 a1 a2 a3 a4 : Value} (h : RowB W g (n :: l)) (hn : KeyV 0 W n' [a0, a1, a2, a3, a4]) : RowB (W.setCells g 0 [a0, a1, a2, a3, a4]) g (n' :: l) := by
  obtain ⟨cur, h1, h2, h3⟩ := h
  obtain ⟨c, ys, e, k1, k2⟩ := h3
  have h5 := k1.five.1
  have wk : WKeep W (W.setCells g 0 [a0, a1, a2, a3, a4]) := wk_cells h1 0 _
  refine ⟨((((cur.setIfInBounds 0 a0).setIfInBounds 1 a1).setIfInBounds 2 a2).setIfInBounds 3 a3).setIfInBounds 4 a4, ?_, by simpa using h2, ?_⟩
  · exact blk_put (blk_put (blk_put (blk_put (blk_put h1 a0) a1) a2) a3) a4
  · refine ⟨[a0, a1, a2, a3, a4], ys, ?_, hn.keep wk, k2.keep wk⟩
    simp only [Array.toList_setIfInBounds]
    rw [List.take_set, List.take_set, List.take_set, List.take_set, List.take_set, show (n' :: l).length = (n :: l).length from rfl, e]
    match c, h5 with
    | [x0, x1, x2, x3, x4], _ => rfl
/-- the first item's cells -/
theorem RowB.first {W : World} {g : Nat} {n : NI} {l : List NI} (h : RowB W g (n :: l)) : ∃ (s : ByteArray) (a : Int) (gx m wc : Nat), KeyV 0 W n [.string s, .int .i64 a, .slice (some ⟨gx, 0, none⟩) m wc, .bool false, .slice none 0 0] ∧ W.cell? ⟨g, 0, none⟩ = some (.string s) ∧ W.cell? ⟨g, 1, none⟩ = some (.int .i64 a) ∧
    W.cell? ⟨g, 2, none⟩ = some (.slice (some ⟨gx, 0, none⟩) m wc) ∧ W.cell? ⟨g, 3, none⟩ = some (.bool false) ∧ W.cell? ⟨g, 4, none⟩ = some (.slice none 0 0) ∧ (∀ j, W.frozen? ⟨g, j, none⟩ = false) := by
  obtain ⟨xs, K, _, hx⟩ := h.get
  obtain ⟨c, ys, rfl, k1, k2⟩ := K
  obtain ⟨nm, a, ws, gw, wc, cur, e1, rfl, h4⟩ := id k1
  obtain ⟨cur', G, _⟩ := h
  exact ⟨nm, a, gw, ws.length, wc, k1, hx 0 _ rfl, hx 1 _ rfl, hx 2 _ rfl, hx 3 _ rfl, hx 4 _ rfl, fun j => G.frz j⟩
theorem box_cells {b g : Nat} {vs : List Value} (hg : b ≠ g) : ∀ (us : List Value) (o : Nat) (W : World), Box W b vs → Box (W.setCells g o us) b vs
  | [], _, _, h => h
  | u :: r, o, W, h => box_cells hg r (o + 1) _ (h.other o u hg)
theorem RowB.drew {W : World} {g : Nat} {l : List NI} (h : RowB W g l) : RowB W.drew g l := by
  obtain ⟨cur, h1, h2, h3⟩ := h
  exact ⟨cur, h1, h2, KeysV.keep (W' := W.drew) (fun _ _ q => blk_drew q) h3⟩
theorem box_drew {W : World} {b : Nat} {vs : List Value} (h : Box W b vs) : Box W.drew b vs := ⟨h.lt, h.cell, h.frz⟩
theorem nk_head (c : CalZ) : (nk c).map (kyA c) = kyA c (1, 1) :: (nk c).tail.map (kyA c) := rfl

set_option maxRecDepth 100000 in
theorem fends_walk (c d : CalZ) (w : World) (hw : CalWf c) (hv : CalWf d) (tb : NTabs w) :
    Calls Tryz.prog 10 #[.agg #[.string c.nm, .int .i64 c.k, .int .i64 c.d, .int .i64 c.m, .int .i64 c.s, .int .i64 c.sh, .int .i64 c.p0, .int .i64 c.p1, .int .i64 c.p2, .int .i64 c.cy, .int .i64 c.ex, .int .i64 c.fi, .int .i64 c.la, .int .i64 c.po], .agg #[.string d.nm, .int .i64 d.k, .int .i64 d.d, .int .i64 d.m, .int .i64 d.s, .int .i64 d.sh, .int .i64 d.p0, .int .i64 d.p1, .int .i64 d.p2, .int .i64 d.cy, .int .i64 d.ex, .int .i64 d.fi, .int .i64 d.la, .int .i64 d.po]] w fun e w' => e = .returned (.bool true) ∧ Below w.heap.size w w' := by
  have cl := flive_ok
  have hm := hw.1
  have hn := hv.1
  have hT := Lib.hid tb
  have C := (Box.new w #[.string c.nm, .int .i64 c.k, .int .i64 c.d, .int .i64 c.m, .int .i64 c.s, .int .i64 c.sh, .int .i64 c.p0, .int .i64 c.p1, .int .i64 c.p2, .int .i64 c.cy, .int .i64 c.ex, .int .i64 c.fi, .int .i64 c.la, .int .i64 c.po] 30).alloc (.cells #[.string d.nm, .int .i64 d.k, .int .i64 d.d, .int .i64 d.m, .int .i64 d.s, .int .i64 d.sh, .int .i64 d.p0, .int .i64 d.p1, .int .i64 d.p2, .int .i64 d.cy, .int .i64 d.ex, .int .i64 d.fi, .int .i64 d.la, .int .i64 d.po] 30)
  have D := Box.new (w.alloc (.cells #[.string c.nm, .int .i64 c.k, .int .i64 c.d, .int .i64 c.m, .int .i64 c.s, .int .i64 c.sh, .int .i64 c.p0, .int .i64 c.p1, .int .i64 c.p2, .int .i64 c.cy, .int .i64 c.ex, .int .i64 c.fi, .int .i64 c.la, .int .i64 c.po] 30)) #[.string d.nm, .int .i64 d.k, .int .i64 d.d, .int .i64 d.m, .int .i64 d.s, .int .i64 d.sh, .int .i64 d.p0, .int .i64 d.p1, .int .i64 d.p2, .int .i64 d.cy, .int .i64 d.ex, .int .i64 d.fi, .int .i64 d.la, .int .i64 d.po] 30
  have B0 := balloc (balloc (Below.refl _ w) (.cells #[.string c.nm, .int .i64 c.k, .int .i64 c.d, .int .i64 c.m, .int .i64 c.s, .int .i64 c.sh, .int .i64 c.p0, .int .i64 c.p1, .int .i64 c.p2, .int .i64 c.cy, .int .i64 c.ex, .int .i64 c.fi, .int .i64 c.la, .int .i64 c.po] 30)) (.cells #[.string d.nm, .int .i64 d.k, .int .i64 d.d, .int .i64 d.m, .int .i64 d.s, .int .i64 d.sh, .int .i64 d.p0, .int .i64 d.p1, .int .i64 d.p2, .int .i64 d.cy, .int .i64 d.ex, .int .i64 d.fi, .int .i64 d.la, .int .i64 d.po] 30)
  rw [World.size_alloc] at D
  clear hw hv tb
  go_enter Tryz.func10, Tryz.ntmps10
  go_upto_region 1 with fail
  generalize (w.alloc (.cells #[.string c.nm, .int .i64 c.k, .int .i64 c.d, .int .i64 c.m, .int .i64 c.s, .int .i64 c.sh, .int .i64 c.p0, .int .i64 c.p1, .int .i64 c.p2, .int .i64 c.cy, .int .i64 c.ex, .int .i64 c.fi, .int .i64 c.la, .int .i64 c.po] 30)).alloc (.cells #[.string d.nm, .int .i64 d.k, .int .i64 d.d, .int .i64 d.m, .int .i64 d.s, .int .i64 d.sh, .int .i64 d.p0, .int .i64 d.p1, .int .i64 d.p2, .int .i64 d.cy, .int .i64 d.ex, .int .i64 d.fi, .int .i64 d.la, .int .i64 d.po] 30) = W0 at *
  go_wp2_with fail
  refine (cl _ ⟨hT.out.n.kept B0, hT.out.p.kept B0⟩).mono ?_
  rintro e W1 ⟨rfl, hb1⟩
  have C1 := C.kept hb1
  have D1 := D.kept hb1
  have B1 := bthen B0 hb1
  clear C D B0 hb1 cl
  have k0 : W1.cell? ⟨w.heap.size, 0, none⟩ = some (.string c.nm) := C1.cell 0 _ rfl
  have j0 : W1.cell? ⟨w.heap.size + 1, 0, none⟩ = some (.string d.nm) := D1.cell 0 _ rfl
  by_cases hl1 : 100 < c.nm.size
  · have d1 : decide ((c.nm.size : Int) > 100) = true := decide_eq_true (by omega)
    have d2 : decide ((100 : Int) < (c.nm.size : Int)) = true := decide_eq_true (by omega)
    go_wp2_with fail
    go_ret
    exact ⟨rfl, B1⟩
  have d1 : decide ((c.nm.size : Int) > 100) = false := decide_eq_false (by omega)
  have d2 : decide ((100 : Int) < (c.nm.size : Int)) = false := decide_eq_false (by omega)
  by_cases hl2 : 100 < d.nm.size
  · have e1 : decide ((d.nm.size : Int) > 100) = true := decide_eq_true (by omega)
    have e2 : decide ((100 : Int) < (d.nm.size : Int)) = true := decide_eq_true (by omega)
    go_wp2_with fail
    go_ret
    exact ⟨rfl, B1⟩
  have e1 : decide ((d.nm.size : Int) > 100) = false := decide_eq_false (by omega)
  have e2 : decide ((100 : Int) < (d.nm.size : Int)) = false := decide_eq_false (by omega)
  clear k0 j0
  have k0 : W1.cell? ⟨w.heap.size, 0, none⟩ = some (.string c.nm) := C1.cell 0 _ rfl
  have k1 : W1.cell? ⟨w.heap.size, 1, none⟩ = some (.int .i64 c.k) := C1.cell 1 _ rfl
  have k2 : W1.cell? ⟨w.heap.size, 2, none⟩ = some (.int .i64 c.d) := C1.cell 2 _ rfl
  have k3 : W1.cell? ⟨w.heap.size, 3, none⟩ = some (.int .i64 c.m) := C1.cell 3 _ rfl
  have k4 : W1.cell? ⟨w.heap.size, 4, none⟩ = some (.int .i64 c.s) := C1.cell 4 _ rfl
  have k5 : W1.cell? ⟨w.heap.size, 5, none⟩ = some (.int .i64 c.sh) := C1.cell 5 _ rfl
  have k6 : W1.cell? ⟨w.heap.size, 6, none⟩ = some (.int .i64 c.p0) := C1.cell 6 _ rfl
  have k7 : W1.cell? ⟨w.heap.size, 7, none⟩ = some (.int .i64 c.p1) := C1.cell 7 _ rfl
  have k8 : W1.cell? ⟨w.heap.size, 8, none⟩ = some (.int .i64 c.p2) := C1.cell 8 _ rfl
  have k9 : W1.cell? ⟨w.heap.size, 9, none⟩ = some (.int .i64 c.cy) := C1.cell 9 _ rfl
  have k10 : W1.cell? ⟨w.heap.size, 10, none⟩ = some (.int .i64 c.ex) := C1.cell 10 _ rfl
  have k11 : W1.cell? ⟨w.heap.size, 11, none⟩ = some (.int .i64 c.fi) := C1.cell 11 _ rfl
  have k12 : W1.cell? ⟨w.heap.size, 12, none⟩ = some (.int .i64 c.la) := C1.cell 12 _ rfl
  have k13 : W1.cell? ⟨w.heap.size, 13, none⟩ = some (.int .i64 c.po) := C1.cell 13 _ rfl
  have j0 : W1.cell? ⟨w.heap.size + 1, 0, none⟩ = some (.string d.nm) := D1.cell 0 _ rfl
  have j1 : W1.cell? ⟨w.heap.size + 1, 1, none⟩ = some (.int .i64 d.k) := D1.cell 1 _ rfl
  have j2 : W1.cell? ⟨w.heap.size + 1, 2, none⟩ = some (.int .i64 d.d) := D1.cell 2 _ rfl
  have j3 : W1.cell? ⟨w.heap.size + 1, 3, none⟩ = some (.int .i64 d.m) := D1.cell 3 _ rfl
  have j4 : W1.cell? ⟨w.heap.size + 1, 4, none⟩ = some (.int .i64 d.s) := D1.cell 4 _ rfl
  have j5 : W1.cell? ⟨w.heap.size + 1, 5, none⟩ = some (.int .i64 d.sh) := D1.cell 5 _ rfl
  have j6 : W1.cell? ⟨w.heap.size + 1, 6, none⟩ = some (.int .i64 d.p0) := D1.cell 6 _ rfl
  have j7 : W1.cell? ⟨w.heap.size + 1, 7, none⟩ = some (.int .i64 d.p1) := D1.cell 7 _ rfl
  have j8 : W1.cell? ⟨w.heap.size + 1, 8, none⟩ = some (.int .i64 d.p2) := D1.cell 8 _ rfl
  have j9 : W1.cell? ⟨w.heap.size + 1, 9, none⟩ = some (.int .i64 d.cy) := D1.cell 9 _ rfl
  have j10 : W1.cell? ⟨w.heap.size + 1, 10, none⟩ = some (.int .i64 d.ex) := D1.cell 10 _ rfl
  have j11 : W1.cell? ⟨w.heap.size + 1, 11, none⟩ = some (.int .i64 d.fi) := D1.cell 11 _ rfl
  have j12 : W1.cell? ⟨w.heap.size + 1, 12, none⟩ = some (.int .i64 d.la) := D1.cell 12 _ rfl
  have j13 : W1.cell? ⟨w.heap.size + 1, 13, none⟩ = some (.int .i64 d.po) := D1.cell 13 _ rfl
  by_cases ok : CalOk c
  case neg =>
    have cn := fun W T => block_no c W ok hm T
    have ck := fun W T => Go.Proofs.YtnjmokmlnpehdaaGreatDoor.Fp.Check_any c 1 W (.inr ⟨ok, rfl⟩) hm T
    go_wp2_with fail
    refine (cn _ (hT.out.n.kept B1)).mono ?_
    rintro e W2 ⟨rfl, hb2⟩
    have C2 := (C1.kept hb2).alloc (.cells #[.string ⟨#[]⟩, .int .i64 0, .slice none 0 0, .bool false, .slice none 0 0] 25)
    have D2 := (D1.kept hb2).alloc (.cells #[.string ⟨#[]⟩, .int .i64 0, .slice none 0 0, .bool false, .slice none 0 0] 25)
    have B2 := balloc (bthen B1 hb2) (.cells #[.string ⟨#[]⟩, .int .i64 0, .slice none 0 0, .bool false, .slice none 0 0] 25)
    clear k0 k1 k2 k3 k4 k5 k6 k7 k8 k9 k10 k11 k12 k13 j0 j1 j2 j3 j4 j5 j6 j7 j8 j9 j10 j11 j12 j13 C1 D1 B1 hb2 cn
    go_upto_region 6 with fail
    generalize W2.alloc (.cells #[.string ⟨#[]⟩, .int .i64 0, .slice none 0 0, .bool false, .slice none 0 0] 25) = W3 at *
    have k0 : W3.cell? ⟨w.heap.size, 0, none⟩ = some (.string c.nm) := C2.cell 0 _ rfl
    have k1 : W3.cell? ⟨w.heap.size, 1, none⟩ = some (.int .i64 c.k) := C2.cell 1 _ rfl
    have k2 : W3.cell? ⟨w.heap.size, 2, none⟩ = some (.int .i64 c.d) := C2.cell 2 _ rfl
    have k3 : W3.cell? ⟨w.heap.size, 3, none⟩ = some (.int .i64 c.m) := C2.cell 3 _ rfl
    have k4 : W3.cell? ⟨w.heap.size, 4, none⟩ = some (.int .i64 c.s) := C2.cell 4 _ rfl
    have k5 : W3.cell? ⟨w.heap.size, 5, none⟩ = some (.int .i64 c.sh) := C2.cell 5 _ rfl
    have k6 : W3.cell? ⟨w.heap.size, 6, none⟩ = some (.int .i64 c.p0) := C2.cell 6 _ rfl
    have k7 : W3.cell? ⟨w.heap.size, 7, none⟩ = some (.int .i64 c.p1) := C2.cell 7 _ rfl
    have k8 : W3.cell? ⟨w.heap.size, 8, none⟩ = some (.int .i64 c.p2) := C2.cell 8 _ rfl
    have k9 : W3.cell? ⟨w.heap.size, 9, none⟩ = some (.int .i64 c.cy) := C2.cell 9 _ rfl
    have k10 : W3.cell? ⟨w.heap.size, 10, none⟩ = some (.int .i64 c.ex) := C2.cell 10 _ rfl
    have k11 : W3.cell? ⟨w.heap.size, 11, none⟩ = some (.int .i64 c.fi) := C2.cell 11 _ rfl
    have k12 : W3.cell? ⟨w.heap.size, 12, none⟩ = some (.int .i64 c.la) := C2.cell 12 _ rfl
    have k13 : W3.cell? ⟨w.heap.size, 13, none⟩ = some (.int .i64 c.po) := C2.cell 13 _ rfl
    have j0 : W3.cell? ⟨w.heap.size + 1, 0, none⟩ = some (.string d.nm) := D2.cell 0 _ rfl
    have j1 : W3.cell? ⟨w.heap.size + 1, 1, none⟩ = some (.int .i64 d.k) := D2.cell 1 _ rfl
    have j2 : W3.cell? ⟨w.heap.size + 1, 2, none⟩ = some (.int .i64 d.d) := D2.cell 2 _ rfl
    have j3 : W3.cell? ⟨w.heap.size + 1, 3, none⟩ = some (.int .i64 d.m) := D2.cell 3 _ rfl
    have j4 : W3.cell? ⟨w.heap.size + 1, 4, none⟩ = some (.int .i64 d.s) := D2.cell 4 _ rfl
    have j5 : W3.cell? ⟨w.heap.size + 1, 5, none⟩ = some (.int .i64 d.sh) := D2.cell 5 _ rfl
    have j6 : W3.cell? ⟨w.heap.size + 1, 6, none⟩ = some (.int .i64 d.p0) := D2.cell 6 _ rfl
    have j7 : W3.cell? ⟨w.heap.size + 1, 7, none⟩ = some (.int .i64 d.p1) := D2.cell 7 _ rfl
    have j8 : W3.cell? ⟨w.heap.size + 1, 8, none⟩ = some (.int .i64 d.p2) := D2.cell 8 _ rfl
    have j9 : W3.cell? ⟨w.heap.size + 1, 9, none⟩ = some (.int .i64 d.cy) := D2.cell 9 _ rfl
    have j10 : W3.cell? ⟨w.heap.size + 1, 10, none⟩ = some (.int .i64 d.ex) := D2.cell 10 _ rfl
    have j11 : W3.cell? ⟨w.heap.size + 1, 11, none⟩ = some (.int .i64 d.fi) := D2.cell 11 _ rfl
    have j12 : W3.cell? ⟨w.heap.size + 1, 12, none⟩ = some (.int .i64 d.la) := D2.cell 12 _ rfl
    have j13 : W3.cell? ⟨w.heap.size + 1, 13, none⟩ = some (.int .i64 d.po) := D2.cell 13 _ rfl
    by_cases okd : CalOk d
    case neg =>
      have cn := fun W T => block_no d W okd hn T
      go_wp2_with fail
      refine (cn _ (hT.out.n.kept B2)).mono ?_
      rintro e W4 ⟨rfl, hb4⟩
      have C4 := (C2.kept hb4).alloc (.cells #[.string ⟨#[]⟩, .int .i64 0, .slice none 0 0, .bool false, .slice none 0 0] 25)
      have B4 := balloc (bthen B2 hb4) (.cells #[.string ⟨#[]⟩, .int .i64 0, .slice none 0 0, .bool false, .slice none 0 0] 25)
      clear k0 k1 k2 k3 k4 k5 k6 k7 k8 k9 k10 k11 k12 k13 j0 j1 j2 j3 j4 j5 j6 j7 j8 j9 j10 j11 j12 j13 C2 D2 B2 hb4 cn
      go_upto_region 7 with fail
      generalize W4.alloc (.cells #[.string ⟨#[]⟩, .int .i64 0, .slice none 0 0, .bool false, .slice none 0 0] 25) = W5 at *
      have k0 : W5.cell? ⟨w.heap.size, 0, none⟩ = some (.string c.nm) := C4.cell 0 _ rfl
      have k1 : W5.cell? ⟨w.heap.size, 1, none⟩ = some (.int .i64 c.k) := C4.cell 1 _ rfl
      have k2 : W5.cell? ⟨w.heap.size, 2, none⟩ = some (.int .i64 c.d) := C4.cell 2 _ rfl
      have k3 : W5.cell? ⟨w.heap.size, 3, none⟩ = some (.int .i64 c.m) := C4.cell 3 _ rfl
      have k4 : W5.cell? ⟨w.heap.size, 4, none⟩ = some (.int .i64 c.s) := C4.cell 4 _ rfl
      have k5 : W5.cell? ⟨w.heap.size, 5, none⟩ = some (.int .i64 c.sh) := C4.cell 5 _ rfl
      have k6 : W5.cell? ⟨w.heap.size, 6, none⟩ = some (.int .i64 c.p0) := C4.cell 6 _ rfl
      have k7 : W5.cell? ⟨w.heap.size, 7, none⟩ = some (.int .i64 c.p1) := C4.cell 7 _ rfl
      have k8 : W5.cell? ⟨w.heap.size, 8, none⟩ = some (.int .i64 c.p2) := C4.cell 8 _ rfl
      have k9 : W5.cell? ⟨w.heap.size, 9, none⟩ = some (.int .i64 c.cy) := C4.cell 9 _ rfl
      have k10 : W5.cell? ⟨w.heap.size, 10, none⟩ = some (.int .i64 c.ex) := C4.cell 10 _ rfl
      have k11 : W5.cell? ⟨w.heap.size, 11, none⟩ = some (.int .i64 c.fi) := C4.cell 11 _ rfl
      have k12 : W5.cell? ⟨w.heap.size, 12, none⟩ = some (.int .i64 c.la) := C4.cell 12 _ rfl
      have k13 : W5.cell? ⟨w.heap.size, 13, none⟩ = some (.int .i64 c.po) := C4.cell 13 _ rfl
      go_wp2_with fail
      refine (ck _ (hT.out.n.kept B4).f).mono ?_
      rintro e W6 ⟨rfl, hb6⟩
      clear k0 k1 k2 k3 k4 k5 k6 k7 k8 k9 k10 k11 k12 k13
      go_wp2_with fail
      go_ret
      exact ⟨rfl, bthen B4 hb6⟩
    case pos =>
      have cn := fun W T => block_ok d W okd hn T
      go_wp2_with fail
      refine (cn _ (hT.out.n.kept B2)).mono ?_
      rintro e W4 ⟨wp, wc, kp, kc, g, rfl, hb4, BT⟩
      clear BT
      obtain ⟨q0, hq0⟩ : ∃ q0, (kys d).length = q0 := ⟨_, rfl⟩
      obtain ⟨nmC, hnmC⟩ : ∃ nmC, calN = nmC := ⟨_, rfl⟩
      rw [hq0, hnmC]
      have C4 := (C2.kept hb4).alloc (.cells #[.string nmC, .int .i64 100, .slice wp 1 wc, .bool true, .slice kp q0 kc] 25)
      have B4 := balloc (bthen B2 hb4) (.cells #[.string nmC, .int .i64 100, .slice wp 1 wc, .bool true, .slice kp q0 kc] 25)
      clear k0 k1 k2 k3 k4 k5 k6 k7 k8 k9 k10 k11 k12 k13 j0 j1 j2 j3 j4 j5 j6 j7 j8 j9 j10 j11 j12 j13 C2 D2 B2 hb4 cn hq0 hnmC
      go_upto_region 7 with fail
      generalize W4.alloc (.cells #[.string nmC, .int .i64 100, .slice wp 1 wc, .bool true, .slice kp q0 kc] 25) = W5 at *
      have k0 : W5.cell? ⟨w.heap.size, 0, none⟩ = some (.string c.nm) := C4.cell 0 _ rfl
      have k1 : W5.cell? ⟨w.heap.size, 1, none⟩ = some (.int .i64 c.k) := C4.cell 1 _ rfl
      have k2 : W5.cell? ⟨w.heap.size, 2, none⟩ = some (.int .i64 c.d) := C4.cell 2 _ rfl
      have k3 : W5.cell? ⟨w.heap.size, 3, none⟩ = some (.int .i64 c.m) := C4.cell 3 _ rfl
      have k4 : W5.cell? ⟨w.heap.size, 4, none⟩ = some (.int .i64 c.s) := C4.cell 4 _ rfl
      have k5 : W5.cell? ⟨w.heap.size, 5, none⟩ = some (.int .i64 c.sh) := C4.cell 5 _ rfl
      have k6 : W5.cell? ⟨w.heap.size, 6, none⟩ = some (.int .i64 c.p0) := C4.cell 6 _ rfl
      have k7 : W5.cell? ⟨w.heap.size, 7, none⟩ = some (.int .i64 c.p1) := C4.cell 7 _ rfl
      have k8 : W5.cell? ⟨w.heap.size, 8, none⟩ = some (.int .i64 c.p2) := C4.cell 8 _ rfl
      have k9 : W5.cell? ⟨w.heap.size, 9, none⟩ = some (.int .i64 c.cy) := C4.cell 9 _ rfl
      have k10 : W5.cell? ⟨w.heap.size, 10, none⟩ = some (.int .i64 c.ex) := C4.cell 10 _ rfl
      have k11 : W5.cell? ⟨w.heap.size, 11, none⟩ = some (.int .i64 c.fi) := C4.cell 11 _ rfl
      have k12 : W5.cell? ⟨w.heap.size, 12, none⟩ = some (.int .i64 c.la) := C4.cell 12 _ rfl
      have k13 : W5.cell? ⟨w.heap.size, 13, none⟩ = some (.int .i64 c.po) := C4.cell 13 _ rfl
      go_wp2_with fail
      refine (ck _ (hT.out.n.kept B4).f).mono ?_
      rintro e W6 ⟨rfl, hb6⟩
      clear k0 k1 k2 k3 k4 k5 k6 k7 k8 k9 k10 k11 k12 k13
      go_wp2_with fail
      go_ret
      exact ⟨rfl, bthen B4 hb6⟩
  case pos =>
    have cn := fun W T => block_new c W ok hm T
    go_wp2_with fail
    refine (cn _ (hT.out.n.kept B1)).mono ?_
    rintro e W2 ⟨wpC, wcC, kpC, kcC, gC, rfl, hb2, BTC, lgC0⟩
    obtain ⟨gwC, hwp, hwc, hWC⟩ := BTC.word
    have hkp := BTC.kids
    have hroomC := BTC.room
    have hrowC := BTC.row
    subst hwp hwc hkp
    have hb6 := kys_bd c
    obtain ⟨qC, hqC⟩ : ∃ q0, (kys c).length = q0 := ⟨_, rfl⟩
    have HQC := Lib.hid hqC
    rw [hqC] at hb6 hroomC ⊢
    obtain ⟨hqC3, hqC6⟩ := hb6
    obtain ⟨nmC, hnmC⟩ : ∃ nmC, calN = nmC := ⟨_, rfl⟩
    have HN := Lib.hid hnmC
    rw [hnmC]
    have C2 := (C1.kept hb2).alloc (.cells #[.string nmC, .int .i64 100, .slice (some ⟨gwC, 0, none⟩) 1 1, .bool true, .slice (some ⟨gC, 0, none⟩) qC kcC] 25)
    have D2 := (D1.kept hb2).alloc (.cells #[.string nmC, .int .i64 100, .slice (some ⟨gwC, 0, none⟩) 1 1, .bool true, .slice (some ⟨gC, 0, none⟩) qC kcC] 25)
    have B2 := balloc (bthen B1 hb2) (.cells #[.string nmC, .int .i64 100, .slice (some ⟨gwC, 0, none⟩) 1 1, .bool true, .slice (some ⟨gC, 0, none⟩) qC kcC] 25)
    have Y2 := Blk.at_ (W := W2) (T := 25) (c := #[.string nmC, .int .i64 100, .slice (some ⟨gwC, 0, none⟩) 1 1, .bool true, .slice (some ⟨gC, 0, none⟩) qC kcC]) rfl
    have hWC2 := hWC.kept (balloc (Below.refl _ _) (.cells #[.string nmC, .int .i64 100, .slice (some ⟨gwC, 0, none⟩) 1 1, .bool true, .slice (some ⟨gC, 0, none⟩) qC kcC] 25))
    have hRC2 := hrowC.kept (balloc (Below.refl _ _) (.cells #[.string nmC, .int .i64 100, .slice (some ⟨gwC, 0, none⟩) 1 1, .bool true, .slice (some ⟨gC, 0, none⟩) qC kcC] 25))
    have lo : w.heap.size + 1 < W2.heap.size := by have := D1.lt; have := hb2.size; omega
    have lgn := hrowC.lt
    have lgC : w.heap.size + 1 < gC := by have := D1.lt; omega
    clear k0 k1 k2 k3 k4 k5 k6 k7 k8 k9 k10 k11 k12 k13 j0 j1 j2 j3 j4 j5 j6 j7 j8 j9 j10 j11 j12 j13 C1 D1 B1 hb2 cn hqC hnmC BTC hWC hrowC
    go_upto_region 6 with fail
    obtain ⟨nb, hnb⟩ : ∃ nb, W2.heap.size = nb := ⟨_, rfl⟩
    rw [hnb] at Y2 lo lgn ⊢
    clear hnb
    generalize W2.alloc (.cells #[.string nmC, .int .i64 100, .slice (some ⟨gwC, 0, none⟩) 1 1, .bool true, .slice (some ⟨gC, 0, none⟩) qC kcC] 25) = W3 at *
    have k0 : W3.cell? ⟨w.heap.size, 0, none⟩ = some (.string c.nm) := C2.cell 0 _ rfl
    have k1 : W3.cell? ⟨w.heap.size, 1, none⟩ = some (.int .i64 c.k) := C2.cell 1 _ rfl
    have k2 : W3.cell? ⟨w.heap.size, 2, none⟩ = some (.int .i64 c.d) := C2.cell 2 _ rfl
    have k3 : W3.cell? ⟨w.heap.size, 3, none⟩ = some (.int .i64 c.m) := C2.cell 3 _ rfl
    have k4 : W3.cell? ⟨w.heap.size, 4, none⟩ = some (.int .i64 c.s) := C2.cell 4 _ rfl
    have k5 : W3.cell? ⟨w.heap.size, 5, none⟩ = some (.int .i64 c.sh) := C2.cell 5 _ rfl
    have k6 : W3.cell? ⟨w.heap.size, 6, none⟩ = some (.int .i64 c.p0) := C2.cell 6 _ rfl
    have k7 : W3.cell? ⟨w.heap.size, 7, none⟩ = some (.int .i64 c.p1) := C2.cell 7 _ rfl
    have k8 : W3.cell? ⟨w.heap.size, 8, none⟩ = some (.int .i64 c.p2) := C2.cell 8 _ rfl
    have k9 : W3.cell? ⟨w.heap.size, 9, none⟩ = some (.int .i64 c.cy) := C2.cell 9 _ rfl
    have k10 : W3.cell? ⟨w.heap.size, 10, none⟩ = some (.int .i64 c.ex) := C2.cell 10 _ rfl
    have k11 : W3.cell? ⟨w.heap.size, 11, none⟩ = some (.int .i64 c.fi) := C2.cell 11 _ rfl
    have k12 : W3.cell? ⟨w.heap.size, 12, none⟩ = some (.int .i64 c.la) := C2.cell 12 _ rfl
    have k13 : W3.cell? ⟨w.heap.size, 13, none⟩ = some (.int .i64 c.po) := C2.cell 13 _ rfl
    have j0 : W3.cell? ⟨w.heap.size + 1, 0, none⟩ = some (.string d.nm) := D2.cell 0 _ rfl
    have j1 : W3.cell? ⟨w.heap.size + 1, 1, none⟩ = some (.int .i64 d.k) := D2.cell 1 _ rfl
    have j2 : W3.cell? ⟨w.heap.size + 1, 2, none⟩ = some (.int .i64 d.d) := D2.cell 2 _ rfl
    have j3 : W3.cell? ⟨w.heap.size + 1, 3, none⟩ = some (.int .i64 d.m) := D2.cell 3 _ rfl
    have j4 : W3.cell? ⟨w.heap.size + 1, 4, none⟩ = some (.int .i64 d.s) := D2.cell 4 _ rfl
    have j5 : W3.cell? ⟨w.heap.size + 1, 5, none⟩ = some (.int .i64 d.sh) := D2.cell 5 _ rfl
    have j6 : W3.cell? ⟨w.heap.size + 1, 6, none⟩ = some (.int .i64 d.p0) := D2.cell 6 _ rfl
    have j7 : W3.cell? ⟨w.heap.size + 1, 7, none⟩ = some (.int .i64 d.p1) := D2.cell 7 _ rfl
    have j8 : W3.cell? ⟨w.heap.size + 1, 8, none⟩ = some (.int .i64 d.p2) := D2.cell 8 _ rfl
    have j9 : W3.cell? ⟨w.heap.size + 1, 9, none⟩ = some (.int .i64 d.cy) := D2.cell 9 _ rfl
    have j10 : W3.cell? ⟨w.heap.size + 1, 10, none⟩ = some (.int .i64 d.ex) := D2.cell 10 _ rfl
    have j11 : W3.cell? ⟨w.heap.size + 1, 11, none⟩ = some (.int .i64 d.fi) := D2.cell 11 _ rfl
    have j12 : W3.cell? ⟨w.heap.size + 1, 12, none⟩ = some (.int .i64 d.la) := D2.cell 12 _ rfl
    have j13 : W3.cell? ⟨w.heap.size + 1, 13, none⟩ = some (.int .i64 d.po) := D2.cell 13 _ rfl
    by_cases okd : CalOk d
    case neg =>
      have cn := fun W T => block_no d W okd hn T
      have ck := fun W T => Go.Proofs.YtnjmokmlnpehdaaGreatDoor.Fp.Check_any c 0 W (.inl ⟨ok, rfl⟩) hm T
      have ck2 := fun W T => Go.Proofs.YtnjmokmlnpehdaaGreatDoor.Fp.Check_any d 1 W (.inr ⟨okd, rfl⟩) hn T
      go_wp2_with fail
      refine (cn _ (hT.out.n.kept B2)).mono ?_
      rintro e W4 ⟨rfl, hb4⟩
      have C4 := (C2.kept hb4).alloc (.cells #[.string ⟨#[]⟩, .int .i64 0, .slice none 0 0, .bool false, .slice none 0 0] 25)
      have D4 := (D2.kept hb4).alloc (.cells #[.string ⟨#[]⟩, .int .i64 0, .slice none 0 0, .bool false, .slice none 0 0] 25)
      have B4 := balloc (bthen B2 hb4) (.cells #[.string ⟨#[]⟩, .int .i64 0, .slice none 0 0, .bool false, .slice none 0 0] 25)
      clear k0 k1 k2 k3 k4 k5 k6 k7 k8 k9 k10 k11 k12 k13 j0 j1 j2 j3 j4 j5 j6 j7 j8 j9 j10 j11 j12 j13 C2 D2 B2 hb4 cn Y2 hWC2 hRC2
      go_upto_region 7 with fail
      generalize W4.alloc (.cells #[.string ⟨#[]⟩, .int .i64 0, .slice none 0 0, .bool false, .slice none 0 0] 25) = W5 at *
      have k0 : W5.cell? ⟨w.heap.size, 0, none⟩ = some (.string c.nm) := C4.cell 0 _ rfl
      have k1 : W5.cell? ⟨w.heap.size, 1, none⟩ = some (.int .i64 c.k) := C4.cell 1 _ rfl
      have k2 : W5.cell? ⟨w.heap.size, 2, none⟩ = some (.int .i64 c.d) := C4.cell 2 _ rfl
      have k3 : W5.cell? ⟨w.heap.size, 3, none⟩ = some (.int .i64 c.m) := C4.cell 3 _ rfl
      have k4 : W5.cell? ⟨w.heap.size, 4, none⟩ = some (.int .i64 c.s) := C4.cell 4 _ rfl
      have k5 : W5.cell? ⟨w.heap.size, 5, none⟩ = some (.int .i64 c.sh) := C4.cell 5 _ rfl
      have k6 : W5.cell? ⟨w.heap.size, 6, none⟩ = some (.int .i64 c.p0) := C4.cell 6 _ rfl
      have k7 : W5.cell? ⟨w.heap.size, 7, none⟩ = some (.int .i64 c.p1) := C4.cell 7 _ rfl
      have k8 : W5.cell? ⟨w.heap.size, 8, none⟩ = some (.int .i64 c.p2) := C4.cell 8 _ rfl
      have k9 : W5.cell? ⟨w.heap.size, 9, none⟩ = some (.int .i64 c.cy) := C4.cell 9 _ rfl
      have k10 : W5.cell? ⟨w.heap.size, 10, none⟩ = some (.int .i64 c.ex) := C4.cell 10 _ rfl
      have k11 : W5.cell? ⟨w.heap.size, 11, none⟩ = some (.int .i64 c.fi) := C4.cell 11 _ rfl
      have k12 : W5.cell? ⟨w.heap.size, 12, none⟩ = some (.int .i64 c.la) := C4.cell 12 _ rfl
      have k13 : W5.cell? ⟨w.heap.size, 13, none⟩ = some (.int .i64 c.po) := C4.cell 13 _ rfl
      go_wp2_with fail
      refine (ck _ (hT.out.n.kept B4).f).mono ?_
      rintro e W6 ⟨rfl, hb6⟩
      have D6 := D4.kept hb6
      have B6 := bthen B4 hb6
      clear k0 k1 k2 k3 k4 k5 k6 k7 k8 k9 k10 k11 k12 k13 C4 D4 hb6 ck
      have j0 : W6.cell? ⟨w.heap.size + 1, 0, none⟩ = some (.string d.nm) := D6.cell 0 _ rfl
      have j1 : W6.cell? ⟨w.heap.size + 1, 1, none⟩ = some (.int .i64 d.k) := D6.cell 1 _ rfl
      have j2 : W6.cell? ⟨w.heap.size + 1, 2, none⟩ = some (.int .i64 d.d) := D6.cell 2 _ rfl
      have j3 : W6.cell? ⟨w.heap.size + 1, 3, none⟩ = some (.int .i64 d.m) := D6.cell 3 _ rfl
      have j4 : W6.cell? ⟨w.heap.size + 1, 4, none⟩ = some (.int .i64 d.s) := D6.cell 4 _ rfl
      have j5 : W6.cell? ⟨w.heap.size + 1, 5, none⟩ = some (.int .i64 d.sh) := D6.cell 5 _ rfl
      have j6 : W6.cell? ⟨w.heap.size + 1, 6, none⟩ = some (.int .i64 d.p0) := D6.cell 6 _ rfl
      have j7 : W6.cell? ⟨w.heap.size + 1, 7, none⟩ = some (.int .i64 d.p1) := D6.cell 7 _ rfl
      have j8 : W6.cell? ⟨w.heap.size + 1, 8, none⟩ = some (.int .i64 d.p2) := D6.cell 8 _ rfl
      have j9 : W6.cell? ⟨w.heap.size + 1, 9, none⟩ = some (.int .i64 d.cy) := D6.cell 9 _ rfl
      have j10 : W6.cell? ⟨w.heap.size + 1, 10, none⟩ = some (.int .i64 d.ex) := D6.cell 10 _ rfl
      have j11 : W6.cell? ⟨w.heap.size + 1, 11, none⟩ = some (.int .i64 d.fi) := D6.cell 11 _ rfl
      have j12 : W6.cell? ⟨w.heap.size + 1, 12, none⟩ = some (.int .i64 d.la) := D6.cell 12 _ rfl
      have j13 : W6.cell? ⟨w.heap.size + 1, 13, none⟩ = some (.int .i64 d.po) := D6.cell 13 _ rfl
      go_wp2_with fail
      refine (ck2 _ (hT.out.n.kept B6).f).mono ?_
      rintro e W7 ⟨rfl, hb7⟩
      clear j0 j1 j2 j3 j4 j5 j6 j7 j8 j9 j10 j11 j12 j13
      go_wp2_with fail
      go_ret
      exact ⟨rfl, bthen B6 hb7⟩
    case pos =>
      have cn := fun W T => block_ok d W okd hn T
      go_wp2_with fail
      refine (cn _ (hT.out.n.kept B2)).mono ?_
      rintro e W4 ⟨wpD, wcD, kpD, kcD, gD, rfl, hb4, BTD⟩
      obtain ⟨gwD, hwp, hwc, hWD⟩ := BTD.word
      have hkp := BTD.kids
      have hrowD := BTD.row
      subst hwp hwc hkp
      obtain ⟨qD, hqD⟩ : ∃ q0, (kys d).length = q0 := ⟨_, rfl⟩
      have HQD := Lib.hid hqD
      have hqD3 := (kys_bd d).1
      rw [hqD] at hqD3 ⊢
      rw [HN.out]
      have C4 := (C2.kept hb4).alloc (.cells #[.string nmC, .int .i64 100, .slice (some ⟨gwD, 0, none⟩) 1 1, .bool true, .slice (some ⟨gD, 0, none⟩) qD kcD] 25)
      have D4 := (D2.kept hb4).alloc (.cells #[.string nmC, .int .i64 100, .slice (some ⟨gwD, 0, none⟩) 1 1, .bool true, .slice (some ⟨gD, 0, none⟩) qD kcD] 25)
      have Y4 := (Y2.kept hb4).kept (balloc (Below.refl _ _) (.cells #[.string nmC, .int .i64 100, .slice (some ⟨gwD, 0, none⟩) 1 1, .bool true, .slice (some ⟨gD, 0, none⟩) qD kcD] 25))
      have V4 := Blk.at_ (W := W4) (T := 25) (c := #[.string nmC, .int .i64 100, .slice (some ⟨gwD, 0, none⟩) 1 1, .bool true, .slice (some ⟨gD, 0, none⟩) qD kcD]) rfl
      have hWC4 := (hWC2.kept hb4).kept (balloc (Below.refl _ _) (.cells #[.string nmC, .int .i64 100, .slice (some ⟨gwD, 0, none⟩) 1 1, .bool true, .slice (some ⟨gD, 0, none⟩) qD kcD] 25))
      have hRC4 := (hRC2.kept hb4).kept (balloc (Below.refl _ _) (.cells #[.string nmC, .int .i64 100, .slice (some ⟨gwD, 0, none⟩) 1 1, .bool true, .slice (some ⟨gD, 0, none⟩) qD kcD] 25))
      have hRD4 := hrowD.kept (balloc (Below.refl _ _) (.cells #[.string nmC, .int .i64 100, .slice (some ⟨gwD, 0, none⟩) 1 1, .bool true, .slice (some ⟨gD, 0, none⟩) qD kcD] 25))
      have B4 := balloc (bthen B2 hb4) (.cells #[.string nmC, .int .i64 100, .slice (some ⟨gwD, 0, none⟩) 1 1, .bool true, .slice (some ⟨gD, 0, none⟩) qD kcD] 25)
      have hnbW : nb < W4.heap.size := Nat.lt_of_lt_of_le Y2.lt hb4.size
      clear k0 k1 k2 k3 k4 k5 k6 k7 k8 k9 k10 k11 k12 k13 j0 j1 j2 j3 j4 j5 j6 j7 j8 j9 j10 j11 j12 j13 C2 D2 Y2 hWC2 hRC2 B2 hb4 cn hqD BTD hWD hrowD
      go_upto_region 7 with fail
      obtain ⟨mb, hmb⟩ : ∃ mb, W4.heap.size = mb := ⟨_, rfl⟩
      have lmb : nb < mb := by have := hnbW; omega
      rw [hmb] at V4 ⊢
      clear hmb
      generalize W4.alloc (.cells #[.string nmC, .int .i64 100, .slice (some ⟨gwD, 0, none⟩) 1 1, .bool true, .slice (some ⟨gD, 0, none⟩) qD kcD] 25) = W5 at *
      have RC5 : RowB W5 gC (kyA c (1, 1) :: (nk c).tail.map (kyA c)) := hRC4
      have RD5 : RowB W5 gD (kyA d (1, 1) :: (nk d).tail.map (kyA d)) := hRD4
      obtain ⟨sC, aC, gxC, mC, wxC, -, c0, c1, c2, c3, c4, fC⟩ := RC5.first
      obtain ⟨sD, aD, gxD, mD, wxD, KD, b0, b1, b2, b3, b4, -⟩ := RD5.first
      have fC0 := fC 0
      have fC1 := fC 1
      have fC2 := fC 2
      have fC3 := fC 3
      have fC4 := fC 4
      have y4 : W5.cell? ⟨nb, 4, none⟩ = some (.slice (some ⟨gC, 0, none⟩) qC kcC) := Y4.cell 4
      have v4 : W5.cell? ⟨mb, 4, none⟩ = some (.slice (some ⟨gD, 0, none⟩) qD kcD) := V4.cell 4
      have zY := Y4.lt
      have zV := V4.lt
      have zC := RC5.lt
      have zD := RD5.lt
      have p1 : (0 : Int) < qC := by omega
      have p2 : (0 : Int) < qD := by omega
      have p3 : 0 < qC := by omega
      have p4 : 0 < qD := by omega
      go_upto_region 9 with fail
      clear fC
      go_region
      change Exit.then _ _ Exit.normal _ (World.drew (World.setCells W5 gC 0 [.string sD, .int .i64 aD, .slice (some ⟨gxD, 0, none⟩) mD wxD, .bool false, .slice none 0 0]))
      have RN0 := RowB.head RC5 KD
      obtain ⟨cur, GC, -⟩ := RC5
      have Y60 : Blk (World.setCells W5 gC 0 [.string sD, .int .i64 aD, .slice (some ⟨gxD, 0, none⟩) mD wxD, .bool false, .slice none 0 0]) nb 25 #[.string nmC, .int .i64 100, .slice (some ⟨gwC, 0, none⟩) 1 1, .bool true, .slice (some ⟨gC, 0, none⟩) qC kcC] := blk_cells (by omega) _ _ _ Y4
      have V60 : Blk (World.setCells W5 gC 0 [.string sD, .int .i64 aD, .slice (some ⟨gxD, 0, none⟩) mD wxD, .bool false, .slice none 0 0]) mb 25 #[.string nmC, .int .i64 100, .slice (some ⟨gwD, 0, none⟩) 1 1, .bool true, .slice (some ⟨gD, 0, none⟩) qD kcD] := blk_cells (by omega) _ _ _ V4
      have C60 := box_cells (g := gC) (by omega) [.string sD, .int .i64 aD, .slice (some ⟨gxD, 0, none⟩) mD wxD, .bool false, .slice none 0 0] 0 W5 C4
      have D60 := box_cells (g := gC) (by omega) [.string sD, .int .i64 aD, .slice (some ⟨gxD, 0, none⟩) mD wxD, .bool false, .slice none 0 0] 0 W5 D4
      have S60 := wk_cells GC 0 [.string sD, .int .i64 aD, .slice (some ⟨gxD, 0, none⟩) mD wxD, .bool false, .slice none 0 0] _ _ hWC4
      have b60 := Go.Proofs.YtnjmokmlnpehdaaGreatDoor.Fn.below_cells [.string sD, .int .i64 aD, .slice (some ⟨gxD, 0, none⟩) mD wxD, .bool false, .slice none 0 0] 0 B4 (b := gC) (by omega)
      obtain ⟨W6, hW6⟩ : ∃ W6, World.drew (World.setCells W5 gC 0 [.string sD, .int .i64 aD, .slice (some ⟨gxD, 0, none⟩) mD wxD, .bool false, .slice none 0 0]) = W6 := ⟨_, rfl⟩
      have RN : RowB W6 gC (kyA d (1, 1) :: (nk c).tail.map (kyA c)) := by rw [← hW6]; exact RN0.drew
      have Y6 : Blk W6 nb 25 #[.string nmC, .int .i64 100, .slice (some ⟨gwC, 0, none⟩) 1 1, .bool true, .slice (some ⟨gC, 0, none⟩) qC kcC] := by rw [← hW6]; exact blk_drew Y60
      have V6 : Blk W6 mb 25 #[.string nmC, .int .i64 100, .slice (some ⟨gwD, 0, none⟩) 1 1, .bool true, .slice (some ⟨gD, 0, none⟩) qD kcD] := by rw [← hW6]; exact blk_drew V60
      have C6 : Box W6 w.heap.size [.string c.nm, .int .i64 c.k, .int .i64 c.d, .int .i64 c.m, .int .i64 c.s, .int .i64 c.sh, .int .i64 c.p0, .int .i64 c.p1, .int .i64 c.p2, .int .i64 c.cy, .int .i64 c.ex, .int .i64 c.fi, .int .i64 c.la, .int .i64 c.po] := by rw [← hW6]; exact box_drew C60
      have D6 : Box W6 (w.heap.size + 1) [.string d.nm, .int .i64 d.k, .int .i64 d.d, .int .i64 d.m, .int .i64 d.s, .int .i64 d.sh, .int .i64 d.p0, .int .i64 d.p1, .int .i64 d.p2, .int .i64 d.cy, .int .i64 d.ex, .int .i64 d.fi, .int .i64 d.la, .int .i64 d.po] := by rw [← hW6]; exact box_drew D60
      have S6 : Blk W6 gwC 45 #[.bool false, .int .i64 0, .string c.nm, .int .i64 0] := by rw [← hW6]; exact blk_drew S60
      have b6 : Below w.heap.size w W6 := by rw [← hW6]; exact Below.drew b60
      rw [hW6]
      clear hW6 RN0 Y60 V60 C60 D60 S60 b60 GC RD5 KD c0 c1 c2 c3 c4 b0 b1 b2 b3 b4 fC0 fC1 fC2 fC3 fC4 y4 v4 zC zD Y4 V4 C4 D4 hWC4 hRC4 hRD4 B4 lmb lgn hnbW
      have hlen : (kyA d (1, 1) :: (nk c).tail.map (kyA c)).length = qC := by
        rw [← HQC.out, ← nk_len, List.length_cons, List.length_map]
        rfl
      obtain ⟨xs, KX, -, hx⟩ := RN.get
      have NO := nodeOf_keys (a := 100) (cap := kcC) hm (by decide) (by rw [hlen]; omega) (wfL_all (fun n hn => by
        rcases List.mem_cons.1 hn with rfl | q
        · exact kyA_wf d (1, 1)
        · obtain ⟨p, _, rfl⟩ := List.mem_map.1 q
          exact kyA_wf c p)) RN.lt hx KX S6
      obtain ⟨r, hr⟩ : ∃ r, readF (.mk calN 100 [wd c.nm] true (kyA d (1, 1) :: (nk c).tail.map (kyA c))) = r := ⟨_, rfl⟩
      have cr := Read_any calN 100 (some ⟨gwC, 0, none⟩) 1 true (some ⟨gC, 0, none⟩) kcC [wd c.nm] (kyA d (1, 1) :: (nk c).tail.map (kyA c)) W6 r NO (by
        have h1 := cnt_flat2 (kyA d (1, 1) :: (nk c).tail.map (kyA c)) (fun n hn => by
          rcases List.mem_cons.1 hn with rfl | q
          · rfl
          · obtain ⟨p, _, rfl⟩ := List.mem_map.1 q
            rfl)
        rw [hlen] at h1
        simp only [cntL, cntN] at h1 ⊢
        omega) (by rw [hlen]; omega) (hT.out.n.kept b6) (hT.out.p.kept b6) (Lib.hid hr)
      rw [hlen, HN.out] at cr
      obtain ⟨got, x, ev⟩ := r
      obtain ⟨er1, er2⟩ := ends_read ok okd got x ev hr
      have YF0 : W6.cell? ⟨nb, 0, none⟩ = some (.string nmC) := Y6.cell 0
      have YF1 : W6.cell? ⟨nb, 1, none⟩ = some (.int .i64 100) := Y6.cell 1
      have YF2 : W6.cell? ⟨nb, 2, none⟩ = some (.slice (some ⟨gwC, 0, none⟩) 1 1) := Y6.cell 2
      have YF3 : W6.cell? ⟨nb, 3, none⟩ = some (.bool true) := Y6.cell 3
      have YF4 : W6.cell? ⟨nb, 4, none⟩ = some (.slice (some ⟨gC, 0, none⟩) qC kcC) := Y6.cell 4
      have zY6 := Y6.lt
      clear NO KX hx hr RN S6 hlen
      by_cases he : ev = 0
      case pos =>
        obtain ⟨h0, h1, h2, h3, h4, h5, h6, h7⟩ := er1 he
        subst he h0
        rw [HQC.out, HQD.out] at h7
        obtain ⟨gnm, gk, gd, gm, gs, gsh, gp0, gp1, gp2, gcy, gex, gfi, gla, gpo⟩ := got
        simp only at h1 h2 h3 h4 h5 h6
        subst h1 h2 h3 h4 h5 h6
        have cr : Calls Tryz.prog 13 #[.agg #[.string nmC, .int .i64 100, .slice (some ⟨gwC, 0, none⟩) 1 1, .bool true, .slice (some ⟨gC, 0, none⟩) qC kcC]] W6 fun e w' => e = .returned (.tuple #[.agg #[.string c.nm, .int .i64 d.k, .int .i64 d.d, .int .i64 d.m, .int .i64 gs, .int .i64 gsh, .int .i64 gp0, .int .i64 gp1, .int .i64 gp2, .int .i64 gcy, .int .i64 gex, .int .i64 c.fi, .int .i64 gla, .int .i64 c.po], .int .i64 0, .int .i64 0]) ∧ Below W6.heap.size W6 w' := cr
        clear er1 er2
        have t1 : decide ((qD : Int) ≤ (qC : Int)) = true := decide_eq_true (by omega)
        have t2 : decide ((qC : Int) ≥ (qD : Int)) = true := decide_eq_true (by omega)
        go_wp2_with fail
        refine cr.mono ?_
        rintro e W7 ⟨rfl, hb7⟩
        have Y7 := (Y6.kept hb7).kept (balloc (Below.refl _ _) (.cells #[.string c.nm, .int .i64 d.k, .int .i64 d.d, .int .i64 d.m, .int .i64 gs, .int .i64 gsh, .int .i64 gp0, .int .i64 gp1, .int .i64 gp2, .int .i64 gcy, .int .i64 gex, .int .i64 c.fi, .int .i64 gla, .int .i64 c.po] 30))
        have V7 := (V6.kept hb7).kept (balloc (Below.refl _ _) (.cells #[.string c.nm, .int .i64 d.k, .int .i64 d.d, .int .i64 d.m, .int .i64 gs, .int .i64 gsh, .int .i64 gp0, .int .i64 gp1, .int .i64 gp2, .int .i64 gcy, .int .i64 gex, .int .i64 c.fi, .int .i64 gla, .int .i64 c.po] 30))
        have C7 := (C6.kept hb7).alloc (.cells #[.string c.nm, .int .i64 d.k, .int .i64 d.d, .int .i64 d.m, .int .i64 gs, .int .i64 gsh, .int .i64 gp0, .int .i64 gp1, .int .i64 gp2, .int .i64 gcy, .int .i64 gex, .int .i64 c.fi, .int .i64 gla, .int .i64 c.po] 30)
        have D7 := (D6.kept hb7).alloc (.cells #[.string c.nm, .int .i64 d.k, .int .i64 d.d, .int .i64 d.m, .int .i64 gs, .int .i64 gsh, .int .i64 gp0, .int .i64 gp1, .int .i64 gp2, .int .i64 gcy, .int .i64 gex, .int .i64 c.fi, .int .i64 gla, .int .i64 c.po] 30)
        have G7 := Box.new W7 #[.string c.nm, .int .i64 d.k, .int .i64 d.d, .int .i64 d.m, .int .i64 gs, .int .i64 gsh, .int .i64 gp0, .int .i64 gp1, .int .i64 gp2, .int .i64 gcy, .int .i64 gex, .int .i64 c.fi, .int .i64 gla, .int .i64 c.po] 30
        have b7 := balloc (bthen b6 hb7) (.cells #[.string c.nm, .int .i64 d.k, .int .i64 d.d, .int .i64 d.m, .int .i64 gs, .int .i64 gsh, .int .i64 gp0, .int .i64 gp1, .int .i64 gp2, .int .i64 gcy, .int .i64 gex, .int .i64 c.fi, .int .i64 gla, .int .i64 c.po] 30)
        clear YF0 YF1 YF2 YF3 YF4 zY6 Y6 V6 C6 D6 b6 hb7 cr
        go_upto_region 11 with fail
        obtain ⟨gb, hgb⟩ : ∃ gb, W7.heap.size = gb := ⟨_, rfl⟩
        rw [hgb] at G7 ⊢
        clear hgb
        generalize W7.alloc (.cells #[.string c.nm, .int .i64 d.k, .int .i64 d.d, .int .i64 d.m, .int .i64 gs, .int .i64 gsh, .int .i64 gp0, .int .i64 gp1, .int .i64 gp2, .int .i64 gcy, .int .i64 gex, .int .i64 c.fi, .int .i64 gla, .int .i64 c.po] 30) = W8 at *
        have y4 : W8.cell? ⟨nb, 4, none⟩ = some (.slice (some ⟨gC, 0, none⟩) qC kcC) := Y7.cell 4
        have v4 : W8.cell? ⟨mb, 4, none⟩ = some (.slice (some ⟨gD, 0, none⟩) qD kcD) := V7.cell 4
        have k0 : W8.cell? ⟨w.heap.size, 0, none⟩ = some (.string c.nm) := C7.cell 0 _ rfl
        have k1 : W8.cell? ⟨w.heap.size, 1, none⟩ = some (.int .i64 c.k) := C7.cell 1 _ rfl
        have k2 : W8.cell? ⟨w.heap.size, 2, none⟩ = some (.int .i64 c.d) := C7.cell 2 _ rfl
        have k3 : W8.cell? ⟨w.heap.size, 3, none⟩ = some (.int .i64 c.m) := C7.cell 3 _ rfl
        have k4 : W8.cell? ⟨w.heap.size, 4, none⟩ = some (.int .i64 c.s) := C7.cell 4 _ rfl
        have k5 : W8.cell? ⟨w.heap.size, 5, none⟩ = some (.int .i64 c.sh) := C7.cell 5 _ rfl
        have k6 : W8.cell? ⟨w.heap.size, 6, none⟩ = some (.int .i64 c.p0) := C7.cell 6 _ rfl
        have k7 : W8.cell? ⟨w.heap.size, 7, none⟩ = some (.int .i64 c.p1) := C7.cell 7 _ rfl
        have k8 : W8.cell? ⟨w.heap.size, 8, none⟩ = some (.int .i64 c.p2) := C7.cell 8 _ rfl
        have k9 : W8.cell? ⟨w.heap.size, 9, none⟩ = some (.int .i64 c.cy) := C7.cell 9 _ rfl
        have k10 : W8.cell? ⟨w.heap.size, 10, none⟩ = some (.int .i64 c.ex) := C7.cell 10 _ rfl
        have k11 : W8.cell? ⟨w.heap.size, 11, none⟩ = some (.int .i64 c.fi) := C7.cell 11 _ rfl
        have k12 : W8.cell? ⟨w.heap.size, 12, none⟩ = some (.int .i64 c.la) := C7.cell 12 _ rfl
        have k13 : W8.cell? ⟨w.heap.size, 13, none⟩ = some (.int .i64 c.po) := C7.cell 13 _ rfl
        have j0 : W8.cell? ⟨w.heap.size + 1, 0, none⟩ = some (.string d.nm) := D7.cell 0 _ rfl
        have j1 : W8.cell? ⟨w.heap.size + 1, 1, none⟩ = some (.int .i64 d.k) := D7.cell 1 _ rfl
        have j2 : W8.cell? ⟨w.heap.size + 1, 2, none⟩ = some (.int .i64 d.d) := D7.cell 2 _ rfl
        have j3 : W8.cell? ⟨w.heap.size + 1, 3, none⟩ = some (.int .i64 d.m) := D7.cell 3 _ rfl
        have j4 : W8.cell? ⟨w.heap.size + 1, 4, none⟩ = some (.int .i64 d.s) := D7.cell 4 _ rfl
        have j5 : W8.cell? ⟨w.heap.size + 1, 5, none⟩ = some (.int .i64 d.sh) := D7.cell 5 _ rfl
        have j6 : W8.cell? ⟨w.heap.size + 1, 6, none⟩ = some (.int .i64 d.p0) := D7.cell 6 _ rfl
        have j7 : W8.cell? ⟨w.heap.size + 1, 7, none⟩ = some (.int .i64 d.p1) := D7.cell 7 _ rfl
        have j8 : W8.cell? ⟨w.heap.size + 1, 8, none⟩ = some (.int .i64 d.p2) := D7.cell 8 _ rfl
        have j9 : W8.cell? ⟨w.heap.size + 1, 9, none⟩ = some (.int .i64 d.cy) := D7.cell 9 _ rfl
        have j10 : W8.cell? ⟨w.heap.size + 1, 10, none⟩ = some (.int .i64 d.ex) := D7.cell 10 _ rfl
        have j11 : W8.cell? ⟨w.heap.size + 1, 11, none⟩ = some (.int .i64 d.fi) := D7.cell 11 _ rfl
        have j12 : W8.cell? ⟨w.heap.size + 1, 12, none⟩ = some (.int .i64 d.la) := D7.cell 12 _ rfl
        have j13 : W8.cell? ⟨w.heap.size + 1, 13, none⟩ = some (.int .i64 d.po) := D7.cell 13 _ rfl
        have g0 : W8.cell? ⟨gb, 0, none⟩ = some (.string c.nm) := G7.cell 0 _ rfl
        have g1 : W8.cell? ⟨gb, 1, none⟩ = some (.int .i64 d.k) := G7.cell 1 _ rfl
        have g2 : W8.cell? ⟨gb, 2, none⟩ = some (.int .i64 d.d) := G7.cell 2 _ rfl
        have g3 : W8.cell? ⟨gb, 3, none⟩ = some (.int .i64 d.m) := G7.cell 3 _ rfl
        have g4 : W8.cell? ⟨gb, 4, none⟩ = some (.int .i64 gs) := G7.cell 4 _ rfl
        have g5 : W8.cell? ⟨gb, 5, none⟩ = some (.int .i64 gsh) := G7.cell 5 _ rfl
        have g6 : W8.cell? ⟨gb, 6, none⟩ = some (.int .i64 gp0) := G7.cell 6 _ rfl
        have g7 : W8.cell? ⟨gb, 7, none⟩ = some (.int .i64 gp1) := G7.cell 7 _ rfl
        have g8 : W8.cell? ⟨gb, 8, none⟩ = some (.int .i64 gp2) := G7.cell 8 _ rfl
        have g9 : W8.cell? ⟨gb, 9, none⟩ = some (.int .i64 gcy) := G7.cell 9 _ rfl
        have g10 : W8.cell? ⟨gb, 10, none⟩ = some (.int .i64 gex) := G7.cell 10 _ rfl
        have g11 : W8.cell? ⟨gb, 11, none⟩ = some (.int .i64 c.fi) := G7.cell 11 _ rfl
        have g12 : W8.cell? ⟨gb, 12, none⟩ = some (.int .i64 gla) := G7.cell 12 _ rfl
        have g13 : W8.cell? ⟨gb, 13, none⟩ = some (.int .i64 c.po) := G7.cell 13 _ rfl
        go_wp2_with fail
        go_ret
        exact ⟨rfl, b7⟩
      case neg =>
        obtain ⟨hz, h1⟩ := er2 he
        subst hz
        have cr : Calls Tryz.prog 13 #[.agg #[.string nmC, .int .i64 100, .slice (some ⟨gwC, 0, none⟩) 1 1, .bool true, .slice (some ⟨gC, 0, none⟩) qC kcC]] W6 fun e w' => e = .returned (.tuple #[.agg #[.string ⟨#[]⟩, .int .i64 0, .int .i64 0, .int .i64 0, .int .i64 0, .int .i64 0, .int .i64 0, .int .i64 0, .int .i64 0, .int .i64 0, .int .i64 0, .int .i64 0, .int .i64 0, .int .i64 0], .int .i64 x, .int .i64 (ev : Int)]) ∧ Below W6.heap.size W6 w' := cr
        have q : ∀ w, (binOp .eql 30 (.agg #[.string ⟨#[]⟩, .int .i64 0, .int .i64 0, .int .i64 0, .int .i64 0, .int .i64 0, .int .i64 0, .int .i64 0, .int .i64 0, .int .i64 0, .int .i64 0, .int .i64 0, .int .i64 0, .int .i64 0]) (.agg #[.string ⟨#[]⟩, .int .i64 0, .int .i64 0, .int .i64 0, .int .i64 0, .int .i64 0, .int .i64 0, .int .i64 0, .int .i64 0, .int .i64 0, .int .i64 0, .int .i64 0, .int .i64 0, .int .i64 0])).run Tryz.prog w = .ok (.bool true) w := fun w => by
          have := cal_eql zeroC zeroC rfl w
          simpa [zeroC, CalSame] using this
        clear er1 er2 he Y6 V6 C6 D6
        rcases h1 with ⟨rfl, x1, x2⟩ | ⟨rfl | rfl, rfl⟩
        · have t1 : decide (x ≥ 2) = true := decide_eq_true x1
          have t2 : decide (2 ≤ x) = true := decide_eq_true x1
          have t3 : decide (x ≤ 6) = true := decide_eq_true x2
          go_wp2_with fail
          refine cr.mono ?_
          rintro e W7 ⟨rfl, hb7⟩
          clear YF0 YF1 YF2 YF3 YF4 zY6 cr
          go_wp2_with fail
          go_ret
          exact ⟨rfl, by first | exact balloc (bthen b6 hb7) _ | exact bthen b6 hb7⟩
        · go_wp2_with fail
          refine cr.mono ?_
          rintro e W7 ⟨rfl, hb7⟩
          clear YF0 YF1 YF2 YF3 YF4 zY6 cr
          go_wp2_with fail
          go_ret
          exact ⟨rfl, by first | exact balloc (bthen b6 hb7) _ | exact bthen b6 hb7⟩
        · go_wp2_with fail
          refine cr.mono ?_
          rintro e W7 ⟨rfl, hb7⟩
          clear YF0 YF1 YF2 YF3 YF4 zY6 cr
          go_wp2_with fail
          go_ret
          exact ⟨rfl, by first | exact balloc (bthen b6 hb7) _ | exact bthen b6 hb7⟩

end Go.Proofs.YtnjmokmlnpehdaaGreatDoor.Fl
