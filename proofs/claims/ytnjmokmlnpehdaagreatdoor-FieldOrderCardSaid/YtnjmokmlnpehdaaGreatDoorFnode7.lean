/- Node of package field: the block that is told. -/
import Derived.Test.YtnjmokmlnpehdaaGreatDoorJFn
import Derived.Test.YtnjmokmlnpehdaaGreatDoorFrameC
import Derived.Test.YtnjmokmlnpehdaaGreatDoorJF
namespace Go.Proofs.YtnjmokmlnpehdaaGreatDoor.Fn
set_option linter.unusedSimpArgs false
set_option linter.unusedVariables false
open Go Go.RowKit Go.Proofs.YtnjmokmlnpehdaaGreatDoor.Fp Go.Proofs.YtnjmokmlnpehdaaGreatDoor.Cp Go.Proofs.YtnjmokmlnpehdaaGreatDoor.Am Go.Proofs.YtnjmokmlnpehdaaGreatDoor.Fm Go.Proofs.YtnjmokmlnpehdaaGreatDoor.Yg Go.Proofs.YtnjmokmlnpehdaaGreatDoor.Bn Go.Proofs.YtnjmokmlnpehdaaGreatDoor.Fs Go.Proofs.YtnjmokmlnpehdaaGreatDoor.Zk Go.Proofs.YtnjmokmlnpehdaaGreatDoor.Zp

set_option maxHeartbeats 16000000

/-! ## no text in it is long -/
theorem nth_size {T : List ByteArray} (h : ∀ s ∈ T, s.size ≤ 9) (k : Int) : (nth T k).size ≤ 9 := by
  unfold nth
  by_cases q : k.toNat - 1 < T.length
  · have : T.getD (k.toNat - 1) ⟨#[]⟩ = T[k.toNat - 1] := by simp [List.getD, q]
    rw [this]
    exact h _ (List.getElem_mem q)
  · have : T.getD (k.toNat - 1) ⟨#[]⟩ = ⟨#[]⟩ := by simp [List.getD, Nat.not_lt.1 q]
    rw [this]
    decide
theorem wds_wf (c : CalZ) (key : Nat) : (wds c key).length ≤ 3 ∧ ∀ x ∈ wds c key, x.s.size ≤ 9 := by
  have h1 := nth_size (T := endN) (by decide) c.k
  have h2 := nth_size (T := dayN) (by decide) c.d
  have h3 := nth_size (T := monN) (by decide) c.m
  have h4 := nth_size (T := shiN) (by decide) (c.s + 1)
  have h5 := nth_size (T := polN) (by decide) c.po
  have hz : (⟨#[]⟩ : ByteArray).size = 0 := rfl
  unfold wds endW
  repeat' split
  all_goals
    refine ⟨by simp, fun x hx => ?_⟩
    simp only [List.mem_cons, List.mem_append, List.not_mem_nil, or_false, false_or, List.nil_append, List.append_nil] at hx
    first
      | (rcases hx with rfl | rfl | rfl <;> simp only [wd, nw] <;> omega)
      | (rcases hx with rfl | rfl <;> simp only [wd, nw] <;> omega)
      | (subst hx; simp only [wd, nw]; omega)
theorem wfL_all : ∀ {l : List NI}, (∀ n ∈ l, WfN n ∧ LenN n) → WfL l ∧ LenL l
  | [], _ => ⟨trivial, trivial⟩
  | n :: l, h => by
    have h1 := h n (by simp)
    have h2 := wfL_all (l := l) (fun m hm => h m (by simp [hm]))
    exact ⟨⟨h1.1, h2.1⟩, ⟨h1.2, h2.2⟩⟩
theorem kyA_wf (c : CalZ) (p : Int × Nat) : WfN (kyA c p) ∧ LenN (kyA c p) := by
  have h := wds_wf c p.2
  have hk := nth_size (T := keyN) (by decide) p.2
  have hm : (9 : Nat) ≤ maxLen := by decide
  exact ⟨⟨by omega, fun x hx => Nat.le_trans (h.2 x hx) hm, trivial⟩, ⟨by omega, by simp, trivial⟩⟩
theorem keysF_wf (c : CalZ) : WfL (keysF c) ∧ LenL (keysF c) := by
  refine wfL_all (fun n hn => ?_)
  rw [keysF_is] at hn
  obtain ⟨key, _, rfl⟩ := List.mem_map.1 hn
  exact kyA_wf c (0, key)
theorem keysF_len (c : CalZ) : 3 ≤ (keysF c).length ∧ (keysF c).length ≤ 6 := by
  rw [keysF_is, List.length_map]
  unfold kys
  split <;> split <;> simp

/-! ## rows of keys, as items -/
theorem ws_blk {W : World} {g : Nat} (hg : g < W.heap.size) : ∀ (l : List WI) (o : Nat), (∀ (j : Nat) (u : Value), (wis l)[j]? = some u → W.cell? ⟨g, o + j, none⟩ = some u) → WsFrom (· < W.heap.size) W g o l
  | [], _, _ => trivial
  | x :: l, o, h => by
    have e : wis (x :: l) = wcel x ++ wis l := rfl
    rw [e] at h
    refine ⟨⟨hg, h 0 _ rfl, h 1 _ rfl, h 2 _ rfl, h 3 _ rfl⟩, ws_blk hg l (o + 4) (fun j u hj => ?_)⟩
    rw [show o + 4 + j = o + (4 + j) by omega]
    exact h (4 + j) u (by rw [List.getElem?_append_right (by simp [wcel])]; simpa [wcel] using hj)
theorem keyV_at {base : Nat} {W : World} {n : NI} {c : List Value} (h : KeyV base W n c) {g o : Nat} (hg : g < W.heap.size) (hc : ∀ (j : Nat) (u : Value), c[j]? = some u → W.cell? ⟨g, o + j, none⟩ = some u) : NAt (· < W.heap.size) W g o n ∧ ∃ q m c', W.cell? ⟨g, o + 2, none⟩ = some (.slice q m c') ∧ m ≤ c' := by
  obtain ⟨nm, a, ws, gw, wc, cur, rfl, rfl, _, hb, hl, ht⟩ := h
  have c0 := hc 0 _ rfl
  have c1 := hc 1 _ rfl
  have c2 := hc 2 _ rfl
  have c3 := hc 3 _ rfl
  have c4 := hc 4 _ rfl
  refine ⟨?_, _, _, _, c2, hl⟩
  simp only [NAt]
  refine ⟨hg, c0, c1, ⟨_, c2, some ⟨gw, 0, none⟩, wc, rfl, ?_⟩, c3, none, 0, c4, by simp⟩
  refine .inr ⟨gw, 0, rfl, ws_blk hb.lt ws 0 (fun j u hj => ?_)⟩
  rw [Nat.zero_add, hb.cell j, ← Array.getElem?_toList]
  have hlt : j < ws.length * 4 := by have := (List.getElem?_eq_some_iff.1 hj).1; rwa [wis_len] at this
  rw [← ht, List.getElem?_take, if_pos hlt] at hj
  exact hj
theorem keysV_at {base : Nat} {W : World} {g : Nat} (hg : g < W.heap.size) : ∀ {l : List NI} {xs : List Value} {o : Nat}, KeysV base W l xs → (∀ (j : Nat) (u : Value), xs[j]? = some u → W.cell? ⟨g, o + j, none⟩ = some u) →
    NsFrom (· < W.heap.size) W g o l ∧ ∀ i, i < l.length → ∃ q m c', W.cell? ⟨g, o + i * 5 + 2, none⟩ = some (.slice q m c') ∧ m ≤ c'
  | [], _, _, _, _ => ⟨by simp [NsFrom], fun i hi => absurd hi (by simp)⟩
  | n :: l, xs, o, h, hc => by
    obtain ⟨c, ys, rfl, h1, h2⟩ := h
    have h5 := h1.five.1
    obtain ⟨a1, a2⟩ := keyV_at h1 hg (o := o) (fun j u hj => hc j u (by rw [List.getElem?_append_left (List.getElem?_eq_some_iff.1 hj).1]; exact hj))
    obtain ⟨b1, b2⟩ := keysV_at hg (o := o + 5) h2 (fun j u hj => by
      rw [show o + 5 + j = o + (5 + j) by omega]
      exact hc (5 + j) u (by rw [List.getElem?_append_right (by omega), h5]; simpa using hj))
    refine ⟨by simp only [NsFrom]; exact ⟨a1, b1⟩, fun i hi => ?_⟩
    cases i with
    | zero => simpa using a2
    | succ i =>
      have := b2 i (by simpa using hi)
      rw [show o + (i + 1) * 5 = o + 5 + i * 5 by omega]
      exact this
/-- what is told of a block that was made -/
structure NodeTold (c : CalZ) (W : World) (wp : Option Addr) (wc : Nat) (kp : Option Addr) (kc : Nat) : Prop where
  node : NodeOf W calN 0 wp 1 wc true kp (keysF c).length kc [wd c.nm] (keysF c)
  row : ∃ g xs, kp = some ⟨g, 0, none⟩ ∧ g < W.heap.size ∧ (∀ (j : Nat) (u : Value), xs[j]? = some u → W.cell? ⟨g, j, none⟩ = some u) ∧ KeysV 0 W (keysF c) xs
  word : ∃ gw, wp = some ⟨gw, 0, none⟩ ∧ wc = 1 ∧ Blk W gw 45 #[.bool false, .int .i64 0, .string c.nm, .int .i64 0]
theorem told_raw {c : CalZ} {W : World} {g cap gw : Nat} {xs : List Value} (hm : c.nm.size ≤ maxLen) (hg : g < W.heap.size) (hx : ∀ (j : Nat) (u : Value), xs[j]? = some u → W.cell? ⟨g, j, none⟩ = some u) (K0 : KeysV 0 W (keysF c) xs) (hb : Blk W gw 45 #[.bool false, .int .i64 0, .string c.nm, .int .i64 0]) :
    NodeTold c W (some ⟨gw, 0, none⟩) 1 (some ⟨g, 0, none⟩) cap := by
  have hl := keysF_len c
  have hwf := keysF_wf c
  obtain ⟨N1, N2⟩ := keysV_at hg (o := 0) K0 (fun j u hj => by rw [Nat.zero_add]; exact hx j u hj)
  refine ⟨⟨rfl, rfl, by decide, by unfold maxLen; omega, by decide, ⟨by decide, fun x hx => ?_, hwf.1⟩, ⟨by simp [maxLen], by unfold maxLen; omega, hwf.2⟩, ⟨some ⟨gw, 0, none⟩, 1, rfl, .inr ⟨gw, 0, rfl, ?_⟩⟩, ⟨some ⟨g, 0, none⟩, cap, rfl, .inr ⟨g, 0, rfl, N1⟩⟩, fun i hi => ?_⟩, ⟨g, xs, rfl, hg, hx, K0⟩, ⟨gw, rfl, rfl, hb⟩⟩
  · have hx : x = wd c.nm := by simpa using hx
    subst hx
    exact hm
  · exact ⟨⟨hb.lt, hb.cell 0, hb.cell 1, hb.cell 2, hb.cell 3⟩, trivial⟩
  · obtain ⟨q, m, c', k1, k2⟩ := N2 i hi
    exact ⟨g, 0, rfl, q, m, c', k1, k2⟩
theorem KeysV_low {m base : Nat} {W : World} : ∀ {l : List NI} {ys : List Value}, KeysV base W l ys → KeysV m W l ys
  | [], ys, h => h
  | n :: l, ys, h => by
    obtain ⟨nm, zs, e, q1, q2⟩ := h
    obtain ⟨nm', a, ws, g, wc, cur, h1, h2, h3, h4⟩ := q1
    exact ⟨nm, zs, e, ⟨nm', a, ws, g, wc, cur, h1, h2, h3, h4⟩, KeysV_low q2⟩
theorem wk_cells {W : World} {b : Nat} {z : Array Value} (hZ : Blk W b 25 z) (o : Nat) (us : List Value) : WKeep W (W.setCells b o us) := fun g cur q => blk_cells (fun e => by
  subst e
  have q := (show W.heap[g]? = _ from hZ).symm.trans q
  injection q with q
  injection q with _ q _
  exact absurd q (by decide)) us o W q
/-- the row of keys, read off behind a store into an older item -/
theorem row_cells {w0 W : World} {v : Value} {c : CalZ} {b : Nat} {z : Array Value} (R : KeyRow w0 W v (keysF c)) (hb0 : b < w0.heap.size) (hZ : Blk W b 25 z) (us : List Value) :
    ∃ g cap xs, v = .slice (some ⟨g, 0, none⟩) (keysF c).length cap ∧ g < (W.setCells b 0 us).heap.size ∧ (∀ (j : Nat) (u : Value), xs[j]? = some u → (W.setCells b 0 us).cell? ⟨g, j, none⟩ = some u) ∧ KeysV 0 (W.setCells b 0 us) (keysF c) xs := by
  obtain ⟨xs, X1, X2⟩ := R.ex
  have hl := keysF_len c
  rcases X1.row.2 with ⟨_, hn⟩ | ⟨g, cap, cur, hv, h1, hc, h2, h3, h4, h5⟩
  · omega
  have hg := (Array.getElem?_eq_some_iff.1 hc).1
  have hc2 : Blk (W.setCells b 0 us) g 25 cur := blk_cells (by omega) us 0 W hc
  refine ⟨g, cap, xs, hv, by rw [size_cells']; exact hg, fun j u hj => ?_, KeysV_low (X2.keep (wk_cells hZ 0 us))⟩
  rw [hc2.cell j, ← Array.getElem?_toList]
  have hj2 := (List.getElem?_eq_some_iff.1 hj).1
  rw [X1.row.1] at hj2
  rw [← h5, List.getElem?_take, if_pos hj2] at hj
  exact hj
theorem node_a {w0 W : World} {c : CalZ} {b gw kc : Nat} {kp : Option Addr} {z : Array Value} (hm : c.nm.size ≤ maxLen) (R : KeyRow w0 W (.slice kp (keysF c).length kc) (keysF c)) (hb0 : b < w0.heap.size) (hZ : Blk W b 25 z) (us : List Value)
    (hw : Blk W gw 45 #[.bool false, .int .i64 0, .string c.nm, .int .i64 0]) : NodeTold c (W.setCells b 0 us) (some ⟨gw, 0, none⟩) 1 kp kc := by
  obtain ⟨g, cap, xs, e, h1, h2, h3⟩ := row_cells R hb0 hZ us
  injection e with e1 _ e2
  subst e1 e2
  exact told_raw hm h1 h2 h3 (wk_cells hZ 0 us _ _ hw)
theorem node_b {w0 W : World} {c : CalZ} {b kc : Nat} {kp : Option Addr} {z : Array Value} (hm : c.nm.size ≤ maxLen) (R : KeyRow w0 W (.slice kp (keysF c).length kc) (keysF c)) (hb0 : b < w0.heap.size) (hZ : Blk W b 25 z) (us : List Value) :
    NodeTold c ((W.setCells b 0 us).alloc (.cells #[.bool false, .int .i64 0, .string c.nm, .int .i64 0] 45)) (some ⟨W.heap.size, 0, none⟩) 1 kp kc := by
  obtain ⟨g, cap, xs, e, h1, h2, h3⟩ := row_cells R hb0 hZ us
  injection e with e1 _ e2
  subst e1 e2
  have B := balloc (Below.refl (W.setCells b 0 us).heap.size (W.setCells b 0 us)) (.cells #[.bool false, .int .i64 0, .string c.nm, .int .i64 0] 45)
  exact told_raw hm (Nat.lt_of_lt_of_le h1 B.size) (fun j u hj => (B.cell (p := ⟨g, j, none⟩) h1).trans (h2 j u hj)) (h3.keep (WKeep.below B)) (Blk.at_ (size_cells' _ _ _ _))
theorem blk_set {W : World} {g b n : Nat} {T : TypeId} {c : Array Value} {u : Value} (h : Blk W g T c) (hg : g ≠ b) : Blk (W.setCell ⟨b, n, none⟩ u) g T c := (Below.heap_setCell _ _ _ g hg).trans h

set_option maxRecDepth 100000 in
theorem Node_no (c : CalZ) (w : World) (no : ¬ CalOk c) (hm : c.nm.size ≤ maxLen) (NT : NTab w) :
    Calls Tryz.prog 15 #[.agg #[.string c.nm, .int .i64 c.k, .int .i64 c.d, .int .i64 c.m, .int .i64 c.s, .int .i64 c.sh, .int .i64 c.p0, .int .i64 c.p1, .int .i64 c.p2, .int .i64 c.cy, .int .i64 c.ex, .int .i64 c.fi, .int .i64 c.la, .int .i64 c.po]] w fun e w' => e = .returned (.tuple #[.agg #[.string ⟨#[]⟩, .int .i64 0, .slice none 0 0, .bool false, .slice none 0 0], .int .i64 1]) ∧ Below w.heap.size w w' := by
  have ck := fun w T => Check_any c 1 w (.inr ⟨no, rfl⟩) hm T
  have C : Blk _ w.heap.size 30 _ := (Blk.at_ (W := w) (c := #[.string c.nm, .int .i64 c.k, .int .i64 c.d, .int .i64 c.m, .int .i64 c.s, .int .i64 c.sh, .int .i64 c.p0, .int .i64 c.p1, .int .i64 c.p2, .int .i64 c.cy, .int .i64 c.ex, .int .i64 c.fi, .int .i64 c.la, .int .i64 c.po]) rfl).kept (balloc (Below.refl _ _) (.cells #[.string ⟨#[]⟩, .int .i64 0, .slice none 0 0, .bool false, .slice none 0 0] 25))
  have X := Box.new (w.alloc (.cells #[.string c.nm, .int .i64 c.k, .int .i64 c.d, .int .i64 c.m, .int .i64 c.s, .int .i64 c.sh, .int .i64 c.p0, .int .i64 c.p1, .int .i64 c.p2, .int .i64 c.cy, .int .i64 c.ex, .int .i64 c.fi, .int .i64 c.la, .int .i64 c.po] 30)) #[.string ⟨#[]⟩, .int .i64 0, .slice none 0 0, .bool false, .slice none 0 0] 25
  have B0 := balloc (balloc (Below.refl _ w) (.cells #[.string c.nm, .int .i64 c.k, .int .i64 c.d, .int .i64 c.m, .int .i64 c.s, .int .i64 c.sh, .int .i64 c.p0, .int .i64 c.p1, .int .i64 c.p2, .int .i64 c.cy, .int .i64 c.ex, .int .i64 c.fi, .int .i64 c.la, .int .i64 c.po] 30)) (.cells #[.string ⟨#[]⟩, .int .i64 0, .slice none 0 0, .bool false, .slice none 0 0] 25)
  have T0 := (NT.f.alloc (.cells #[.string c.nm, .int .i64 c.k, .int .i64 c.d, .int .i64 c.m, .int .i64 c.s, .int .i64 c.sh, .int .i64 c.p0, .int .i64 c.p1, .int .i64 c.p2, .int .i64 c.cy, .int .i64 c.ex, .int .i64 c.fi, .int .i64 c.la, .int .i64 c.po] 30)).alloc (.cells #[.string ⟨#[]⟩, .int .i64 0, .slice none 0 0, .bool false, .slice none 0 0] 25)
  rw [World.size_alloc] at X
  clear no NT
  go_enter Tryz.func15, Tryz.ntmps15
  go_upto_region 1 with fail
  generalize (w.alloc (.cells #[.string c.nm, .int .i64 c.k, .int .i64 c.d, .int .i64 c.m, .int .i64 c.s, .int .i64 c.sh, .int .i64 c.p0, .int .i64 c.p1, .int .i64 c.p2, .int .i64 c.cy, .int .i64 c.ex, .int .i64 c.fi, .int .i64 c.la, .int .i64 c.po] 30)).alloc (.cells #[.string ⟨#[]⟩, .int .i64 0, .slice none 0 0, .bool false, .slice none 0 0] 25) = W0 at *
  have k0 : W0.cell? ⟨w.heap.size, 0, none⟩ = some (.string c.nm) := C.cell 0
  have k1 : W0.cell? ⟨w.heap.size, 1, none⟩ = some (.int .i64 c.k) := C.cell 1
  have k2 : W0.cell? ⟨w.heap.size, 2, none⟩ = some (.int .i64 c.d) := C.cell 2
  have k3 : W0.cell? ⟨w.heap.size, 3, none⟩ = some (.int .i64 c.m) := C.cell 3
  have k4 : W0.cell? ⟨w.heap.size, 4, none⟩ = some (.int .i64 c.s) := C.cell 4
  have k5 : W0.cell? ⟨w.heap.size, 5, none⟩ = some (.int .i64 c.sh) := C.cell 5
  have k6 : W0.cell? ⟨w.heap.size, 6, none⟩ = some (.int .i64 c.p0) := C.cell 6
  have k7 : W0.cell? ⟨w.heap.size, 7, none⟩ = some (.int .i64 c.p1) := C.cell 7
  have k8 : W0.cell? ⟨w.heap.size, 8, none⟩ = some (.int .i64 c.p2) := C.cell 8
  have k9 : W0.cell? ⟨w.heap.size, 9, none⟩ = some (.int .i64 c.cy) := C.cell 9
  have k10 : W0.cell? ⟨w.heap.size, 10, none⟩ = some (.int .i64 c.ex) := C.cell 10
  have k11 : W0.cell? ⟨w.heap.size, 11, none⟩ = some (.int .i64 c.fi) := C.cell 11
  have k12 : W0.cell? ⟨w.heap.size, 12, none⟩ = some (.int .i64 c.la) := C.cell 12
  have k13 : W0.cell? ⟨w.heap.size, 13, none⟩ = some (.int .i64 c.po) := C.cell 13
  have zC := C.lt
  go_wp2_with fail
  refine (ck _ T0).mono ?_
  rintro e W1 ⟨rfl, hb⟩
  have X1 := X.kept hb
  have B1 := bthen B0 hb
  clear ck T0 C X B0 hb zC k0 k1 k2 k3 k4 k5 k6 k7 k8 k9 k10 k11 k12 k13
  have m0 : W1.cell? ⟨w.heap.size + 1, 0, none⟩ = some (.string ⟨#[]⟩) := X1.cell 0 _ rfl
  have f0 : W1.frozen? ⟨w.heap.size + 1, 0, none⟩ = false := X1.frz 0 (by decide)
  have m1 : W1.cell? ⟨w.heap.size + 1, 1, none⟩ = some (.int .i64 0) := X1.cell 1 _ rfl
  have f1 : W1.frozen? ⟨w.heap.size + 1, 1, none⟩ = false := X1.frz 1 (by decide)
  have m2 : W1.cell? ⟨w.heap.size + 1, 2, none⟩ = some (.slice none 0 0) := X1.cell 2 _ rfl
  have f2 : W1.frozen? ⟨w.heap.size + 1, 2, none⟩ = false := X1.frz 2 (by decide)
  have m3 : W1.cell? ⟨w.heap.size + 1, 3, none⟩ = some (.bool false) := X1.cell 3 _ rfl
  have f3 : W1.frozen? ⟨w.heap.size + 1, 3, none⟩ = false := X1.frz 3 (by decide)
  have m4 : W1.cell? ⟨w.heap.size + 1, 4, none⟩ = some (.slice none 0 0) := X1.cell 4 _ rfl
  have f4 : W1.frozen? ⟨w.heap.size + 1, 4, none⟩ = false := X1.frz 4 (by decide)
  go_wp2_with fail
  first
    | (change bodyPost _ _ _ _ _ (World.setCells W1 (w.heap.size + 1) 0 [.string ⟨#[]⟩, .int .i64 0, .slice none 0 0, .bool false, .slice none 0 0])
       have X5 := box_stored X1 (us := [.string ⟨#[]⟩, .int .i64 0, .slice none 0 0, .bool false, .slice none 0 0]) rfl
       have B5 := below_cells [.string ⟨#[]⟩, .int .i64 0, .slice none 0 0, .bool false, .slice none 0 0] 0 B1 (b := w.heap.size + 1) (by omega)
       exact bodyPost_ret (results_cell2 (t := 2) (u := 3) (ty := 25) rfl _ _ _ (w.heap.size + 1) 0 [.string ⟨#[]⟩, .int .i64 0, .slice none 0 0, .bool false, .slice none 0 0] _ 5 rfl (box_rng X5) Tryz.underlying25 rfl (by kernel_rfl) rfl) rfl ⟨rfl, B5⟩)

set_option maxRecDepth 100000 in
theorem Node_ok (c : CalZ) (w : World) (ok : CalOk c) (hm : c.nm.size ≤ maxLen) (NT : NTab w) :
    Calls Tryz.prog 15 #[.agg #[.string c.nm, .int .i64 c.k, .int .i64 c.d, .int .i64 c.m, .int .i64 c.s, .int .i64 c.sh, .int .i64 c.p0, .int .i64 c.p1, .int .i64 c.p2, .int .i64 c.cy, .int .i64 c.ex, .int .i64 c.fi, .int .i64 c.la, .int .i64 c.po]] w fun e w' => ∃ wp wc kp kc, e = .returned (.tuple #[.agg #[.string calN, .int .i64 0, .slice wp 1 wc, .bool true, .slice kp (keysF c).length kc], .int .i64 0]) ∧ Below w.heap.size w w' ∧ NodeTold c w' wp wc kp kc := by
  have ck := fun w T => Check_any c 0 w (.inl ⟨ok, rfl⟩) hm T
  have hp := ok.2.2.2
  have cK := fun W NT => keysOf_any c ok.1 ⟨hp.1, hp.2.1⟩ W NT
  have C : Blk _ w.heap.size 30 _ := (Blk.at_ (W := w) (c := #[.string c.nm, .int .i64 c.k, .int .i64 c.d, .int .i64 c.m, .int .i64 c.s, .int .i64 c.sh, .int .i64 c.p0, .int .i64 c.p1, .int .i64 c.p2, .int .i64 c.cy, .int .i64 c.ex, .int .i64 c.fi, .int .i64 c.la, .int .i64 c.po]) rfl).kept (balloc (Below.refl _ _) (.cells #[.string ⟨#[]⟩, .int .i64 0, .slice none 0 0, .bool false, .slice none 0 0] 25))
  have X := Blk.at_ (W := w.alloc (.cells #[.string c.nm, .int .i64 c.k, .int .i64 c.d, .int .i64 c.m, .int .i64 c.s, .int .i64 c.sh, .int .i64 c.p0, .int .i64 c.p1, .int .i64 c.p2, .int .i64 c.cy, .int .i64 c.ex, .int .i64 c.fi, .int .i64 c.la, .int .i64 c.po] 30)) (g := w.heap.size + 1) (T := 25) (c := #[.string ⟨#[]⟩, .int .i64 0, .slice none 0 0, .bool false, .slice none 0 0]) (by simp)
  have B0 := balloc (balloc (Below.refl _ w) (.cells #[.string c.nm, .int .i64 c.k, .int .i64 c.d, .int .i64 c.m, .int .i64 c.s, .int .i64 c.sh, .int .i64 c.p0, .int .i64 c.p1, .int .i64 c.p2, .int .i64 c.cy, .int .i64 c.ex, .int .i64 c.fi, .int .i64 c.la, .int .i64 c.po] 30)) (.cells #[.string ⟨#[]⟩, .int .i64 0, .slice none 0 0, .bool false, .slice none 0 0] 25)
  have T0 := (NT.alloc (.cells #[.string c.nm, .int .i64 c.k, .int .i64 c.d, .int .i64 c.m, .int .i64 c.s, .int .i64 c.sh, .int .i64 c.p0, .int .i64 c.p1, .int .i64 c.p2, .int .i64 c.cy, .int .i64 c.ex, .int .i64 c.fi, .int .i64 c.la, .int .i64 c.po] 30)).alloc (.cells #[.string ⟨#[]⟩, .int .i64 0, .slice none 0 0, .bool false, .slice none 0 0] 25)
  clear hp ok NT
  go_enter Tryz.func15, Tryz.ntmps15
  go_upto_region 1 with fail
  generalize (w.alloc (.cells #[.string c.nm, .int .i64 c.k, .int .i64 c.d, .int .i64 c.m, .int .i64 c.s, .int .i64 c.sh, .int .i64 c.p0, .int .i64 c.p1, .int .i64 c.p2, .int .i64 c.cy, .int .i64 c.ex, .int .i64 c.fi, .int .i64 c.la, .int .i64 c.po] 30)).alloc (.cells #[.string ⟨#[]⟩, .int .i64 0, .slice none 0 0, .bool false, .slice none 0 0] 25) = W0 at *
  have k0 : W0.cell? ⟨w.heap.size, 0, none⟩ = some (.string c.nm) := C.cell 0
  have k1 : W0.cell? ⟨w.heap.size, 1, none⟩ = some (.int .i64 c.k) := C.cell 1
  have k2 : W0.cell? ⟨w.heap.size, 2, none⟩ = some (.int .i64 c.d) := C.cell 2
  have k3 : W0.cell? ⟨w.heap.size, 3, none⟩ = some (.int .i64 c.m) := C.cell 3
  have k4 : W0.cell? ⟨w.heap.size, 4, none⟩ = some (.int .i64 c.s) := C.cell 4
  have k5 : W0.cell? ⟨w.heap.size, 5, none⟩ = some (.int .i64 c.sh) := C.cell 5
  have k6 : W0.cell? ⟨w.heap.size, 6, none⟩ = some (.int .i64 c.p0) := C.cell 6
  have k7 : W0.cell? ⟨w.heap.size, 7, none⟩ = some (.int .i64 c.p1) := C.cell 7
  have k8 : W0.cell? ⟨w.heap.size, 8, none⟩ = some (.int .i64 c.p2) := C.cell 8
  have k9 : W0.cell? ⟨w.heap.size, 9, none⟩ = some (.int .i64 c.cy) := C.cell 9
  have k10 : W0.cell? ⟨w.heap.size, 10, none⟩ = some (.int .i64 c.ex) := C.cell 10
  have k11 : W0.cell? ⟨w.heap.size, 11, none⟩ = some (.int .i64 c.fi) := C.cell 11
  have k12 : W0.cell? ⟨w.heap.size, 12, none⟩ = some (.int .i64 c.la) := C.cell 12
  have k13 : W0.cell? ⟨w.heap.size, 13, none⟩ = some (.int .i64 c.po) := C.cell 13
  have zC := C.lt
  go_wp2_with fail
  refine (ck _ T0.f).mono ?_
  rintro e W1 ⟨rfl, hb⟩
  have C1 := C.kept hb
  have X1 := X.kept hb
  have B1 := bthen B0 hb
  have T1 := Lib.hid (T0.kept hb)
  clear ck T0 C X B0 hb zC k0 k1 k2 k3 k4 k5 k6 k7 k8 k9 k10 k11 k12 k13
  have z1 := X1.lt
  go_upto_region 4 with fail
  have H : Hid (∀ W, Below w.heap.size w W → Blk W w.heap.size 30 #[.string c.nm, .int .i64 c.k, .int .i64 c.d, .int .i64 c.m, .int .i64 c.s, .int .i64 c.sh, .int .i64 c.p0, .int .i64 c.p1, .int .i64 c.p2, .int .i64 c.cy, .int .i64 c.ex, .int .i64 c.fi, .int .i64 c.la, .int .i64 c.po] → Below w.heap.size w W ∧ W.cell? ⟨w.heap.size, 0, none⟩ = some (.string c.nm) ∧ W.cell? ⟨w.heap.size, 1, none⟩ = some (.int .i64 c.k) ∧ W.cell? ⟨w.heap.size, 2, none⟩ = some (.int .i64 c.d) ∧ W.cell? ⟨w.heap.size, 3, none⟩ = some (.int .i64 c.m) ∧ W.cell? ⟨w.heap.size, 4, none⟩ = some (.int .i64 c.s) ∧ W.cell? ⟨w.heap.size, 5, none⟩ = some (.int .i64 c.sh) ∧ W.cell? ⟨w.heap.size, 6, none⟩ = some (.int .i64 c.p0) ∧ W.cell? ⟨w.heap.size, 7, none⟩ = some (.int .i64 c.p1) ∧ W.cell? ⟨w.heap.size, 8, none⟩ = some (.int .i64 c.p2) ∧ W.cell? ⟨w.heap.size, 9, none⟩ = some (.int .i64 c.cy) ∧ W.cell? ⟨w.heap.size, 10, none⟩ = some (.int .i64 c.ex) ∧ W.cell? ⟨w.heap.size, 11, none⟩ = some (.int .i64 c.fi) ∧ W.cell? ⟨w.heap.size, 12, none⟩ = some (.int .i64 c.la) ∧ W.cell? ⟨w.heap.size, 13, none⟩ = some (.int .i64 c.po)) := Lib.hid (fun W hb h => ⟨hb, h.cell 0, h.cell 1, h.cell 2, h.cell 3, h.cell 4, h.cell 5, h.cell 6, h.cell 7, h.cell 8, h.cell 9, h.cell 10, h.cell 11, h.cell 12, h.cell 13⟩)
  have BW := Below.refl W1.heap.size W1
  go_region_held3 (fun W => Below w.heap.size w W ∧ W.cell? ⟨w.heap.size, 0, none⟩ = some (.string c.nm) ∧ W.cell? ⟨w.heap.size, 1, none⟩ = some (.int .i64 c.k) ∧ W.cell? ⟨w.heap.size, 2, none⟩ = some (.int .i64 c.d) ∧ W.cell? ⟨w.heap.size, 3, none⟩ = some (.int .i64 c.m) ∧ W.cell? ⟨w.heap.size, 4, none⟩ = some (.int .i64 c.s) ∧ W.cell? ⟨w.heap.size, 5, none⟩ = some (.int .i64 c.sh) ∧ W.cell? ⟨w.heap.size, 6, none⟩ = some (.int .i64 c.p0) ∧ W.cell? ⟨w.heap.size, 7, none⟩ = some (.int .i64 c.p1) ∧ W.cell? ⟨w.heap.size, 8, none⟩ = some (.int .i64 c.p2) ∧ W.cell? ⟨w.heap.size, 9, none⟩ = some (.int .i64 c.cy) ∧ W.cell? ⟨w.heap.size, 10, none⟩ = some (.int .i64 c.ex) ∧ W.cell? ⟨w.heap.size, 11, none⟩ = some (.int .i64 c.fi) ∧ W.cell? ⟨w.heap.size, 12, none⟩ = some (.int .i64 c.la) ∧ W.cell? ⟨w.heap.size, 13, none⟩ = some (.int .i64 c.po))
    (refine H.out _ (by repeat (first | (with_reducible assumption) | (with_reducible exact Below.refl _ _) | (with_reducible refine Below.drew ?_) | (with_reducible refine bdrewN ?_ _) | (with_reducible refine balloc ?_ _) | ((with_reducible refine bset ?_ ?_ _ _); rotate_left; first | omega | (simp <;> omega)) | (with_reducible refine bthen ?_ hbW) | (with_reducible refine bthen ?_ hbK))) (by repeat (first | (with_reducible assumption) | (with_reducible exact Blk.at_ rfl) | (with_reducible exact Blk.at_ (by simp)) | (with_reducible refine blk_drew ?_) | (with_reducible refine blk_drewN _ ?_) | (with_reducible refine blk_alloc ?_) | ((with_reducible refine blk_set ?_ ?_); rotate_left; first | omega | (simp <;> omega)) | (with_reducible refine Blk.kept ?_ hbW) | (with_reducible refine Blk.kept ?_ hbK))))
    (first
      | (go_at_call 34; (with_reducible refine (nameWord_any c.nm _).mono ?_); rintro e wW ⟨rfl, hbW⟩; have NW : Blk wW (w.heap.size + 1) 25 #[.string ⟨#[]⟩, .int .i64 0, .slice none 0 0, .bool false, .slice none 0 0] := (by repeat (first | (with_reducible assumption) | (with_reducible exact Blk.at_ rfl) | (with_reducible exact Blk.at_ (by simp)) | (with_reducible refine blk_drew ?_) | (with_reducible refine blk_drewN _ ?_) | (with_reducible refine blk_alloc ?_) | ((with_reducible refine blk_set ?_ ?_); rotate_left; first | omega | (simp <;> omega)) | (with_reducible refine Blk.kept ?_ hbW) | (with_reducible refine Blk.kept ?_ hbK))); have zW := NW.lt; have m0 : wW.cell? ⟨w.heap.size + 1, 0, none⟩ = some (.string ⟨#[]⟩) := NW.cell 0; have f0 : wW.frozen? ⟨w.heap.size + 1, 0, none⟩ = false := NW.frz 0; have m1 : wW.cell? ⟨w.heap.size + 1, 1, none⟩ = some (.int .i64 0) := NW.cell 1; have f1 : wW.frozen? ⟨w.heap.size + 1, 1, none⟩ = false := NW.frz 1; have m2 : wW.cell? ⟨w.heap.size + 1, 2, none⟩ = some (.slice none 0 0) := NW.cell 2; have f2 : wW.frozen? ⟨w.heap.size + 1, 2, none⟩ = false := NW.frz 2; have m3 : wW.cell? ⟨w.heap.size + 1, 3, none⟩ = some (.bool false) := NW.cell 3; have f3 : wW.frozen? ⟨w.heap.size + 1, 3, none⟩ = false := NW.frz 3; have m4 : wW.cell? ⟨w.heap.size + 1, 4, none⟩ = some (.slice none 0 0) := NW.cell 4; have f4 : wW.frozen? ⟨w.heap.size + 1, 4, none⟩ = false := NW.frz 4)
      | (go_at_call 35; (with_reducible refine (cK _ (T1.out.kept (by repeat (first | (with_reducible assumption) | (with_reducible exact Below.refl _ _) | (with_reducible refine Below.drew ?_) | (with_reducible refine bdrewN ?_ _) | (with_reducible refine balloc ?_ _) | ((with_reducible refine bset ?_ ?_ _ _); rotate_left; first | omega | (simp <;> omega)) | (with_reducible refine bthen ?_ hbW) | (with_reducible refine bthen ?_ hbK))))).mono ?_); rintro e wK ⟨vK, rfl, RK⟩; obtain ⟨pK, cpK, rfl⟩ := RK.form; have hbK := RK.below; have zCall := (show Blk _ (w.heap.size + 1) 25 #[.string ⟨#[]⟩, .int .i64 0, .slice none 0 0, .bool false, .slice none 0 0] from (by repeat (first | (with_reducible assumption) | (with_reducible exact Blk.at_ rfl) | (with_reducible exact Blk.at_ (by simp)) | (with_reducible refine blk_drew ?_) | (with_reducible refine blk_drewN _ ?_) | (with_reducible refine blk_alloc ?_) | ((with_reducible refine blk_set ?_ ?_); rotate_left; first | omega | (simp <;> omega)) | (with_reducible refine Blk.kept ?_ hbW) | (with_reducible refine Blk.kept ?_ hbK)))).lt; have NK : Blk wK (w.heap.size + 1) 25 #[.string ⟨#[]⟩, .int .i64 0, .slice none 0 0, .bool false, .slice none 0 0] := (by repeat (first | (with_reducible assumption) | (with_reducible exact Blk.at_ rfl) | (with_reducible exact Blk.at_ (by simp)) | (with_reducible refine blk_drew ?_) | (with_reducible refine blk_drewN _ ?_) | (with_reducible refine blk_alloc ?_) | ((with_reducible refine blk_set ?_ ?_); rotate_left; first | omega | (simp <;> omega)) | (with_reducible refine Blk.kept ?_ hbW) | (with_reducible refine Blk.kept ?_ hbK))); have zK := NK.lt; have m0 : wK.cell? ⟨w.heap.size + 1, 0, none⟩ = some (.string ⟨#[]⟩) := NK.cell 0; have f0 : wK.frozen? ⟨w.heap.size + 1, 0, none⟩ = false := NK.frz 0; have m1 : wK.cell? ⟨w.heap.size + 1, 1, none⟩ = some (.int .i64 0) := NK.cell 1; have f1 : wK.frozen? ⟨w.heap.size + 1, 1, none⟩ = false := NK.frz 1; have m2 : wK.cell? ⟨w.heap.size + 1, 2, none⟩ = some (.slice none 0 0) := NK.cell 2; have f2 : wK.frozen? ⟨w.heap.size + 1, 2, none⟩ = false := NK.frz 2; have m3 : wK.cell? ⟨w.heap.size + 1, 3, none⟩ = some (.bool false) := NK.cell 3; have f3 : wK.frozen? ⟨w.heap.size + 1, 3, none⟩ = false := NK.frz 3; have m4 : wK.cell? ⟨w.heap.size + 1, 4, none⟩ = some (.slice none 0 0) := NK.cell 4; have f4 : wK.frozen? ⟨w.heap.size + 1, 4, none⟩ = false := NK.frz 4)
      | fail)
  all_goals first
    | ((with_reducible have _t := show Below (wW.alloc (.cells #[.bool false, .int .i64 0, .string c.nm, .int .i64 0] 45)).heap.size (wW.alloc (.cells #[.bool false, .int .i64 0, .string c.nm, .int .i64 0] 45)) wK from hbK); change Exit.then _ _ Exit.normal _ (World.setCells wK (w.heap.size + 1) 0 [.string calN, .int .i64 0, .slice (some ⟨wW.heap.size, 0, none⟩) 1 1, .bool true, .slice pK (keysF c).length cpK])
       have X5 := box_stored (W := _) (b := w.heap.size + 1) (vs := [.string ⟨#[]⟩, .int .i64 0, .slice none 0 0, .bool false, .slice none 0 0]) (us := [.string calN, .int .i64 0, .slice (some ⟨wW.heap.size, 0, none⟩) 1 1, .bool true, .slice pK (keysF c).length cpK]) ⟨NK.lt, fun i v hv => by rw [NK.cell i, ← Array.getElem?_toList]; exact hv, fun i hi => NK.frz i⟩ rfl
       have B5 : Below w.heap.size w (World.setCells wK (w.heap.size + 1) 0 [.string calN, .int .i64 0, .slice (some ⟨wW.heap.size, 0, none⟩) 1 1, .bool true, .slice pK (keysF c).length cpK]) := below_cells [.string calN, .int .i64 0, .slice (some ⟨wW.heap.size, 0, none⟩) 1 1, .bool true, .slice pK (keysF c).length cpK] 0 (show Below w.heap.size w _ from by repeat (first | (with_reducible assumption) | (with_reducible exact Below.refl _ _) | (with_reducible refine Below.drew ?_) | (with_reducible refine bdrewN ?_ _) | (with_reducible refine balloc ?_ _) | ((with_reducible refine bset ?_ ?_ _ _); rotate_left; first | omega | (simp <;> omega)) | (with_reducible refine bthen ?_ hbW) | (with_reducible refine bthen ?_ hbK))) (b := w.heap.size + 1) (by omega)
       have N5 := node_a (gw := wW.heap.size) hm RK (by have := zCall; simp; omega) NK [.string calN, .int .i64 0, .slice (some ⟨wW.heap.size, 0, none⟩) 1 1, .bool true, .slice pK (keysF c).length cpK] (show Blk wK wW.heap.size _ _ from by repeat (first | (with_reducible assumption) | (with_reducible exact Blk.at_ rfl) | (with_reducible exact Blk.at_ (by simp)) | (with_reducible refine blk_drew ?_) | (with_reducible refine blk_drewN _ ?_) | (with_reducible refine blk_alloc ?_) | ((with_reducible refine blk_set ?_ ?_); rotate_left; first | omega | (simp <;> omega)) | (with_reducible refine Blk.kept ?_ hbW) | (with_reducible refine Blk.kept ?_ hbK)))
       generalize (World.setCells wK (w.heap.size + 1) 0 [.string calN, .int .i64 0, .slice (some ⟨wW.heap.size, 0, none⟩) 1 1, .bool true, .slice pK (keysF c).length cpK]) = W5 at X5 B5 N5 ⊢
       go_wp2_with fail
       refine bodyPost_ret (results_cell2 (t := 2) (u := 3) (ty := 25) rfl _ _ _ (w.heap.size + 1) 0 [.string calN, .int .i64 0, .slice (some ⟨wW.heap.size, 0, none⟩) 1 1, .bool true, .slice pK (keysF c).length cpK] _ 5 rfl (box_rng X5) Tryz.underlying25 rfl (by kernel_rfl) rfl) rfl ⟨_, _, _, _, rfl, B5, N5⟩)
    | ((with_reducible have _t := show Below wW.heap.size wW wK from hbK); change Exit.then _ _ Exit.normal _ ((World.setCells wK (w.heap.size + 1) 0 [.string calN, .int .i64 0, .slice (some ⟨wK.heap.size, 0, none⟩) 1 1, .bool true, .slice pK (keysF c).length cpK]).alloc (.cells #[.bool false, .int .i64 0, .string c.nm, .int .i64 0] 45))
       have X5 := (box_stored (W := _) (b := w.heap.size + 1) (vs := [.string ⟨#[]⟩, .int .i64 0, .slice none 0 0, .bool false, .slice none 0 0]) (us := [.string calN, .int .i64 0, .slice (some ⟨wK.heap.size, 0, none⟩) 1 1, .bool true, .slice pK (keysF c).length cpK]) ⟨NK.lt, fun i v hv => by rw [NK.cell i, ← Array.getElem?_toList]; exact hv, fun i hi => NK.frz i⟩ rfl).alloc (.cells #[.bool false, .int .i64 0, .string c.nm, .int .i64 0] 45)
       have B5 : Below w.heap.size w ((World.setCells wK (w.heap.size + 1) 0 [.string calN, .int .i64 0, .slice (some ⟨wK.heap.size, 0, none⟩) 1 1, .bool true, .slice pK (keysF c).length cpK]).alloc (.cells #[.bool false, .int .i64 0, .string c.nm, .int .i64 0] 45)) := balloc (below_cells [.string calN, .int .i64 0, .slice (some ⟨wK.heap.size, 0, none⟩) 1 1, .bool true, .slice pK (keysF c).length cpK] 0 (show Below w.heap.size w _ from by repeat (first | (with_reducible assumption) | (with_reducible exact Below.refl _ _) | (with_reducible refine Below.drew ?_) | (with_reducible refine bdrewN ?_ _) | (with_reducible refine balloc ?_ _) | ((with_reducible refine bset ?_ ?_ _ _); rotate_left; first | omega | (simp <;> omega)) | (with_reducible refine bthen ?_ hbW) | (with_reducible refine bthen ?_ hbK))) (b := w.heap.size + 1) (by omega)) _
       have N5 := node_b hm RK (by have := zCall; omega) NK [.string calN, .int .i64 0, .slice (some ⟨wK.heap.size, 0, none⟩) 1 1, .bool true, .slice pK (keysF c).length cpK]
       generalize (World.setCells wK (w.heap.size + 1) 0 [.string calN, .int .i64 0, .slice (some ⟨wK.heap.size, 0, none⟩) 1 1, .bool true, .slice pK (keysF c).length cpK]).alloc (.cells #[.bool false, .int .i64 0, .string c.nm, .int .i64 0] 45) = W5 at X5 B5 N5 ⊢
       go_wp2_with fail
       refine bodyPost_ret (results_cell2 (t := 2) (u := 3) (ty := 25) rfl _ _ _ (w.heap.size + 1) 0 [.string calN, .int .i64 0, .slice (some ⟨wK.heap.size, 0, none⟩) 1 1, .bool true, .slice pK (keysF c).length cpK] _ 5 rfl (box_rng X5) Tryz.underlying25 rfl (by kernel_rfl) rfl) rfl ⟨_, _, _, _, rfl, B5, N5⟩)

end Go.Proofs.YtnjmokmlnpehdaaGreatDoor.Fn
