/- block of the laws of layer 11: a calendar's block whose keys have their numbers as places. -/
import Derived.Test.YtnjmokmlnpehdaaGreatDoorFnode7
import Derived.Test.YtnjmokmlnpehdaaGreatDoorFmod4
namespace Go.Proofs.YtnjmokmlnpehdaaGreatDoor.Fl
set_option linter.unusedSimpArgs false
set_option linter.unusedVariables false
open Go Go.RowKit Go.Proofs.YtnjmokmlnpehdaaGreatDoor Go.Proofs.YtnjmokmlnpehdaaGreatDoor.Am Go.Proofs.YtnjmokmlnpehdaaGreatDoor.Bn Go.Proofs.YtnjmokmlnpehdaaGreatDoor.Zp Go.Proofs.YtnjmokmlnpehdaaGreatDoor.Zk Go.Proofs.YtnjmokmlnpehdaaGreatDoor.Yg Go.Proofs.YtnjmokmlnpehdaaGreatDoor.Fm Go.Proofs.YtnjmokmlnpehdaaGreatDoor.Fp Go.Proofs.YtnjmokmlnpehdaaGreatDoor.Fn Go.Proofs.YtnjmokmlnpehdaaGreatDoor.Fs

set_option maxHeartbeats 8000000

/-! ## places are put in, one after another -/
theorem keysV_put {base : Nat} {W : World} {nm : ByteArray} {a : Int} {ws : List WI} {l2 : List NI} (a' : Int) : ∀ (l1 : List NI) (xs : List Value), KeysV base W (l1 ++ .mk nm a ws false [] :: l2) xs →
    xs[l1.length * 5 + 1]? = some (.int .i64 a) ∧ KeysV base W (l1 ++ .mk nm a' ws false [] :: l2) (xs.set (l1.length * 5 + 1) (.int .i64 a'))
  | [], xs, h => by
    obtain ⟨c, ys, rfl, h1, h2⟩ := h
    obtain ⟨nm', a0, ws', g, wc, cur, e, rfl, h3⟩ := h1
    simp only [NI.mk.injEq] at e
    obtain ⟨rfl, rfl, rfl, -, -⟩ := e
    exact ⟨rfl, _, ys, rfl, ⟨nm, a', ws, g, wc, cur, rfl, rfl, h3⟩, h2⟩
  | m :: l1, xs, h => by
    obtain ⟨c, ys, rfl, h1, h2⟩ := h
    obtain ⟨r1, r2⟩ := keysV_put a' l1 ys h2
    have h5 := h1.five.1
    have e : (m :: l1).length * 5 + 1 = 5 + (l1.length * 5 + 1) := by simp; omega
    rw [e]
    refine ⟨by rw [List.getElem?_append_right (by omega), h5]; simpa using r1, ?_⟩
    refine ⟨c, ys.set (l1.length * 5 + 1) (.int .i64 a'), ?_, h1, r2⟩
    rw [List.set_append_right _ _ (by omega), h5]
    congr 2
    omega
/-- keys of which the first k have their numbers as places -/
def mx (c : CalZ) (k : Nat) : List NI := ((nk c).take k).map (kyA c) ++ ((kys c).drop k).map (fun (key : Nat) => ky key (wds c key))
theorem mx_zero (c : CalZ) : mx c 0 = keysF c := by rw [keysF_is]; simp [mx]
theorem mx_all (c : CalZ) : mx c (kys c).length = (nk c).map (kyA c) := by
  unfold mx
  rw [List.drop_length, ← nk_len c, List.take_length]
  simp
theorem mx_len (c : CalZ) (k : Nat) (hk : k ≤ (kys c).length) : (((nk c).take k).map (kyA c)).length = k := by
  rw [List.length_map, List.length_take, nk_len]
  omega
theorem mx_at {c : CalZ} {k : Nat} (hk : k < (kys c).length) : mx c k = ((nk c).take k).map (kyA c) ++ .mk (nth keyN (kys c)[k]) 0 (wds c (kys c)[k]) false [] :: ((kys c).drop (k + 1)).map (fun (key : Nat) => ky key (wds c key)) := by
  unfold mx
  rw [List.drop_eq_getElem_cons hk]
  rfl
theorem mx_next {c : CalZ} {k : Nat} (hk : k < (kys c).length) : mx c (k + 1) = ((nk c).take k).map (kyA c) ++ .mk (nth keyN (kys c)[k]) ((k : Int) + 1) (wds c (kys c)[k]) false [] :: ((kys c).drop (k + 1)).map (fun (key : Nat) => ky key (wds c key)) := by
  unfold mx
  have hl : k < (nk c).length := by rw [nk_len]; exact hk
  have e : (nk c)[k]? = some (((1 + k : Nat) : Int), (kys c)[k]) := num_get (kys c) 1 k hk
  rw [List.take_add_one, e, List.map_append, List.append_assoc]
  have e2 : (((1 + k : Nat) : Int)) = (k : Int) + 1 := by omega
  simp [kyA, e2]
/-- a cell of a block is written -/
theorem blk_put {W : World} {g j : Nat} {T : TypeId} {cur : Array Value} (h : Blk W g T cur) (v : Value) : Blk (W.setCell ⟨g, j, none⟩ v) g T (cur.setIfInBounds j v) := by
  obtain ⟨hlt, hk⟩ := Array.getElem?_eq_some_iff.1 (show W.heap[g]? = _ from h)
  show (W.heap.modify g _)[g]? = _
  rw [Array.getElem?_eq_getElem (by rw [Array.size_modify]; exact hlt), Array.getElem_modify_self, hk]
  rfl
theorem wk_put {W : World} {g j : Nat} {cur : Array Value} (h : Blk W g 25 cur) (v : Value) : WKeep W (W.setCell ⟨g, j, none⟩ v) := fun g' cur' q => blk_set q (fun e => by
  subst e
  have q := (show W.heap[g']? = _ from h).symm.trans q
  injection q with q
  injection q with _ q _
  exact absurd q (by decide))
/-- a row of keys in a block: its items, and its cells -/
def RowB (W : World) (g : Nat) (l : List NI) : Prop := ∃ cur : Array Value, Blk W g 25 cur ∧ l.length * 5 ≤ cur.size ∧ KeysV 0 W l (cur.toList.take (l.length * 5))
theorem RowB.kept {W W' : World} {g : Nat} {l : List NI} (h : RowB W g l) (B : Below W.heap.size W W') : RowB W' g l := by
  obtain ⟨cur, h1, h2, h3⟩ := h
  exact ⟨cur, h1.kept B, h2, h3.keep (WKeep.below B)⟩
theorem RowB.lt {W : World} {g : Nat} {l : List NI} (h : RowB W g l) : g < W.heap.size := by
  obtain ⟨cur, h1, h2, h3⟩ := h
  exact h1.lt
/-- place k is put in -/
theorem RowB.place {W : World} {g k : Nat} {c : CalZ} (h : RowB W g (mx c k)) (hk : k < (kys c).length) : W.cell? ⟨g, k * 5 + 1, none⟩ = some (.int .i64 0) ∧ W.frozen? ⟨g, k * 5 + 1, none⟩ = false ∧ RowB (W.setCell ⟨g, k * 5 + 1, none⟩ (.int .i64 ((k : Int) + 1))) g (mx c (k + 1)) := by
  obtain ⟨cur, h1, h2, h3⟩ := h
  have e0 := mx_at hk
  have e1 := mx_next hk
  have hl : (mx c (k + 1)).length = (mx c k).length := by rw [e0, e1]; simp
  have hlk : k < (mx c k).length := by rw [e0]; simp [nk_len]; omega
  have h3' := h3
  rw [e0] at h3'
  obtain ⟨r1, r2⟩ := keysV_put ((k : Int) + 1) _ _ h3'
  rw [mx_len c k (by omega), ← e0] at r1 r2
  rw [List.getElem?_take, if_pos (by omega)] at r1
  refine ⟨by rw [h1.cell]; rw [← Array.getElem?_toList]; exact r1, h1.frz _, cur.setIfInBounds (k * 5 + 1) (.int .i64 ((k : Int) + 1)), blk_put h1 _, by rw [hl]; simpa using h2, ?_⟩
  rw [hl, Array.toList_setIfInBounds, List.take_set, e1]
  exact r2.keep (wk_put h1 _)

/-- the block that block tells -/
structure BlockTold (c : CalZ) (W : World) (wp : Option Addr) (wc : Nat) (kp : Option Addr) (kc : Nat) (g : Nat) : Prop where
  kids : kp = some ⟨g, 0, none⟩
  room : (kys c).length ≤ kc
  row : RowB W g ((nk c).map (kyA c))
  word : ∃ gw, wp = some ⟨gw, 0, none⟩ ∧ wc = 1 ∧ Blk W gw 45 #[.bool false, .int .i64 0, .string c.nm, .int .i64 0]
theorem BlockTold.kept {c : CalZ} {W W' : World} {wp : Option Addr} {wc : Nat} {kp : Option Addr} {kc g : Nat} (h : BlockTold c W wp wc kp kc g) (B : Below W.heap.size W W') : BlockTold c W' wp wc kp kc g := by
  obtain ⟨h1, h2, h3, gw, h4, h5, h6⟩ := h
  exact ⟨h1, h2, h3.kept B, gw, h4, h5, h6.kept B⟩
theorem keys_kys (c : CalZ) : (keysF c).length = (kys c).length := by rw [keysF_is, List.length_map]

/-- something is put behind nil: a new row -/
theorem put_nil {P : Program} {ops : Array Oper} {rest : List Oper} {o : Oper} {a : Act} {W : World} {Q : Exit → Act → World → Prop} (TL : TypeId) (ht : P.underlying TL = some (.slice 25)) {z : Value}
    (hi : (P.info? 25).map (fun i => (i.zero, i.size, i.bytes)) = some (some z, 5, 80)) (hzs : z.cells.size = 5) (hgd : Region.wanted o (yielded ops a.tmps) = true) (s x : Operand)
    (ho : o.op = .call { callee := .builtin .append, args := #[s, x], argTypes := #[TL, TL] })
    (hs : a.eval s = .slice none 0 0) {u : Value} {m : Nat} {ys : List Value} (hx : a.eval x = u) (hr : Holds W 5 u m ys) (h0 : 0 < m) (hm : m ≤ 1000)
    (h : ∀ g cap cur w', Blk w' g 25 cur → m ≤ cap → cur.size = cap * 5 → cur.toList.take (m * 5) = ys → W.heap.size ≤ g → Below W.heap.size W w' → wpList P ops Q rest (a.put o.dst (.slice (some ⟨g, 0, none⟩) m cap)) w') : wpList P ops Q (o :: rest) a W := by
  obtain ⟨i0, hi, hz0, hz1, hz2⟩ := info_parts hi
  refine Zk.wpList_put_behind hgd s x TL ho W.heap.size 25 i0 z 5 80 ht hi hz0 hz1 hz2 hzs (by decide) (.slice none 0 0) 0 [] hs (World.ownsRow_nil _ _ _ _) u m ys hx hr (by unfold maxLen; omega) (by omega) (Nat.le_refl _) (fun v' w' h1 h2 => ?_)
  rw [Nat.zero_add] at h1
  rcases h1.2 with ⟨_, q⟩ | ⟨g, cap, cur, hv, q1, q2, q3, q4, q5, q6⟩
  · omega
  · subst hv
    exact h g cap cur w' q2 q3 q5 q6 q1 ⟨h2.os, h2.tape, h2.output, h2.size, fun k hk => h2.block k hk (by simp [Value.ownBlock])⟩
/-- what stands while places are put in -/
structure BMid (c : CalZ) (k g nb ob gw cap q0 : Nat) (nmC : ByteArray) (w W : World) : Prop where
  below : Below w.heap.size w W
  row : RowB W g (mx c k)
  box : Blk W nb 25 #[.string nmC, .int .i64 100, .slice (some ⟨gw, 0, none⟩) 1 1, .bool true, .slice (some ⟨g, 0, none⟩) q0 cap]
  out : Blk W ob 25 #[.string ⟨#[]⟩, .int .i64 0, .slice none 0 0, .bool false, .slice none 0 0]
  word : Blk W gw 45 #[.bool false, .int .i64 0, .string c.nm, .int .i64 0]

set_option maxRecDepth 100000 in
theorem block_no (c : CalZ) (w : World) (no : ¬ CalOk c) (hm : c.nm.size ≤ maxLen) (NT : NTab w) :
    Calls Tryz.prog 25 #[.agg #[.string c.nm, .int .i64 c.k, .int .i64 c.d, .int .i64 c.m, .int .i64 c.s, .int .i64 c.sh, .int .i64 c.p0, .int .i64 c.p1, .int .i64 c.p2, .int .i64 c.cy, .int .i64 c.ex, .int .i64 c.fi, .int .i64 c.la, .int .i64 c.po]] w fun e w' => e = .returned (.tuple #[.agg #[.string ⟨#[]⟩, .int .i64 0, .slice none 0 0, .bool false, .slice none 0 0], .bool false]) ∧ Below w.heap.size w w' := by
  have cn := fun W T => Node_no c W no hm T
  have C : Blk _ w.heap.size 30 _ := (Blk.at_ (W := w) (c := #[.string c.nm, .int .i64 c.k, .int .i64 c.d, .int .i64 c.m, .int .i64 c.s, .int .i64 c.sh, .int .i64 c.p0, .int .i64 c.p1, .int .i64 c.p2, .int .i64 c.cy, .int .i64 c.ex, .int .i64 c.fi, .int .i64 c.la, .int .i64 c.po]) rfl).kept (balloc (Below.refl _ _) (.cells #[.string ⟨#[]⟩, .int .i64 0, .slice none 0 0, .bool false, .slice none 0 0] 25))
  have X := Box.new (w.alloc (.cells #[.string c.nm, .int .i64 c.k, .int .i64 c.d, .int .i64 c.m, .int .i64 c.s, .int .i64 c.sh, .int .i64 c.p0, .int .i64 c.p1, .int .i64 c.p2, .int .i64 c.cy, .int .i64 c.ex, .int .i64 c.fi, .int .i64 c.la, .int .i64 c.po] 30)) #[.string ⟨#[]⟩, .int .i64 0, .slice none 0 0, .bool false, .slice none 0 0] 25
  have B0 := balloc (balloc (Below.refl _ w) (.cells #[.string c.nm, .int .i64 c.k, .int .i64 c.d, .int .i64 c.m, .int .i64 c.s, .int .i64 c.sh, .int .i64 c.p0, .int .i64 c.p1, .int .i64 c.p2, .int .i64 c.cy, .int .i64 c.ex, .int .i64 c.fi, .int .i64 c.la, .int .i64 c.po] 30)) (.cells #[.string ⟨#[]⟩, .int .i64 0, .slice none 0 0, .bool false, .slice none 0 0] 25)
  have T0 := (NT.alloc (.cells #[.string c.nm, .int .i64 c.k, .int .i64 c.d, .int .i64 c.m, .int .i64 c.s, .int .i64 c.sh, .int .i64 c.p0, .int .i64 c.p1, .int .i64 c.p2, .int .i64 c.cy, .int .i64 c.ex, .int .i64 c.fi, .int .i64 c.la, .int .i64 c.po] 30)).alloc (.cells #[.string ⟨#[]⟩, .int .i64 0, .slice none 0 0, .bool false, .slice none 0 0] 25)
  rw [World.size_alloc] at X
  clear no NT
  go_enter Tryz.func25, Tryz.ntmps25
  go_upto_region 1 with fail
  generalize (w.alloc (.cells #[.string c.nm, .int .i64 c.k, .int .i64 c.d, .int .i64 c.m, .int .i64 c.s, .int .i64 c.sh, .int .i64 c.p0, .int .i64 c.p1, .int .i64 c.p2, .int .i64 c.cy, .int .i64 c.ex, .int .i64 c.fi, .int .i64 c.la, .int .i64 c.po] 30)).alloc (.cells #[.string ⟨#[]⟩, .int .i64 0, .slice none 0 0, .bool false, .slice none 0 0] 25) = W0 at *
  have k0 : W0.cell? ⟨w.heap.size, 0, none⟩ = some (.string c.nm) := C.cell 0
  have k1 : W0.cell? ⟨w.heap.size, 1, none⟩ = some (.int .i64 c.k) := C.cell 1
  have k2 : W0.cell? ⟨w.heap.size, 2, none⟩ = some (.int .i64 c.d) := C.cell 2
  have k3 : W0.cell? ⟨w.heap.size, 3, none⟩ = some (.int .i64 c.m) := C.cell 3
  have k4 : W0.cell? ⟨w.heap.size, 4, none⟩ = some (.int .i64 c.s) := C.cell 4
  have k5 : W0.cell? ⟨w.heap.size, 5, none⟩ = some (.int .i64 c.sh) := C.cell 5
  have k6 : W0.cell? ⟨w.heap.size, 6, none⟩ = some (.int .i64 c.p0) := C.cell 6
  have k7 : W0.cell? ⟨w.heap.size, 7, none⟩ = some (.int .i64 c.p1) := C.cell 7
  have k8 : W0.cell? ⟨w.heap.size, 8, none⟩ = some (.int .i64 c.p2) := C.cell 8
  have k9 : W0.cell? ⟨w.heap.size, 9, none⟩ = some (.int .i64 c.cy) := C.cell 9
  have k10 : W0.cell? ⟨w.heap.size, 10, none⟩ = some (.int .i64 c.ex) := C.cell 10
  have k11 : W0.cell? ⟨w.heap.size, 11, none⟩ = some (.int .i64 c.fi) := C.cell 11
  have k12 : W0.cell? ⟨w.heap.size, 12, none⟩ = some (.int .i64 c.la) := C.cell 12
  have k13 : W0.cell? ⟨w.heap.size, 13, none⟩ = some (.int .i64 c.po) := C.cell 13
  have zC := C.lt
  go_wp2_with fail
  refine (cn _ T0).mono ?_
  rintro e W1 ⟨rfl, hb⟩
  have X1 := (X.kept hb).alloc (.cells #[.string ⟨#[]⟩, .int .i64 0, .slice none 0 0, .bool false, .slice none 0 0] 25)
  have B1 := balloc (bthen B0 hb) (.cells #[.string ⟨#[]⟩, .int .i64 0, .slice none 0 0, .bool false, .slice none 0 0] 25)
  have Y1 := Box.new W1 #[.string ⟨#[]⟩, .int .i64 0, .slice none 0 0, .bool false, .slice none 0 0] 25
  clear cn T0 C X B0 hb zC k0 k1 k2 k3 k4 k5 k6 k7 k8 k9 k10 k11 k12 k13
  go_upto_region 2 with fail
  obtain ⟨nb, hnb⟩ : ∃ nb, W1.heap.size = nb := ⟨_, rfl⟩
  rw [hnb] at Y1 ⊢
  clear hnb
  generalize W1.alloc (.cells #[.string ⟨#[]⟩, .int .i64 0, .slice none 0 0, .bool false, .slice none 0 0] 25) = W2 at *
  have y0 : W2.cell? ⟨nb, 0, none⟩ = some (.string ⟨#[]⟩) := Y1.cell 0 _ rfl
  have y1 : W2.cell? ⟨nb, 1, none⟩ = some (.int .i64 0) := Y1.cell 1 _ rfl
  have y2 : W2.cell? ⟨nb, 2, none⟩ = some (.slice none 0 0) := Y1.cell 2 _ rfl
  have y3 : W2.cell? ⟨nb, 3, none⟩ = some (.bool false) := Y1.cell 3 _ rfl
  have y4 : W2.cell? ⟨nb, 4, none⟩ = some (.slice none 0 0) := Y1.cell 4 _ rfl
  have m0 : W2.cell? ⟨w.heap.size + 1, 0, none⟩ = some (.string ⟨#[]⟩) := X1.cell 0 _ rfl
  have f0 : W2.frozen? ⟨w.heap.size + 1, 0, none⟩ = false := X1.frz 0 (by decide)
  have m1 : W2.cell? ⟨w.heap.size + 1, 1, none⟩ = some (.int .i64 0) := X1.cell 1 _ rfl
  have f1 : W2.frozen? ⟨w.heap.size + 1, 1, none⟩ = false := X1.frz 1 (by decide)
  have m2 : W2.cell? ⟨w.heap.size + 1, 2, none⟩ = some (.slice none 0 0) := X1.cell 2 _ rfl
  have f2 : W2.frozen? ⟨w.heap.size + 1, 2, none⟩ = false := X1.frz 2 (by decide)
  have m3 : W2.cell? ⟨w.heap.size + 1, 3, none⟩ = some (.bool false) := X1.cell 3 _ rfl
  have f3 : W2.frozen? ⟨w.heap.size + 1, 3, none⟩ = false := X1.frz 3 (by decide)
  have m4 : W2.cell? ⟨w.heap.size + 1, 4, none⟩ = some (.slice none 0 0) := X1.cell 4 _ rfl
  have f4 : W2.frozen? ⟨w.heap.size + 1, 4, none⟩ = false := X1.frz 4 (by decide)
  go_wp2_with fail
  change bodyPost _ _ _ _ _ (World.setCells W2 (w.heap.size + 1) 0 [.string ⟨#[]⟩, .int .i64 0, .slice none 0 0, .bool false, .slice none 0 0])
  have X5 := Go.Proofs.YtnjmokmlnpehdaaGreatDoor.Fn.box_stored X1 (us := [.string ⟨#[]⟩, .int .i64 0, .slice none 0 0, .bool false, .slice none 0 0]) rfl
  have B5 := Go.Proofs.YtnjmokmlnpehdaaGreatDoor.Fn.below_cells [.string ⟨#[]⟩, .int .i64 0, .slice none 0 0, .bool false, .slice none 0 0] 0 B1 (b := w.heap.size + 1) (by omega)
  exact bodyPost_ret (results_cell2 (t := 2) (u := 3) (ty := 25) rfl _ _ _ (w.heap.size + 1) 0 [.string ⟨#[]⟩, .int .i64 0, .slice none 0 0, .bool false, .slice none 0 0] _ 5 rfl (Go.Proofs.YtnjmokmlnpehdaaGreatDoor.Fn.box_rng X5) Tryz.underlying25 rfl (by kernel_rfl) rfl) rfl ⟨rfl, B5⟩

set_option maxRecDepth 100000 in
theorem block_new (c : CalZ) (w : World) (ok : CalOk c) (hm : c.nm.size ≤ maxLen) (NT : NTab w) :
    Calls Tryz.prog 25 #[.agg #[.string c.nm, .int .i64 c.k, .int .i64 c.d, .int .i64 c.m, .int .i64 c.s, .int .i64 c.sh, .int .i64 c.p0, .int .i64 c.p1, .int .i64 c.p2, .int .i64 c.cy, .int .i64 c.ex, .int .i64 c.fi, .int .i64 c.la, .int .i64 c.po]] w fun e w' => ∃ wp wc kp kc g, e = .returned (.tuple #[.agg #[.string calN, .int .i64 100, .slice wp 1 wc, .bool true, .slice kp (kys c).length kc], .bool true]) ∧ Below w.heap.size w w' ∧ BlockTold c w' wp wc kp kc g ∧ w.heap.size ≤ g := by
  have cn := fun W T => Node_ok c W ok hm T
  have C : Blk _ w.heap.size 30 _ := (Blk.at_ (W := w) (c := #[.string c.nm, .int .i64 c.k, .int .i64 c.d, .int .i64 c.m, .int .i64 c.s, .int .i64 c.sh, .int .i64 c.p0, .int .i64 c.p1, .int .i64 c.p2, .int .i64 c.cy, .int .i64 c.ex, .int .i64 c.fi, .int .i64 c.la, .int .i64 c.po]) rfl).kept (balloc (Below.refl _ _) (.cells #[.string ⟨#[]⟩, .int .i64 0, .slice none 0 0, .bool false, .slice none 0 0] 25))
  have X := Blk.at_ (W := w.alloc (.cells #[.string c.nm, .int .i64 c.k, .int .i64 c.d, .int .i64 c.m, .int .i64 c.s, .int .i64 c.sh, .int .i64 c.p0, .int .i64 c.p1, .int .i64 c.p2, .int .i64 c.cy, .int .i64 c.ex, .int .i64 c.fi, .int .i64 c.la, .int .i64 c.po] 30)) (g := w.heap.size + 1) (T := 25) (c := #[.string ⟨#[]⟩, .int .i64 0, .slice none 0 0, .bool false, .slice none 0 0]) (by simp)
  have B0 := balloc (balloc (Below.refl _ w) (.cells #[.string c.nm, .int .i64 c.k, .int .i64 c.d, .int .i64 c.m, .int .i64 c.s, .int .i64 c.sh, .int .i64 c.p0, .int .i64 c.p1, .int .i64 c.p2, .int .i64 c.cy, .int .i64 c.ex, .int .i64 c.fi, .int .i64 c.la, .int .i64 c.po] 30)) (.cells #[.string ⟨#[]⟩, .int .i64 0, .slice none 0 0, .bool false, .slice none 0 0] 25)
  have T0 := (NT.alloc (.cells #[.string c.nm, .int .i64 c.k, .int .i64 c.d, .int .i64 c.m, .int .i64 c.s, .int .i64 c.sh, .int .i64 c.p0, .int .i64 c.p1, .int .i64 c.p2, .int .i64 c.cy, .int .i64 c.ex, .int .i64 c.fi, .int .i64 c.la, .int .i64 c.po] 30)).alloc (.cells #[.string ⟨#[]⟩, .int .i64 0, .slice none 0 0, .bool false, .slice none 0 0] 25)
  clear ok NT
  go_enter Tryz.func25, Tryz.ntmps25
  go_upto_region 1 with fail
  generalize (w.alloc (.cells #[.string c.nm, .int .i64 c.k, .int .i64 c.d, .int .i64 c.m, .int .i64 c.s, .int .i64 c.sh, .int .i64 c.p0, .int .i64 c.p1, .int .i64 c.p2, .int .i64 c.cy, .int .i64 c.ex, .int .i64 c.fi, .int .i64 c.la, .int .i64 c.po] 30)).alloc (.cells #[.string ⟨#[]⟩, .int .i64 0, .slice none 0 0, .bool false, .slice none 0 0] 25) = W0 at *
  have k0 : W0.cell? ⟨w.heap.size, 0, none⟩ = some (.string c.nm) := C.cell 0
  have k1 : W0.cell? ⟨w.heap.size, 1, none⟩ = some (.int .i64 c.k) := C.cell 1
  have k2 : W0.cell? ⟨w.heap.size, 2, none⟩ = some (.int .i64 c.d) := C.cell 2
  have k3 : W0.cell? ⟨w.heap.size, 3, none⟩ = some (.int .i64 c.m) := C.cell 3
  have k4 : W0.cell? ⟨w.heap.size, 4, none⟩ = some (.int .i64 c.s) := C.cell 4
  have k5 : W0.cell? ⟨w.heap.size, 5, none⟩ = some (.int .i64 c.sh) := C.cell 5
  have k6 : W0.cell? ⟨w.heap.size, 6, none⟩ = some (.int .i64 c.p0) := C.cell 6
  have k7 : W0.cell? ⟨w.heap.size, 7, none⟩ = some (.int .i64 c.p1) := C.cell 7
  have k8 : W0.cell? ⟨w.heap.size, 8, none⟩ = some (.int .i64 c.p2) := C.cell 8
  have k9 : W0.cell? ⟨w.heap.size, 9, none⟩ = some (.int .i64 c.cy) := C.cell 9
  have k10 : W0.cell? ⟨w.heap.size, 10, none⟩ = some (.int .i64 c.ex) := C.cell 10
  have k11 : W0.cell? ⟨w.heap.size, 11, none⟩ = some (.int .i64 c.fi) := C.cell 11
  have k12 : W0.cell? ⟨w.heap.size, 12, none⟩ = some (.int .i64 c.la) := C.cell 12
  have k13 : W0.cell? ⟨w.heap.size, 13, none⟩ = some (.int .i64 c.po) := C.cell 13
  have zC := C.lt
  go_wp2_with fail
  refine (cn _ T0).mono ?_
  rintro e W1 ⟨wp, wc, kp, kc, rfl, hb, NT1⟩
  have hq := keys_kys c
  have hb6 := kys_bd c
  obtain ⟨g0, xs, hkp, hg0, hx, K0⟩ := NT1.row
  obtain ⟨gw, hwp, hwc, hW⟩ := NT1.word
  rw [hq]
  subst hkp hwp hwc
  have Hx : Hid (∀ W, Below W1.heap.size W1 W → Holds W 5 (.slice (some ⟨g0, 0, none⟩) (kys c).length kc) (kys c).length xs) := by
    have h5 : ∀ (l : List NI) (ys : List Value), KeysV 0 W1 l ys → ys.length = l.length * 5 ∧ ∀ u ∈ ys, u.oneCell' = true := by
      intro l
      induction l with
      | nil => intro ys h; subst h; simp
      | cons n l ih =>
        intro ys h
        obtain ⟨c1, zs, rfl, q1, q2⟩ := h
        obtain ⟨i1, i2⟩ := ih zs q2
        have q5 := q1.five
        refine ⟨by simp [i1, q5.1]; omega, fun u hu => ?_⟩
        rcases List.mem_append.1 hu with hu | hu
        · exact q5.2 u hu
        · exact i2 u hu
    obtain ⟨i1, i2⟩ := h5 _ _ K0
    rw [hq] at i1
    exact Lib.hid (fun W hB => ⟨_, _, rfl, i1, i2, .inr ⟨_, rfl, fun j u hj => by rw [add_zero_]; exact (hB.cell (p := ⟨g0, j, none⟩) hg0).trans (hx j u hj)⟩⟩)
  have K1 : KeysV 0 W1 (mx c 0) xs := by rw [mx_zero]; exact K0
  clear cn T0 hx K0 NT1 hg0
  have X1 := (X.kept hb)
  have B1 := bthen B0 hb
  obtain ⟨q0, hq0⟩ : ∃ q0, (kys c).length = q0 := ⟨_, rfl⟩
  have HQ := Lib.hid hq0
  rw [hq0] at Hx hb6 ⊢
  obtain ⟨nmC, hnmC⟩ : ∃ nmC, calN = nmC := ⟨_, rfl⟩
  have HN := Lib.hid hnmC
  rw [hnmC]
  have hq3 := hb6.1
  have hq6 := hb6.2
  clear hq0 hnmC hb6 hq C X B0 hb zC k0 k1 k2 k3 k4 k5 k6 k7 k8 k9 k10 k11 k12 k13
  go_upto_region 2 with fail
  have Y2 := Blk.at_ (W := W1) (T := 25) (c := #[.string nmC, .int .i64 0, .slice (some ⟨gw, 0, none⟩) 1 1, .bool true, .slice (some ⟨g0, 0, none⟩) q0 kc]) rfl
  have X2 := X1.kept (balloc (Below.refl _ _) (.cells #[.string nmC, .int .i64 0, .slice (some ⟨gw, 0, none⟩) 1 1, .bool true, .slice (some ⟨g0, 0, none⟩) q0 kc] 25))
  have hW2 := hW.kept (balloc (Below.refl _ _) (.cells #[.string nmC, .int .i64 0, .slice (some ⟨gw, 0, none⟩) 1 1, .bool true, .slice (some ⟨g0, 0, none⟩) q0 kc] 25))
  have b2 := balloc (Below.refl W1.heap.size W1) (.cells #[.string nmC, .int .i64 0, .slice (some ⟨gw, 0, none⟩) 1 1, .bool true, .slice (some ⟨g0, 0, none⟩) q0 kc] 25)
  have lo : w.heap.size + 1 < W1.heap.size := X1.lt
  obtain ⟨nb, hnb⟩ : ∃ nb, W1.heap.size = nb := ⟨_, rfl⟩
  have hnb2 := Lib.hid hnb
  rw [hnb] at Y2 ⊢
  clear hnb hW X1
  generalize W1.alloc (.cells #[.string nmC, .int .i64 0, .slice (some ⟨gw, 0, none⟩) 1 1, .bool true, .slice (some ⟨g0, 0, none⟩) q0 kc] 25) = W2 at *
  have y0 : W2.cell? ⟨nb, 0, none⟩ = some (.string nmC) := Y2.cell 0
  have y1 : W2.cell? ⟨nb, 1, none⟩ = some (.int .i64 0) := Y2.cell 1
  have y2 : W2.cell? ⟨nb, 2, none⟩ = some (.slice (some ⟨gw, 0, none⟩) 1 1) := Y2.cell 2
  have y3 : W2.cell? ⟨nb, 3, none⟩ = some (.bool true) := Y2.cell 3
  have y4 : W2.cell? ⟨nb, 4, none⟩ = some (.slice (some ⟨g0, 0, none⟩) q0 kc) := Y2.cell 4
  have fy1 : W2.frozen? ⟨nb, 1, none⟩ = false := Y2.frz 1
  have fy4 : W2.frozen? ⟨nb, 4, none⟩ = false := Y2.frz 4
  have zY := Y2.lt
  have t1 : decide ((q0 : Int) < 3) = false := decide_eq_false (by omega)
  have t2 : decide ((q0 : Int) > 6) = false := decide_eq_false (by omega)
  have t3 : decide ((6 : Int) < (q0 : Int)) = false := decide_eq_false (by omega)
  go_upto_region 5 with fail
  have Y3 : Blk (W2.setCell ⟨nb, 1, none⟩ (.int .i64 100)) nb 25 #[.string nmC, .int .i64 100, .slice (some ⟨gw, 0, none⟩) 1 1, .bool true, .slice (some ⟨g0, 0, none⟩) q0 kc] := blk_put Y2 _
  have X3 : Blk (W2.setCell ⟨nb, 1, none⟩ (.int .i64 100)) (w.heap.size + 1) 25 #[.string ⟨#[]⟩, .int .i64 0, .slice none 0 0, .bool false, .slice none 0 0] := blk_set X2 (by have := hnb2.out; omega)
  have hW3 := wk_put (j := 1) Y2 (.int .i64 100) _ _ hW2
  have b3 : Below W1.heap.size W1 (W2.setCell ⟨nb, 1, none⟩ (.int .i64 100)) := b2.setCell (by simp only; have := hnb2.out; omega) _
  clear y0 y1 y2 y3 y4 fy1 fy4 zY Y2 X2 hW2 b2
  generalize W2.setCell ⟨nb, 1, none⟩ (.int .i64 100) = W3 at *
  have y4 : W3.cell? ⟨nb, 4, none⟩ = some (.slice (some ⟨g0, 0, none⟩) q0 kc) := Y3.cell 4
  have fy4 : W3.frozen? ⟨nb, 4, none⟩ = false := Y3.frz 4
  have zY := Y3.lt
  have hq0 : 0 < q0 := by omega
  have hq1 : q0 ≤ 1000 := by omega
  go_wp2_with (first | (at_builtin; refine put_nil 23 underNd infoNd (by rfl) (by go_simp) _ _ rfl rfl rfl (Hx.out _ b3) hq0 hq1 ?_))
  intro g cap cur W4 G4 hcap hsz htake hg bel4
  have Y4 := Y3.kept bel4
  have X4 := X3.kept bel4
  have hW4 := hW3.kept bel4
  have ngb : g ≠ nb := by omega
  have ngo : g ≠ w.heap.size + 1 := by have := X3.lt; omega
  have lg : w.heap.size ≤ g := by have := X3.lt; omega
  have K4 : KeysV 0 W4 (mx c 0) xs := (K1.keep (WKeep.below b3)).keep (WKeep.below bel4)
  have y4' : W4.cell? ⟨nb, 4, none⟩ = some (.slice (some ⟨g0, 0, none⟩) q0 kc) := Y4.cell 4
  have fy4' : W4.frozen? ⟨nb, 4, none⟩ = false := Y4.frz 4
  have BB4 : Below w.heap.size w W4 := (B1.trans (b3.mono (by have := B1.size; omega))).trans (bel4.mono (by have := B1.size; have := b3.size; omega))
  clear y4 fy4 Y3 X3 hW3 b3 hg bel4 K1 Hx B1 zY
  go_upto_region 6 with fail
  have M5 : BMid c 0 g nb (w.heap.size + 1) gw cap q0 nmC w (W4.setCell ⟨nb, 4, none⟩ (.slice (some ⟨g, 0, none⟩) q0 cap)) := by
    refine ⟨BB4.setCell (by simp only; have := hnb2.out; omega) _, ?_, blk_put Y4 _, blk_set X4 (by have := hnb2.out; omega), wk_put (j := 4) Y4 _ _ _ hW4⟩
    have hml : (mx c 0).length = q0 := by rw [mx_zero, keys_kys]; exact HQ.out
    refine ⟨cur, blk_set G4 ngb, by rw [hml]; have := Nat.mul_le_mul_right 5 hcap; omega, ?_⟩
    rw [hml, htake]
    exact K4.keep (wk_put Y4 _)
  clear y4' fy4' Y4 X4 hW4 BB4 G4 K4 htake hsz
  generalize W4.setCell ⟨nb, 4, none⟩ (.slice (some ⟨g, 0, none⟩) q0 cap) = W5 at *
  have z4 : W5.cell? ⟨nb, 4, none⟩ = some (.slice (some ⟨g, 0, none⟩) q0 cap) := M5.box.cell 4
  have zl := M5.box.lt
  go_wp2_with fail
  go_loopw [35] (fun I wr => ∃ k : Nat, k ≤ q0 ∧ I = .int .i64 k ∧ BMid c k g nb (w.heap.size + 1) gw cap q0 nmC w wr) (fun I _ => q0 - (intOf I).toNat)
  case atStart => exact ⟨0, by omega, rfl, M5⟩
  case round =>
    clear M5 z4 zl
    obtain ⟨k, hk, rfl, M⟩ := hrel
    have z0 : wr.cell? ⟨nb, 0, none⟩ = some (.string nmC) := M.box.cell 0
    have z1 : wr.cell? ⟨nb, 1, none⟩ = some (.int .i64 100) := M.box.cell 1
    have z2 : wr.cell? ⟨nb, 2, none⟩ = some (.slice (some ⟨gw, 0, none⟩) 1 1) := M.box.cell 2
    have z3 : wr.cell? ⟨nb, 3, none⟩ = some (.bool true) := M.box.cell 3
    have z4 : wr.cell? ⟨nb, 4, none⟩ = some (.slice (some ⟨g, 0, none⟩) q0 cap) := M.box.cell 4
    have zl := M.box.lt
    by_cases hlt : k < q0
    · obtain ⟨p1, p2, p3⟩ := M.row.place (by rw [HQ.out]; exact hlt)
      have zg := M.row.lt
      go_wp2_with fail
      go_roundw
      case rel =>
        refine ⟨k + 1, by omega, by go_num, ⟨M.below.setCell (by simpa using lg) _, p3, blk_set M.box (Ne.symm ngb), blk_set M.out (Ne.symm ngo), ?_⟩⟩
        obtain ⟨cur', G', _⟩ := M.row
        exact wk_put G' _ _ _ M.word
      case measure => simp [intOf]; omega
    · have hkq : q0 = k := by omega
      subst hkq
      have m0 : wr.cell? ⟨w.heap.size + 1, 0, none⟩ = some (.string ⟨#[]⟩) := M.out.cell 0
      have f0 : wr.frozen? ⟨w.heap.size + 1, 0, none⟩ = false := M.out.frz 0
      have m1 : wr.cell? ⟨w.heap.size + 1, 1, none⟩ = some (.int .i64 0) := M.out.cell 1
      have f1 : wr.frozen? ⟨w.heap.size + 1, 1, none⟩ = false := M.out.frz 1
      have m2 : wr.cell? ⟨w.heap.size + 1, 2, none⟩ = some (.slice none 0 0) := M.out.cell 2
      have f2 : wr.frozen? ⟨w.heap.size + 1, 2, none⟩ = false := M.out.frz 2
      have m3 : wr.cell? ⟨w.heap.size + 1, 3, none⟩ = some (.bool false) := M.out.cell 3
      have f3 : wr.frozen? ⟨w.heap.size + 1, 3, none⟩ = false := M.out.frz 3
      have m4 : wr.cell? ⟨w.heap.size + 1, 4, none⟩ = some (.slice none 0 0) := M.out.cell 4
      have f4 : wr.frozen? ⟨w.heap.size + 1, 4, none⟩ = false := M.out.frz 4
      have zo := M.out.lt
      go_wp2_with fail
      change bodyPost _ _ _ _ _ (World.setCells wr (w.heap.size + 1) 0 [.string nmC, .int .i64 100, .slice (some ⟨gw, 0, none⟩) 1 1, .bool true, .slice (some ⟨g, 0, none⟩) q0 cap])
      have X5 := Go.Proofs.YtnjmokmlnpehdaaGreatDoor.Fn.box_stored (W := wr) (b := w.heap.size + 1) (vs := [.string ⟨#[]⟩, .int .i64 0, .slice none 0 0, .bool false, .slice none 0 0]) (us := [.string nmC, .int .i64 100, .slice (some ⟨gw, 0, none⟩) 1 1, .bool true, .slice (some ⟨g, 0, none⟩) q0 cap]) ⟨M.out.lt, fun i v hv => by rw [M.out.cell i, ← Array.getElem?_toList]; exact hv, fun i hi => M.out.frz i⟩ rfl
      have B5 := Go.Proofs.YtnjmokmlnpehdaaGreatDoor.Fn.below_cells [.string nmC, .int .i64 100, .slice (some ⟨gw, 0, none⟩) 1 1, .bool true, .slice (some ⟨g, 0, none⟩) q0 cap] 0 M.below (b := w.heap.size + 1) (by omega)
      have T5 : BlockTold c (World.setCells wr (w.heap.size + 1) 0 [.string nmC, .int .i64 100, .slice (some ⟨gw, 0, none⟩) 1 1, .bool true, .slice (some ⟨g, 0, none⟩) q0 cap]) (some ⟨gw, 0, none⟩) 1 (some ⟨g, 0, none⟩) cap g := by
        obtain ⟨cur', G', s', K'⟩ := M.row
        rw [← HQ.out, mx_all] at s' K'
        exact ⟨rfl, by rw [HQ.out]; exact hcap, ⟨cur', blk_cells ngo _ _ _ G', s', K'.keep (wk_cells M.out 0 _)⟩, gw, rfl, rfl, wk_cells M.out 0 _ _ _ M.word⟩
      refine bodyPost_ret (results_cell2 (t := 2) (u := 3) (ty := 25) rfl _ _ _ (w.heap.size + 1) 0 [.string nmC, .int .i64 100, .slice (some ⟨gw, 0, none⟩) 1 1, .bool true, .slice (some ⟨g, 0, none⟩) q0 cap] _ 5 rfl (Go.Proofs.YtnjmokmlnpehdaaGreatDoor.Fn.box_rng X5) Tryz.underlying25 rfl (by kernel_rfl) rfl) rfl ⟨_, _, _, _, _, ?_, B5, T5, lg⟩
      first
        | (rw [HQ.out, HN.out]; rfl)
        | (rw [HQ.out, HN.out])
        | (rw [HN.out]; rfl)

theorem block_ok (c : CalZ) (w : World) (ok : CalOk c) (hm : c.nm.size ≤ maxLen) (NT : NTab w) :
    Calls Tryz.prog 25 #[.agg #[.string c.nm, .int .i64 c.k, .int .i64 c.d, .int .i64 c.m, .int .i64 c.s, .int .i64 c.sh, .int .i64 c.p0, .int .i64 c.p1, .int .i64 c.p2, .int .i64 c.cy, .int .i64 c.ex, .int .i64 c.fi, .int .i64 c.la, .int .i64 c.po]] w fun e w' => ∃ wp wc kp kc g, e = .returned (.tuple #[.agg #[.string calN, .int .i64 100, .slice wp 1 wc, .bool true, .slice kp (kys c).length kc], .bool true]) ∧ Below w.heap.size w w' ∧ BlockTold c w' wp wc kp kc g :=
  (block_new c w ok hm NT).mono fun e w' ⟨wp, wc, kp, kc, g, h1, h2, h3, _⟩ => ⟨wp, wc, kp, kc, g, h1, h2, h3⟩

end Go.Proofs.YtnjmokmlnpehdaaGreatDoor.Fl
