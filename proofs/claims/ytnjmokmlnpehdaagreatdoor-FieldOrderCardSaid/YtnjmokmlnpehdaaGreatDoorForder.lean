/- FieldOrder, walked. -/
import Derived.Test.YtnjmokmlnpehdaaGreatDoorFrow
import Derived.Deep.RegionLaw
import Derived.BigRegion
namespace Go.Proofs.YtnjmokmlnpehdaaGreatDoor.Fl
set_option linter.unusedSimpArgs false
set_option linter.unusedVariables false
open Go Go.RowKit Go.Proofs.YtnjmokmlnpehdaaGreatDoor Go.Proofs.YtnjmokmlnpehdaaGreatDoor.Am Go.Proofs.YtnjmokmlnpehdaaGreatDoor.Bn Go.Proofs.YtnjmokmlnpehdaaGreatDoor.Zp Go.Proofs.YtnjmokmlnpehdaaGreatDoor.Zk Go.Proofs.YtnjmokmlnpehdaaGreatDoor.Yg Go.Proofs.YtnjmokmlnpehdaaGreatDoor.Fm Go.Proofs.YtnjmokmlnpehdaaGreatDoor.Fp Go.Proofs.YtnjmokmlnpehdaaGreatDoor.Fn Go.Proofs.YtnjmokmlnpehdaaGreatDoor.Fs

set_option maxHeartbeats 8000000

theorem KeyV_any {m base : Nat} {W : World} {n : NI} {c : List Value} (h : KeyV base W n c) : KeyV m W n c := by
  obtain ⟨nm, a, ws, g, wc, cur, h1, h2, h3, h4⟩ := h
  exact ⟨nm, a, ws, g, wc, cur, h1, h2, h3, h4⟩
theorem keysV_nth {base : Nat} {W : World} : ∀ {l : List NI} {xs : List Value} (i : Nat) (h : i < l.length), KeysV base W l xs → ∃ (s : ByteArray) (a : Int) (gx m wc : Nat), KeyV base W l[i] [.string s, .int .i64 a, .slice (some ⟨gx, 0, none⟩) m wc, .bool false, .slice none 0 0] ∧
    xs[i * 5]? = some (.string s) ∧ xs[i * 5 + 1]? = some (.int .i64 a) ∧ xs[i * 5 + 2]? = some (.slice (some ⟨gx, 0, none⟩) m wc) ∧ xs[i * 5 + 3]? = some (.bool false) ∧ xs[i * 5 + 4]? = some (.slice none 0 0)
  | [], _, i, h, _ => absurd h (by simp)
  | n :: l, xs, 0, _, hk => by
    obtain ⟨c, ys, rfl, k1, k2⟩ := hk
    obtain ⟨nm, a, ws, gw, wc, cur, e1, rfl, h4⟩ := id k1
    exact ⟨nm, a, gw, ws.length, wc, k1, rfl, rfl, rfl, rfl, rfl⟩
  | n :: l, xs, i + 1, h, hk => by
    obtain ⟨c, ys, rfl, k1, k2⟩ := hk
    have h5 := k1.five.1
    obtain ⟨s, a, gx, m, wc, q, r0, r1, r2, r3, r4⟩ := keysV_nth i (by simpa using h) k2
    have sh : ∀ j, (c ++ ys)[(i + 1) * 5 + j]? = ys[i * 5 + j]? := fun j => by
      rw [List.getElem?_append_right (by omega), h5]
      congr 1
      omega
    exact ⟨s, a, gx, m, wc, q, (sh 0).trans r0, (sh 1).trans r1, (sh 2).trans r2, (sh 3).trans r3, (sh 4).trans r4⟩
/-- a step of a region that draws: one key is put behind the row -/
theorem step_key {ops : Array Oper} {o : Oper} {a : Act} {w W : World} {K : Act → World → Prop} {Q : Exit → Act → World → Prop} {E : Prop} (s x : Operand) (hgd : o.guard = none)
    (ho : o.op = .call { callee := .builtin .append, args := #[s, x], argTypes := #[23, 23] })
    {V : Value} {l : List NI} {n1 : NI} {c : Array Value} (g : Nat) (hs : a.eval s = V) (hx : a.eval x = .slice (some ⟨g, 0, none⟩) 1 1) (hl : l.length ≤ 100) (X : KeyRow w W V l) (hb : Blk W g 25 c) (K1 : KeyV w.heap.size W n1 c.toList)
    (h : ∀ v' w', KeyRow w w' v' (l ++ [n1]) → K (a.put o.dst v') w') : if Region.wanted o (yielded ops a.tmps) = true then Oper.wp Tryz.prog o a W K Q else E := by
  have hw : Region.wanted o (yielded ops a.tmps) = true := by simp [Region.wanted, hgd]
  rw [if_pos hw]
  obtain ⟨i0, hi, hz0, hz1, hz2⟩ := info_parts infoNd
  obtain ⟨xs, X1, X2⟩ := X.ex
  have f1 := K1.five
  refine wp_append_own W s x 23 ho w.heap.size 25 i0 _ 5 80 underNd hi hz0 hz1 hz2 rfl (by decide) V l.length xs hs X1.row ⟨g, 0, none⟩ 1 1 c.toList hx (by rw [f1.1]) (fun j u hj => ?_) f1.2 (by unfold maxLen; omega) (by omega) X1.below.size (fun v' w' h2 h3 _ => ?_)
  · rw [add_zero_, hb.cell j, ← Array.getElem?_toList]
    exact hj
  · exact h v' w' (key_grown1 X1 X2 K1 h2 h3).1
theorem node_row {nm : ByteArray} {W3 wB : World} {nb gw n cB : Nat} {pB : Option Addr} {l : List NI} {y : Array Value} {a : Int} (hlt : nb < W3.heap.size) (Y : Blk W3 nb 25 y) (R : KeyRow W3 wB (.slice pB n cB) l) (h0 : 0 < l.length)
    (hl : l.length ≤ 1000) (hwf : WfL l ∧ LenL l) (hm : nm.size ≤ maxLen) (ha : (Lit.int .i64 a).wf = true) (hW : Blk W3 gw 45 #[.bool false, .int .i64 0, .string nm, .int .i64 0]) (v : Value) :
    NodeOf (wB.setCell ⟨nb, 4, none⟩ v) calN a (some ⟨gw, 0, none⟩) 1 1 true pB l.length cB [wd nm] l := by
  obtain ⟨xs, XB, K⟩ := R.ex
  rcases XB.row.2 with ⟨_, q⟩ | ⟨g, cap, cur, hv, h1, h2, h3, h4, h5, h6⟩
  · omega
  injection hv with e1 _ e2
  subst e1 e2
  have Y' := Y.kept XB.below
  have G : Blk (wB.setCell ⟨nb, 4, none⟩ v) g 25 cur := blk_set h2 (by omega)
  refine nodeOf_keys hm ha hl hwf G.lt (fun j u hj => ?_) (KeysV_low (K.keep (wk_put Y' _))) (wk_put Y' _ _ _ (hW.kept XB.below))
  rw [G.cell j, ← Array.getElem?_toList]
  have hj2 := (List.getElem?_eq_some_iff.1 hj).1
  rw [XB.row.1] at hj2
  rw [← h6, List.getElem?_take, if_pos hj2] at hj
  exact hj
theorem trn_len (c : CalZ) (k n : Nat) : ((trn c k n).map (kyA c)).length = n := by simp [trn]
theorem trn_next (c : CalZ) (k i : Nat) : (trn c k (i + 1)).map (kyA c) = (trn c k i).map (kyA c) ++ [kyA c ((nk c).getD (sg k (kys c).length i) (0, 0))] := by
  unfold trn
  rw [List.range_succ]
  simp

set_option maxRecDepth 100000 in
theorem forder_walk (c : CalZ) (a1 : Int) (w : World) (hw : CalWf c) (h8 : (Lit.int .u8 a1).wf = true) (tb : NTabs w) :
    Calls Tryz.prog 7 #[.agg #[.string c.nm, .int .i64 c.k, .int .i64 c.d, .int .i64 c.m, .int .i64 c.s, .int .i64 c.sh, .int .i64 c.p0, .int .i64 c.p1, .int .i64 c.p2, .int .i64 c.cy, .int .i64 c.ex, .int .i64 c.fi, .int .i64 c.la, .int .i64 c.po], .int .u8 a1] w fun e w' => e = .returned (.bool true) ∧ Below w.heap.size w w' := by
  have h8 := u8_bd h8
  have cl := flive_ok
  have hm := hw.1
  have hT := Lib.hid tb
  have C := Box.new w #[.string c.nm, .int .i64 c.k, .int .i64 c.d, .int .i64 c.m, .int .i64 c.s, .int .i64 c.sh, .int .i64 c.p0, .int .i64 c.p1, .int .i64 c.p2, .int .i64 c.cy, .int .i64 c.ex, .int .i64 c.fi, .int .i64 c.la, .int .i64 c.po] 30
  have B0 := balloc (Below.refl _ w) (.cells #[.string c.nm, .int .i64 c.k, .int .i64 c.d, .int .i64 c.m, .int .i64 c.s, .int .i64 c.sh, .int .i64 c.p0, .int .i64 c.p1, .int .i64 c.p2, .int .i64 c.cy, .int .i64 c.ex, .int .i64 c.fi, .int .i64 c.la, .int .i64 c.po] 30)
  clear hw tb
  go_enter Tryz.func7, Tryz.ntmps7
  go_upto_region 1 with fail
  generalize w.alloc (.cells #[.string c.nm, .int .i64 c.k, .int .i64 c.d, .int .i64 c.m, .int .i64 c.s, .int .i64 c.sh, .int .i64 c.p0, .int .i64 c.p1, .int .i64 c.p2, .int .i64 c.cy, .int .i64 c.ex, .int .i64 c.fi, .int .i64 c.la, .int .i64 c.po] 30) = W0 at *
  go_wp2_with fail
  refine (cl _ ⟨hT.out.n.kept B0, hT.out.p.kept B0⟩).mono ?_
  rintro e W1 ⟨rfl, hb1⟩
  have C1 := C.kept hb1
  have B1 := bthen B0 hb1
  clear C B0 hb1 cl
  have k0 : W1.cell? ⟨w.heap.size, 0, none⟩ = some (.string c.nm) := C1.cell 0 _ rfl
  by_cases hlong : 100 < c.nm.size
  · have d1 : decide ((c.nm.size : Int) > 100) = true := decide_eq_true (by omega)
    have d2 : decide ((100 : Int) < (c.nm.size : Int)) = true := decide_eq_true (by omega)
    go_wp2_with fail
    go_ret
    exact ⟨rfl, B1⟩
  have d1 : decide ((c.nm.size : Int) > 100) = false := decide_eq_false (by omega)
  have d2 : decide ((100 : Int) < (c.nm.size : Int)) = false := decide_eq_false (by omega)
  have k1 : W1.cell? ⟨w.heap.size, 1, none⟩ = some (.int .i64 c.k) := C1.cell 1 _ rfl
  have k2 : W1.cell? ⟨w.heap.size, 2, none⟩ = some (.int .i64 c.d) := C1.cell 2 _ rfl
  have k3 : W1.cell? ⟨w.heap.size, 3, none⟩ = some (.int .i64 c.m) := C1.cell 3 _ rfl
  have k4 : W1.cell? ⟨w.heap.size, 4, none⟩ = some (.int .i64 c.s) := C1.cell 4 _ rfl
  have k5 : W1.cell? ⟨w.heap.size, 5, none⟩ = some (.int .i64 c.sh) := C1.cell 5 _ rfl
  have k6 : W1.cell? ⟨w.heap.size, 6, none⟩ = some (.int .i64 c.p0) := C1.cell 6 _ rfl
  have k7 : W1.cell? ⟨w.heap.size, 7, none⟩ = some (.int .i64 c.p1) := C1.cell 7 _ rfl
  have k8 : W1.cell? ⟨w.heap.size, 8, none⟩ = some (.int .i64 c.p2) := C1.cell 8 _ rfl
  have k9 : W1.cell? ⟨w.heap.size, 9, none⟩ = some (.int .i64 c.cy) := C1.cell 9 _ rfl
  have k10 : W1.cell? ⟨w.heap.size, 10, none⟩ = some (.int .i64 c.ex) := C1.cell 10 _ rfl
  have k11 : W1.cell? ⟨w.heap.size, 11, none⟩ = some (.int .i64 c.fi) := C1.cell 11 _ rfl
  have k12 : W1.cell? ⟨w.heap.size, 12, none⟩ = some (.int .i64 c.la) := C1.cell 12 _ rfl
  have k13 : W1.cell? ⟨w.heap.size, 13, none⟩ = some (.int .i64 c.po) := C1.cell 13 _ rfl
  by_cases ok : CalOk c
  case neg =>
    have cn := fun W T => block_no c W ok hm T
    have ck := fun W T => Go.Proofs.YtnjmokmlnpehdaaGreatDoor.Fp.Check_any c 1 W (.inr ⟨ok, rfl⟩) hm T
    go_wp2_with fail
    refine (cn _ (hT.out.n.kept B1)).mono ?_
    rintro e W2 ⟨rfl, hb2⟩
    have C2 := (C1.kept hb2).alloc (.cells #[.string ⟨#[]⟩, .int .i64 0, .slice none 0 0, .bool false, .slice none 0 0] 25)
    have B2 := balloc (bthen B1 hb2) (.cells #[.string ⟨#[]⟩, .int .i64 0, .slice none 0 0, .bool false, .slice none 0 0] 25)
    clear k0 k1 k2 k3 k4 k5 k6 k7 k8 k9 k10 k11 k12 k13 C1 B1 hb2 cn
    go_upto_region 6 with fail
    generalize W2.alloc (.cells #[.string ⟨#[]⟩, .int .i64 0, .slice none 0 0, .bool false, .slice none 0 0] 25) = W3 at *
    have k0 : W3.cell? ⟨w.heap.size, 0, none⟩ = some (.string c.nm) := C2.cell 0 _ rfl
    have k1 : W3.cell? ⟨w.heap.size, 1, none⟩ = some (.int .i64 c.k) := C2.cell 1 _ rfl
    have k2 : W3.cell? ⟨w.heap.size, 2, none⟩ = some (.int .i64 c.d) := C2.cell 2 _ rfl
    have k3 : W3.cell? ⟨w.heap.size, 3, none⟩ = some (.int .i64 c.m) := C2.cell 3 _ rfl
    have k4 : W3.cell? ⟨w.heap.size, 4, none⟩ = some (.int .i64 c.s) := C2.cell 4 _ rfl
    have k5 : W3.cell? ⟨w.heap.size, 5, none⟩ = some (.int .i64 c.sh) := C2.cell 5 _ rfl
    have k6 : W3.cell? ⟨w.heap.size, 6, none⟩ = some (.int .i64 c.p0) := C2.cell 6 _ rfl
    have k7 : W3.cell? ⟨w.heap.size, 7, none⟩ = some (.int .i64 c.p1) := C2.cell 7 _ rfl
    have k8 : W3.cell? ⟨w.heap.size, 8, none⟩ = some (.int .i64 c.p2) := C2.cell 8 _ rfl
    have k9 : W3.cell? ⟨w.heap.size, 9, none⟩ = some (.int .i64 c.cy) := C2.cell 9 _ rfl
    have k10 : W3.cell? ⟨w.heap.size, 10, none⟩ = some (.int .i64 c.ex) := C2.cell 10 _ rfl
    have k11 : W3.cell? ⟨w.heap.size, 11, none⟩ = some (.int .i64 c.fi) := C2.cell 11 _ rfl
    have k12 : W3.cell? ⟨w.heap.size, 12, none⟩ = some (.int .i64 c.la) := C2.cell 12 _ rfl
    have k13 : W3.cell? ⟨w.heap.size, 13, none⟩ = some (.int .i64 c.po) := C2.cell 13 _ rfl
    have T3 := (hT.out.n.kept B2).f
    go_wp2_with fail
    refine (ck _ T3).mono ?_
    rintro e W4 ⟨rfl, hb4⟩
    go_wp2_with fail
    go_ret
    exact ⟨rfl, bthen B2 hb4⟩
  case pos =>
    have cn := fun W T => block_ok c W ok hm T
    go_wp2_with fail
    refine (cn _ (hT.out.n.kept B1)).mono ?_
    rintro e W2 ⟨wp, wc, kp, kc, g, rfl, hb2, BT⟩
    obtain ⟨gw, hwp, hwc, hW⟩ := BT.word
    have hkp := BT.kids
    have hroom := BT.room
    have hrow := BT.row
    subst hwp hwc hkp
    have hb6 := kys_bd c
    obtain ⟨q0, hq0⟩ : ∃ q0, (kys c).length = q0 := ⟨_, rfl⟩
    have HQ := Lib.hid hq0
    rw [hq0] at hb6 hroom ⊢
    obtain ⟨hq3, hq6⟩ := hb6
    obtain ⟨nmC, hnmC⟩ : ∃ nmC, calN = nmC := ⟨_, rfl⟩
    have HN := Lib.hid hnmC
    rw [hnmC]
    have C2 := (C1.kept hb2).alloc (.cells #[.string nmC, .int .i64 100, .slice (some ⟨gw, 0, none⟩) 1 1, .bool true, .slice (some ⟨g, 0, none⟩) q0 kc] 25)
    have B2 := balloc (bthen B1 hb2) (.cells #[.string nmC, .int .i64 100, .slice (some ⟨gw, 0, none⟩) 1 1, .bool true, .slice (some ⟨g, 0, none⟩) q0 kc] 25)
    have Y2 := Blk.at_ (W := W2) (T := 25) (c := #[.string nmC, .int .i64 100, .slice (some ⟨gw, 0, none⟩) 1 1, .bool true, .slice (some ⟨g, 0, none⟩) q0 kc]) rfl
    have hW2 := hW.kept (balloc (Below.refl _ _) (.cells #[.string nmC, .int .i64 100, .slice (some ⟨gw, 0, none⟩) 1 1, .bool true, .slice (some ⟨g, 0, none⟩) q0 kc] 25))
    have hR2 := hrow.kept (balloc (Below.refl _ _) (.cells #[.string nmC, .int .i64 100, .slice (some ⟨gw, 0, none⟩) 1 1, .bool true, .slice (some ⟨g, 0, none⟩) q0 kc] 25))
    have hlo2 : w.heap.size < W2.heap.size := Nat.lt_of_lt_of_le C1.lt hb2.size
    clear k0 k1 k2 k3 k4 k5 k6 k7 k8 k9 k10 k11 k12 k13 C1 B1 hb2 cn hq0 hnmC BT hW hrow
    go_upto_region 6 with fail
    obtain ⟨nb, hnb⟩ : ∃ nb, W2.heap.size = nb := ⟨_, rfl⟩
    rw [hnb] at Y2 hlo2 ⊢
    have lo := Nat.le_of_lt hlo2
    clear hnb
    generalize W2.alloc (.cells #[.string nmC, .int .i64 100, .slice (some ⟨gw, 0, none⟩) 1 1, .bool true, .slice (some ⟨g, 0, none⟩) q0 kc] 25) = W3 at *
    obtain ⟨kn, ekn, lkn⟩ : ∃ kn : Nat, a1.tmod (q0 : Int) = kn ∧ kn < q0 := by
      have e : a1.tmod (q0 : Int) = a1 % (q0 : Int) := Int.tmod_eq_emod_of_nonneg h8.1
      have p1 := Int.emod_nonneg a1 (show (q0 : Int) ≠ 0 by omega)
      have p2 := Int.emod_lt_of_pos a1 (show (0 : Int) < (q0 : Int) by omega)
      exact ⟨(a1 % (q0 : Int)).toNat, by rw [e]; omega, by omega⟩
    have wa : IntKind.i64.wrap a1 = a1 := IntWalk.i64_in _ (by omega)
    have wk : IntKind.i64.wrap ((kn : Int)) = kn := IntWalk.i64_in _ (by omega)
    have nz : ((q0 : Int) == 0) = false := beq_eq_false_iff_ne.2 (by omega)
    have nz2 : ¬ (q0 : Int) = 0 := by omega
    have nz3 : ¬ q0 = 0 := by omega
    have y4 : W3.cell? ⟨nb, 4, none⟩ = some (.slice (some ⟨g, 0, none⟩) q0 kc) := Y2.cell 4
    have zY := Y2.lt
    obtain ⟨xs, K3, hxl, hx3⟩ := hR2.get
    have HX := Lib.hid hx3
    have HK := Lib.hid K3
    have zG := hR2.lt
    have X0 : KeyRow W3 W3 (.slice none 0 0) ((trn c kn 0).map (kyA c)) := ⟨[], OneC.start 25 5 W3 (Below.refl _ _), rfl⟩
    have wq : IntKind.i64.wrap ((kn : Int) + q0) = (kn : Int) + q0 := IntWalk.i64_in _ (by omega)
    clear hx3 K3 hxl
    go_wp2_with fail
    go_loopw [9, 38] (fun V I wr => ∃ i : Nat, i ≤ q0 ∧ I = .int .i64 i ∧ KeyRow W3 wr V ((trn c kn i).map (kyA c))) (fun _ I _ => q0 - (intOf I).toNat)
    case atStart => exact ⟨0, by omega, rfl, X0⟩
    case round =>
      clear X0
      obtain ⟨i, hi, rfl, X⟩ := hrel
      have B3 := X.below
      have y4r : wr.cell? ⟨nb, 4, none⟩ = some (.slice (some ⟨g, 0, none⟩) q0 kc) := (B3.cell (p := ⟨nb, 4, none⟩) zY).trans y4
      have zYr := Nat.lt_of_lt_of_le zY B3.size
      by_cases hlt : i < q0
      · obtain ⟨t, ht, lt_⟩ : ∃ t, sg kn q0 i = t ∧ t < q0 := ⟨_, rfl, Nat.mod_lt _ (by omega)⟩
        have et : ((kn : Int) + q0 - i).tmod (q0 : Int) = (t : Int) := by
          rw [Int.tmod_eq_emod_of_nonneg (by omega), ← ht, show ((kn : Int) + q0 - i) = ((kn + q0 - i : Nat) : Int) by omega]
          rfl
        have wi : IntKind.i64.wrap ((kn : Int) + q0 - i) = (kn : Int) + q0 - i := IntWalk.i64_in _ (by omega)
        have wt : IntKind.i64.wrap ((t : Int)) = t := IntWalk.i64_in _ (by omega)
        have htl : t < ((nk c).map (kyA c)).length := by rw [List.length_map, nk_len, HQ.out]; exact lt_
        obtain ⟨s, a, gx, m, wx, KV, r0, r1, r2, r3, r4⟩ := keysV_nth t htl HK.out
        have KVr : KeyV W3.heap.size wr (kyA c ((nk c).getD (sg kn (kys c).length i) (0, 0))) [.string s, .int .i64 a, .slice (some ⟨gx, 0, none⟩) m wx, .bool false, .slice none 0 0] := by
          have e : ((nk c).map (kyA c))[t] = kyA c ((nk c).getD (sg kn (kys c).length i) (0, 0)) := by
            rw [HQ.out, ht, List.getElem_map]
            congr 1
            have h2 : t < (nk c).length := by rw [nk_len, HQ.out]; exact lt_
            simp [List.getD, h2]
          rw [← e]
          exact KeyV_any (KV.keep (WKeep.below B3))
        have c0 := (B3.cell (p := ⟨g, _, none⟩) zG).trans (HX.out _ _ r0)
        have c1 := (B3.cell (p := ⟨g, _, none⟩) zG).trans (HX.out _ _ r1)
        have c2 := (B3.cell (p := ⟨g, _, none⟩) zG).trans (HX.out _ _ r2)
        have c3 := (B3.cell (p := ⟨g, _, none⟩) zG).trans (HX.out _ _ r3)
        have c4 := (B3.cell (p := ⟨g, _, none⟩) zG).trans (HX.out _ _ r4)
        have zGr := Nat.lt_of_lt_of_le zG B3.size
        have l0 : (0 : Int) ≤ t := by omega
        have l1 : (t : Int) < q0 := by omega
        have hlen : ((trn c kn i).map (kyA c)).length ≤ 100 := by rw [trn_len]; omega
        obtain ⟨vp, vc, rfl⟩ := X.form
        rw [trn_len] at X ⊢
        clear r0 r1 r2 r3 r4 KV htl
        go_upto_region 14 with fail
        go_region_law (first
          | (refine step_key (w := W3) (V := .slice vp i vc) (l := (trn c kn i).map (kyA c)) (n1 := kyA c ((nk c).getD (sg kn (kys c).length i) (0, 0))) (c := #[.string s, .int .i64 a, .slice (some ⟨gx, 0, none⟩) m wx, .bool false, .slice none 0 0]) (.tmp 41) (.tmp 53) ?_ ?_ wr.heap.size ?_ ?_ hlen ?_ ?_ ?_ ?_; (focus rfl); (focus rfl); (focus (first | rfl | (simp [Act.eval, Act.put]; done))); (focus (first | rfl | (simp [Act.eval, Act.put]; done))); (focus (refine X.kept ?_; repeat (first | (with_reducible assumption) | (with_reducible exact Below.refl _ _) | (with_reducible refine Below.drew ?_) | (with_reducible refine bdrewN ?_ _) | (with_reducible refine balloc ?_ _)))); (focus (repeat (first | (with_reducible assumption) | (with_reducible exact Blk.at_ rfl) | (with_reducible exact Blk.at_ (by simp)) | (with_reducible refine blk_drew ?_) | (with_reducible refine blk_drewN _ ?_) | (with_reducible refine blk_alloc ?_)))); (focus (refine KVr.kept ?_; repeat (first | (with_reducible assumption) | (with_reducible exact Below.refl _ _) | (with_reducible refine Below.drew ?_) | (with_reducible refine bdrewN ?_ _) | (with_reducible refine balloc ?_ _)))); intro v9 w9 X9)
          | fail)
        all_goals go_wp2_with fail
        all_goals go_roundw
        all_goals
          first
            | (case rel => exact ⟨i + 1, by omega, by go_num, by rw [trn_next]; exact X9⟩)
            | skip
        all_goals
          first
            | (case measure => simp [intOf]; omega)
            | skip
      · have hiq : q0 = i := by omega
        subst hiq
        obtain ⟨vp, vc, rfl⟩ := X.form
        have hlen := trn_len c kn q0
        have b3w : Below w.heap.size w wr := B2.trans (B3.mono B2.size)
        have f4 : wr.frozen? ⟨nb, 4, none⟩ = false := (Y2.kept B3).frz 4
        have NO := node_row (a := 100) zY Y2 X (by rw [hlen]; omega) (by rw [hlen]; omega) (kids_wf c _) hm (by decide) hW2 (.slice vp ((trn c kn q0).map (kyA c)).length vc)
        have Y5 : Blk (wr.setCell ⟨nb, 4, none⟩ (.slice vp ((trn c kn q0).map (kyA c)).length vc)) nb 25 #[.string nmC, .int .i64 100, .slice (some ⟨gw, 0, none⟩) 1 1, .bool true, .slice vp ((trn c kn q0).map (kyA c)).length vc] := blk_put (Y2.kept B3) _
        have C5 := (C2.kept B3).other (g := nb) 4 (.slice vp ((trn c kn q0).map (kyA c)).length vc) (by omega)
        have b5 : Below w.heap.size w (wr.setCell ⟨nb, 4, none⟩ (.slice vp ((trn c kn q0).map (kyA c)).length vc)) := b3w.setCell (by simpa using lo) _
        rw [hlen] at Y5 C5 b5 NO ⊢
        go_upto_region 17 with fail
        generalize wr.setCell ⟨nb, 4, none⟩ (.slice vp q0 vc) = W5 at NO b5 Y5 C5 ⊢
        have cr : Calls Tryz.prog 13 #[.agg #[.string nmC, .int .i64 100, .slice (some ⟨gw, 0, none⟩) 1 1, .bool true, .slice vp q0 vc]] W5 fun e w' => e = .returned (.tuple #[.agg #[.string c.nm, .int .i64 c.k, .int .i64 c.d, .int .i64 c.m, .int .i64 c.s, .int .i64 c.sh, .int .i64 c.p0, .int .i64 c.p1, .int .i64 c.p2, .int .i64 c.cy, .int .i64 c.ex, .int .i64 c.fi, .int .i64 c.la, .int .i64 c.po], .int .i64 0, .int .i64 0]) ∧ Below W5.heap.size W5 w' := by
          have hh := order_read ok (k := kn) (by rw [HQ.out]; exact lkn) 100
          rw [HQ.out] at hh
          have NO' : NodeOf W5 calN 100 (some ⟨gw, 0, none⟩) 1 1 true vp ((trn c kn q0).map (kyA c)).length vc [wd c.nm] ((trn c kn q0).map (kyA c)) := by rw [hlen]; exact NO
          have h := Read_any calN 100 (some ⟨gw, 0, none⟩) 1 true vp vc [wd c.nm] ((trn c kn q0).map (kyA c)) W5 (c, 0, 0) NO' (by rw [kids_cnt]; simp [trn]; omega) (by rw [hlen]; omega) (hT.out.n.kept b5) (hT.out.p.kept b5) (Lib.hid hh)
          rw [hlen, HN.out] at h
          exact h
        have q : ∀ w, (binOp .eql 30 (.agg #[.string c.nm, .int .i64 c.k, .int .i64 c.d, .int .i64 c.m, .int .i64 c.s, .int .i64 c.sh, .int .i64 c.p0, .int .i64 c.p1, .int .i64 c.p2, .int .i64 c.cy, .int .i64 c.ex, .int .i64 c.fi, .int .i64 c.la, .int .i64 c.po]) (.agg #[.string c.nm, .int .i64 c.k, .int .i64 c.d, .int .i64 c.m, .int .i64 c.s, .int .i64 c.sh, .int .i64 c.p0, .int .i64 c.p1, .int .i64 c.p2, .int .i64 c.cy, .int .i64 c.ex, .int .i64 c.fi, .int .i64 c.la, .int .i64 c.po])).run Tryz.prog w = .ok (.bool true) w := fun w => by
          have := cal_eql c c rfl w
          rwa [decide_eq_true (show CalSame c c from ⟨rfl, rfl, rfl, rfl, rfl, rfl, rfl, rfl, rfl, rfl, rfl, rfl, rfl⟩)] at this
        have x0 : W5.cell? ⟨nb, 0, none⟩ = some (.string nmC) := Y5.cell 0
        have x1 : W5.cell? ⟨nb, 1, none⟩ = some (.int .i64 100) := Y5.cell 1
        have x2 : W5.cell? ⟨nb, 2, none⟩ = some (.slice (some ⟨gw, 0, none⟩) 1 1) := Y5.cell 2
        have x3 : W5.cell? ⟨nb, 3, none⟩ = some (.bool true) := Y5.cell 3
        have x4 : W5.cell? ⟨nb, 4, none⟩ = some (.slice vp q0 vc) := Y5.cell 4
        have x5 := Y5.lt
        clear NO X Y2 hW2 hR2 y4 y4r f4 C2 HX HK B3 b3w
        go_wp2_with fail
        refine cr.mono ?_
        rintro e W6 ⟨rfl, hb6⟩
        have C6 := (C5.kept hb6).alloc (.cells #[.string c.nm, .int .i64 c.k, .int .i64 c.d, .int .i64 c.m, .int .i64 c.s, .int .i64 c.sh, .int .i64 c.p0, .int .i64 c.p1, .int .i64 c.p2, .int .i64 c.cy, .int .i64 c.ex, .int .i64 c.fi, .int .i64 c.la, .int .i64 c.po] 30)
        have D6 := Box.new W6 #[.string c.nm, .int .i64 c.k, .int .i64 c.d, .int .i64 c.m, .int .i64 c.s, .int .i64 c.sh, .int .i64 c.p0, .int .i64 c.p1, .int .i64 c.p2, .int .i64 c.cy, .int .i64 c.ex, .int .i64 c.fi, .int .i64 c.la, .int .i64 c.po] 30
        have b6 := balloc (bthen b5 hb6) (.cells #[.string c.nm, .int .i64 c.k, .int .i64 c.d, .int .i64 c.m, .int .i64 c.s, .int .i64 c.sh, .int .i64 c.p0, .int .i64 c.p1, .int .i64 c.p2, .int .i64 c.cy, .int .i64 c.ex, .int .i64 c.fi, .int .i64 c.la, .int .i64 c.po] 30)
        clear x0 x1 x2 x3 x4 x5 cr C5 b5 hb6 Y5
        go_upto_region 18 with fail
        obtain ⟨db, hdb⟩ : ∃ db, W6.heap.size = db := ⟨_, rfl⟩
        rw [hdb] at D6 ⊢
        clear hdb
        generalize W6.alloc (.cells #[.string c.nm, .int .i64 c.k, .int .i64 c.d, .int .i64 c.m, .int .i64 c.s, .int .i64 c.sh, .int .i64 c.p0, .int .i64 c.p1, .int .i64 c.p2, .int .i64 c.cy, .int .i64 c.ex, .int .i64 c.fi, .int .i64 c.la, .int .i64 c.po] 30) = W7 at *
        have k0 : W7.cell? ⟨w.heap.size, 0, none⟩ = some (.string c.nm) := C6.cell 0 _ rfl
        have k1 : W7.cell? ⟨w.heap.size, 1, none⟩ = some (.int .i64 c.k) := C6.cell 1 _ rfl
        have k2 : W7.cell? ⟨w.heap.size, 2, none⟩ = some (.int .i64 c.d) := C6.cell 2 _ rfl
        have k3 : W7.cell? ⟨w.heap.size, 3, none⟩ = some (.int .i64 c.m) := C6.cell 3 _ rfl
        have k4 : W7.cell? ⟨w.heap.size, 4, none⟩ = some (.int .i64 c.s) := C6.cell 4 _ rfl
        have k5 : W7.cell? ⟨w.heap.size, 5, none⟩ = some (.int .i64 c.sh) := C6.cell 5 _ rfl
        have k6 : W7.cell? ⟨w.heap.size, 6, none⟩ = some (.int .i64 c.p0) := C6.cell 6 _ rfl
        have k7 : W7.cell? ⟨w.heap.size, 7, none⟩ = some (.int .i64 c.p1) := C6.cell 7 _ rfl
        have k8 : W7.cell? ⟨w.heap.size, 8, none⟩ = some (.int .i64 c.p2) := C6.cell 8 _ rfl
        have k9 : W7.cell? ⟨w.heap.size, 9, none⟩ = some (.int .i64 c.cy) := C6.cell 9 _ rfl
        have k10 : W7.cell? ⟨w.heap.size, 10, none⟩ = some (.int .i64 c.ex) := C6.cell 10 _ rfl
        have k11 : W7.cell? ⟨w.heap.size, 11, none⟩ = some (.int .i64 c.fi) := C6.cell 11 _ rfl
        have k12 : W7.cell? ⟨w.heap.size, 12, none⟩ = some (.int .i64 c.la) := C6.cell 12 _ rfl
        have k13 : W7.cell? ⟨w.heap.size, 13, none⟩ = some (.int .i64 c.po) := C6.cell 13 _ rfl
        have j0 : W7.cell? ⟨db, 0, none⟩ = some (.string c.nm) := D6.cell 0 _ rfl
        have j1 : W7.cell? ⟨db, 1, none⟩ = some (.int .i64 c.k) := D6.cell 1 _ rfl
        have j2 : W7.cell? ⟨db, 2, none⟩ = some (.int .i64 c.d) := D6.cell 2 _ rfl
        have j3 : W7.cell? ⟨db, 3, none⟩ = some (.int .i64 c.m) := D6.cell 3 _ rfl
        have j4 : W7.cell? ⟨db, 4, none⟩ = some (.int .i64 c.s) := D6.cell 4 _ rfl
        have j5 : W7.cell? ⟨db, 5, none⟩ = some (.int .i64 c.sh) := D6.cell 5 _ rfl
        have j6 : W7.cell? ⟨db, 6, none⟩ = some (.int .i64 c.p0) := D6.cell 6 _ rfl
        have j7 : W7.cell? ⟨db, 7, none⟩ = some (.int .i64 c.p1) := D6.cell 7 _ rfl
        have j8 : W7.cell? ⟨db, 8, none⟩ = some (.int .i64 c.p2) := D6.cell 8 _ rfl
        have j9 : W7.cell? ⟨db, 9, none⟩ = some (.int .i64 c.cy) := D6.cell 9 _ rfl
        have j10 : W7.cell? ⟨db, 10, none⟩ = some (.int .i64 c.ex) := D6.cell 10 _ rfl
        have j11 : W7.cell? ⟨db, 11, none⟩ = some (.int .i64 c.fi) := D6.cell 11 _ rfl
        have j12 : W7.cell? ⟨db, 12, none⟩ = some (.int .i64 c.la) := D6.cell 12 _ rfl
        have j13 : W7.cell? ⟨db, 13, none⟩ = some (.int .i64 c.po) := D6.cell 13 _ rfl
        go_wp2_with fail
        go_ret
        exact ⟨rfl, b6⟩

end Go.Proofs.YtnjmokmlnpehdaaGreatDoor.Fl
