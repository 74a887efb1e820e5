/- FieldMiss, walked. -/
import Derived.Test.YtnjmokmlnpehdaaGreatDoorFrow
import Derived.Deep.RegionLaw
import Derived.BigRegion
namespace Go.Proofs.YtnjmokmlnpehdaaGreatDoor.Fl
set_option linter.unusedSimpArgs false
set_option linter.unusedVariables false
open Go Go.RowKit Go.Proofs.YtnjmokmlnpehdaaGreatDoor Go.Proofs.YtnjmokmlnpehdaaGreatDoor.Am Go.Proofs.YtnjmokmlnpehdaaGreatDoor.Bn Go.Proofs.YtnjmokmlnpehdaaGreatDoor.Zp Go.Proofs.YtnjmokmlnpehdaaGreatDoor.Zk Go.Proofs.YtnjmokmlnpehdaaGreatDoor.Yg Go.Proofs.YtnjmokmlnpehdaaGreatDoor.Fm Go.Proofs.YtnjmokmlnpehdaaGreatDoor.Fp Go.Proofs.YtnjmokmlnpehdaaGreatDoor.Fn Go.Proofs.YtnjmokmlnpehdaaGreatDoor.Fs

set_option maxHeartbeats 8000000

set_option maxRecDepth 100000 in
theorem fmiss_walk (c : CalZ) (a1 : Int) (w : World) (hw : CalWf c) (h8 : (Lit.int .u8 a1).wf = true) (tb : NTabs w) :
    Calls Tryz.prog 8 #[.agg #[.string c.nm, .int .i64 c.k, .int .i64 c.d, .int .i64 c.m, .int .i64 c.s, .int .i64 c.sh, .int .i64 c.p0, .int .i64 c.p1, .int .i64 c.p2, .int .i64 c.cy, .int .i64 c.ex, .int .i64 c.fi, .int .i64 c.la, .int .i64 c.po], .int .u8 a1] w fun e w' => e = .returned (.bool true) ∧ Below w.heap.size w w' := by
  have h8 := u8_bd h8
  have cl := flive_ok
  have hm := hw.1
  have hT := Lib.hid tb
  have C := Box.new w #[.string c.nm, .int .i64 c.k, .int .i64 c.d, .int .i64 c.m, .int .i64 c.s, .int .i64 c.sh, .int .i64 c.p0, .int .i64 c.p1, .int .i64 c.p2, .int .i64 c.cy, .int .i64 c.ex, .int .i64 c.fi, .int .i64 c.la, .int .i64 c.po] 30
  have B0 := balloc (Below.refl _ w) (.cells #[.string c.nm, .int .i64 c.k, .int .i64 c.d, .int .i64 c.m, .int .i64 c.s, .int .i64 c.sh, .int .i64 c.p0, .int .i64 c.p1, .int .i64 c.p2, .int .i64 c.cy, .int .i64 c.ex, .int .i64 c.fi, .int .i64 c.la, .int .i64 c.po] 30)
  clear hw tb
  go_enter Tryz.func8, Tryz.ntmps8
  go_upto_region 1 with fail
  generalize w.alloc (.cells #[.string c.nm, .int .i64 c.k, .int .i64 c.d, .int .i64 c.m, .int .i64 c.s, .int .i64 c.sh, .int .i64 c.p0, .int .i64 c.p1, .int .i64 c.p2, .int .i64 c.cy, .int .i64 c.ex, .int .i64 c.fi, .int .i64 c.la, .int .i64 c.po] 30) = W0 at *
  go_wp2_with fail
  refine (cl _ ⟨hT.out.n.kept B0, hT.out.p.kept B0⟩).mono ?_
  rintro e W1 ⟨rfl, hb1⟩
  have C1 := C.kept hb1
  have B1 := bthen B0 hb1
  clear C B0 hb1 cl
  have k0 : W1.cell? ⟨w.heap.size, 0, none⟩ = some (.string c.nm) := C1.cell 0 _ rfl
  by_cases hlong : 100 < c.nm.size
  · have d1 : decide ((c.nm.size : Int) > 100) = true := decide_eq_true (by omega)
    have d2 : decide ((100 : Int) < (c.nm.size : Int)) = true := decide_eq_true (by omega)
    go_wp2_with fail
    go_ret
    exact ⟨rfl, B1⟩
  have d1 : decide ((c.nm.size : Int) > 100) = false := decide_eq_false (by omega)
  have d2 : decide ((100 : Int) < (c.nm.size : Int)) = false := decide_eq_false (by omega)
  have k1 : W1.cell? ⟨w.heap.size, 1, none⟩ = some (.int .i64 c.k) := C1.cell 1 _ rfl
  have k2 : W1.cell? ⟨w.heap.size, 2, none⟩ = some (.int .i64 c.d) := C1.cell 2 _ rfl
  have k3 : W1.cell? ⟨w.heap.size, 3, none⟩ = some (.int .i64 c.m) := C1.cell 3 _ rfl
  have k4 : W1.cell? ⟨w.heap.size, 4, none⟩ = some (.int .i64 c.s) := C1.cell 4 _ rfl
  have k5 : W1.cell? ⟨w.heap.size, 5, none⟩ = some (.int .i64 c.sh) := C1.cell 5 _ rfl
  have k6 : W1.cell? ⟨w.heap.size, 6, none⟩ = some (.int .i64 c.p0) := C1.cell 6 _ rfl
  have k7 : W1.cell? ⟨w.heap.size, 7, none⟩ = some (.int .i64 c.p1) := C1.cell 7 _ rfl
  have k8 : W1.cell? ⟨w.heap.size, 8, none⟩ = some (.int .i64 c.p2) := C1.cell 8 _ rfl
  have k9 : W1.cell? ⟨w.heap.size, 9, none⟩ = some (.int .i64 c.cy) := C1.cell 9 _ rfl
  have k10 : W1.cell? ⟨w.heap.size, 10, none⟩ = some (.int .i64 c.ex) := C1.cell 10 _ rfl
  have k11 : W1.cell? ⟨w.heap.size, 11, none⟩ = some (.int .i64 c.fi) := C1.cell 11 _ rfl
  have k12 : W1.cell? ⟨w.heap.size, 12, none⟩ = some (.int .i64 c.la) := C1.cell 12 _ rfl
  have k13 : W1.cell? ⟨w.heap.size, 13, none⟩ = some (.int .i64 c.po) := C1.cell 13 _ rfl
  by_cases ok : CalOk c
  case neg =>
    have cn := fun W T => block_no c W ok hm T
    have ck := fun W T => Go.Proofs.YtnjmokmlnpehdaaGreatDoor.Fp.Check_any c 1 W (.inr ⟨ok, rfl⟩) hm T
    go_wp2_with fail
    refine (cn _ (hT.out.n.kept B1)).mono ?_
    rintro e W2 ⟨rfl, hb2⟩
    have C2 := (C1.kept hb2).alloc (.cells #[.string ⟨#[]⟩, .int .i64 0, .slice none 0 0, .bool false, .slice none 0 0] 25)
    have B2 := balloc (bthen B1 hb2) (.cells #[.string ⟨#[]⟩, .int .i64 0, .slice none 0 0, .bool false, .slice none 0 0] 25)
    clear k0 k1 k2 k3 k4 k5 k6 k7 k8 k9 k10 k11 k12 k13 C1 B1 hb2 cn
    go_upto_region 6 with fail
    generalize W2.alloc (.cells #[.string ⟨#[]⟩, .int .i64 0, .slice none 0 0, .bool false, .slice none 0 0] 25) = W3 at *
    have k0 : W3.cell? ⟨w.heap.size, 0, none⟩ = some (.string c.nm) := C2.cell 0 _ rfl
    have k1 : W3.cell? ⟨w.heap.size, 1, none⟩ = some (.int .i64 c.k) := C2.cell 1 _ rfl
    have k2 : W3.cell? ⟨w.heap.size, 2, none⟩ = some (.int .i64 c.d) := C2.cell 2 _ rfl
    have k3 : W3.cell? ⟨w.heap.size, 3, none⟩ = some (.int .i64 c.m) := C2.cell 3 _ rfl
    have k4 : W3.cell? ⟨w.heap.size, 4, none⟩ = some (.int .i64 c.s) := C2.cell 4 _ rfl
    have k5 : W3.cell? ⟨w.heap.size, 5, none⟩ = some (.int .i64 c.sh) := C2.cell 5 _ rfl
    have k6 : W3.cell? ⟨w.heap.size, 6, none⟩ = some (.int .i64 c.p0) := C2.cell 6 _ rfl
    have k7 : W3.cell? ⟨w.heap.size, 7, none⟩ = some (.int .i64 c.p1) := C2.cell 7 _ rfl
    have k8 : W3.cell? ⟨w.heap.size, 8, none⟩ = some (.int .i64 c.p2) := C2.cell 8 _ rfl
    have k9 : W3.cell? ⟨w.heap.size, 9, none⟩ = some (.int .i64 c.cy) := C2.cell 9 _ rfl
    have k10 : W3.cell? ⟨w.heap.size, 10, none⟩ = some (.int .i64 c.ex) := C2.cell 10 _ rfl
    have k11 : W3.cell? ⟨w.heap.size, 11, none⟩ = some (.int .i64 c.fi) := C2.cell 11 _ rfl
    have k12 : W3.cell? ⟨w.heap.size, 12, none⟩ = some (.int .i64 c.la) := C2.cell 12 _ rfl
    have k13 : W3.cell? ⟨w.heap.size, 13, none⟩ = some (.int .i64 c.po) := C2.cell 13 _ rfl
    have T3 := (hT.out.n.kept B2).f
    go_wp2_with fail
    refine (ck _ T3).mono ?_
    rintro e W4 ⟨rfl, hb4⟩
    go_wp2_with fail
    go_ret
    exact ⟨rfl, bthen B2 hb4⟩
  case pos =>
    have cn := fun W T => block_ok c W ok hm T
    go_wp2_with fail
    refine (cn _ (hT.out.n.kept B1)).mono ?_
    rintro e W2 ⟨wp, wc, kp, kc, g, rfl, hb2, BT⟩
    obtain ⟨gw, hwp, hwc, hW⟩ := BT.word
    have hkp := BT.kids
    have hroom := BT.room
    have hrow := BT.row
    subst hwp hwc hkp
    have hb6 := kys_bd c
    obtain ⟨q0, hq0⟩ : ∃ q0, (kys c).length = q0 := ⟨_, rfl⟩
    have HQ := Lib.hid hq0
    rw [hq0] at hb6 hroom ⊢
    obtain ⟨hq3, hq6⟩ := hb6
    obtain ⟨nmC, hnmC⟩ : ∃ nmC, calN = nmC := ⟨_, rfl⟩
    have HN := Lib.hid hnmC
    rw [hnmC]
    have C2 := (C1.kept hb2).alloc (.cells #[.string nmC, .int .i64 100, .slice (some ⟨gw, 0, none⟩) 1 1, .bool true, .slice (some ⟨g, 0, none⟩) q0 kc] 25)
    have B2 := balloc (bthen B1 hb2) (.cells #[.string nmC, .int .i64 100, .slice (some ⟨gw, 0, none⟩) 1 1, .bool true, .slice (some ⟨g, 0, none⟩) q0 kc] 25)
    have Y2 := Blk.at_ (W := W2) (T := 25) (c := #[.string nmC, .int .i64 100, .slice (some ⟨gw, 0, none⟩) 1 1, .bool true, .slice (some ⟨g, 0, none⟩) q0 kc]) rfl
    have hW2 := hW.kept (balloc (Below.refl _ _) (.cells #[.string nmC, .int .i64 100, .slice (some ⟨gw, 0, none⟩) 1 1, .bool true, .slice (some ⟨g, 0, none⟩) q0 kc] 25))
    have hR2 := hrow.kept (balloc (Below.refl _ _) (.cells #[.string nmC, .int .i64 100, .slice (some ⟨gw, 0, none⟩) 1 1, .bool true, .slice (some ⟨g, 0, none⟩) q0 kc] 25))
    clear k0 k1 k2 k3 k4 k5 k6 k7 k8 k9 k10 k11 k12 k13 C1 B1 hb2 cn hq0 hnmC BT hW hrow
    go_upto_region 6 with fail
    obtain ⟨nb, hnb⟩ : ∃ nb, W2.heap.size = nb := ⟨_, rfl⟩
    have lo : w.heap.size ≤ nb := by have := C2.lt; simp at this; omega
    rw [hnb] at Y2 ⊢
    clear hnb
    generalize W2.alloc (.cells #[.string nmC, .int .i64 100, .slice (some ⟨gw, 0, none⟩) 1 1, .bool true, .slice (some ⟨g, 0, none⟩) q0 kc] 25) = W3 at *
    obtain ⟨kn, ekn, lkn⟩ : ∃ kn : Nat, a1.tmod (q0 : Int) = kn ∧ kn < q0 := by
      have e : a1.tmod (q0 : Int) = a1 % (q0 : Int) := Int.tmod_eq_emod_of_nonneg h8.1
      have p1 := Int.emod_nonneg a1 (show (q0 : Int) ≠ 0 by omega)
      have p2 := Int.emod_lt_of_pos a1 (show (0 : Int) < (q0 : Int) by omega)
      exact ⟨(a1 % (q0 : Int)).toNat, by rw [e]; omega, by omega⟩
    have wa : IntKind.i64.wrap a1 = a1 := IntWalk.i64_in _ (by omega)
    have wk : IntKind.i64.wrap ((kn : Int)) = kn := IntWalk.i64_in _ (by omega)
    have nz : ((q0 : Int) == 0) = false := beq_eq_false_iff_ne.2 (by omega)
    have nz2 : ¬ (q0 : Int) = 0 := by omega
    have y4 : W3.cell? ⟨nb, 4, none⟩ = some (.slice (some ⟨g, 0, none⟩) q0 kc) := Y2.cell 4
    have zY := Y2.lt
    obtain ⟨xs, K3, hxl, hx3⟩ := hR2.get
    have hnl : ((nk c).map (kyA c)).length = q0 := by rw [List.length_map, nk_len]; exact HQ.out
    rw [hnl] at hxl
    have hsp1 := keysV_split (((nk c).take kn).map (kyA c)) (((nk c).drop kn).map (kyA c)) xs (by rw [← List.map_append, List.take_append_drop]; exact K3)
    have hsp2 := keysV_split (((nk c).take (kn + 1)).map (kyA c)) (((nk c).drop (kn + 1)).map (kyA c)) xs (by rw [← List.map_append, List.take_append_drop]; exact K3)
    have hl1 : (((nk c).take kn).map (kyA c)).length = kn := by rw [List.length_map, List.length_take, nk_len, HQ.out]; omega
    have hl2 : (((nk c).take (kn + 1)).map (kyA c)).length = kn + 1 := by rw [List.length_map, List.length_take, nk_len, HQ.out]; omega
    have hl3 : (((nk c).drop (kn + 1)).map (kyA c)).length = q0 - (kn + 1) := by rw [List.length_map, List.length_drop, nk_len, HQ.out]
    rw [hl1] at hsp1
    rw [hl2] at hsp2
    have KA := Lib.hid hsp1.1
    have KB := Lib.hid hsp2.2.1
    have hA1 : (xs.take (kn * 5)).length = kn * 5 := by rw [List.length_take, hxl]; omega
    have hB1 : (xs.drop ((kn + 1) * 5)).length = (q0 - (kn + 1)) * 5 := by rw [List.length_drop, hxl]; omega
    have hA2 : Hid (∀ u ∈ xs.take (kn * 5), u.oneCell' = true) := Lib.hid (keysV_one hsp1.1)
    have hB2 : Hid (∀ u ∈ xs.drop ((kn + 1) * 5), u.oneCell' = true) := Lib.hid (keysV_one hsp2.2.1)
    have hA3 : Hid (∀ W, Below W3.heap.size W3 W → ∀ (j : Nat) (u : Value), (xs.take (kn * 5))[j]? = some u → W.cell? ((⟨g, 0, none⟩ : Addr).add j) = some u) := Lib.hid (fun W hB j u hj => by
      rw [add_zero_, hB.cell (p := ⟨g, j, none⟩) hR2.lt]
      rw [List.getElem?_take] at hj
      split at hj
      · exact hx3 j u hj
      · cases hj)
    have hB3 : Hid (∀ W, Below W3.heap.size W3 W → ∀ (j : Nat) (u : Value), (xs.drop ((kn + 1) * 5))[j]? = some u → W.cell? ((⟨g, (kn + 1) * 5, none⟩ : Addr).add j) = some u) := Lib.hid (fun W hB j u hj => by
      rw [Go.WideShapes.add_plain, hB.cell (p := ⟨g, _, none⟩) hR2.lt]
      rw [List.getElem?_drop] at hj
      exact hx3 _ u hj)
    obtain ⟨k1, hk1⟩ : ∃ k1 : Nat, kn + 1 = k1 := ⟨_, rfl⟩
    have wk1 : IntKind.i64.wrap ((kn : Int) + 1) = (k1 : Int) := by rw [← hk1, IntWalk.i64_in _ (by omega)]; rfl
    have HK1 := Lib.hid hk1
    have p1 : (0 : Int) ≤ kn := by omega
    have p2 : (kn : Int) ≤ q0 := by omega
    have p3 : (0 : Int) ≤ k1 := by omega
    have p4 : (k1 : Int) ≤ q0 := by omega
    have p5 : (kn : Int) ≤ kc := by omega
    have p6 : (q0 : Int) ≤ kc := by omega
    have p7 : kn ≤ kc := by omega
    have p8 : k1 ≤ q0 := by omega
    have p9 : q0 ≤ kc := hroom
    have f4 : W3.frozen? ⟨nb, 4, none⟩ = false := Y2.frz 4
    rw [hk1] at hB1 hB2 hB3 KB
    obtain ⟨AD, hAD, hB4⟩ : ∃ AD : Addr, (if kc = k1 then some (⟨g, 0, none⟩ : Addr) else some ⟨g, k1 * 5, none⟩) = some AD ∧ Hid (∀ W, Below W3.heap.size W3 W → ∀ (j : Nat) (u : Value), (xs.drop (k1 * 5))[j]? = some u → W.cell? (AD.add j) = some u) := by
      by_cases q : kc = k1
      · refine ⟨⟨g, 0, none⟩, if_pos q, Lib.hid (fun W hB j u hj => ?_)⟩
        have h1 := (List.getElem?_eq_some_iff.1 hj).1
        rw [hB1] at h1
        have : q0 - k1 = 0 := by omega
        rw [this] at h1
        omega
      · exact ⟨_, if_neg q, hB3⟩
    clear K3 hsp1 hsp2 hl1 hl2 hl3 hnl hxl hx3 hk1 hB3
    go_upto_region 9 with fail
    go_region_law (first
      | (refine step_one (w := W3) (V := .slice none 0 0) (n := 0) (m := kn) (xs := []) (ys := xs.take (kn * 5)) (ad := ⟨g, 0, none⟩) (cp := kc) (.const (.slice none 0 0)) (.tmp 36) ?_ ?_ ?_ ?_ (OneC.start 25 5 W3 ?_) hA1 hA2.out (hA3.out _ ?_) ?_ ?_; (focus rfl); (focus rfl); (focus rfl); (focus (simp [Act.eval, Act.put, hAD]; done)); (focus (repeat (first | (with_reducible assumption) | (with_reducible exact Below.refl _ _) | (with_reducible refine Below.drew ?_) | (with_reducible refine bdrewN ?_ _)))); (focus (repeat (first | (with_reducible assumption) | (with_reducible exact Below.refl _ _) | (with_reducible refine Below.drew ?_) | (with_reducible refine bdrewN ?_ _)))); (focus omega); intro vA wA XA; have bA := XA.below; have y4A : wA.cell? ⟨nb, 4, none⟩ = some (.slice (some ⟨g, 0, none⟩) q0 kc) := (XA.below.cell (p := ⟨nb, 4, none⟩) zY).trans y4)
      | (refine step_one (w := W3) (V := vA) (n := 0 + kn) (m := q0 - k1) (xs := [] ++ xs.take (kn * 5)) (ys := xs.drop (k1 * 5)) (ad := AD) (cp := kc - k1) (.tmp 37) (.tmp 42) ?_ ?_ ?_ ?_ XA hB1 hB2.out (hB4.out _ ?_) ?_ ?_; (focus rfl); (focus rfl); (focus (first | rfl | (simp [Act.eval, Act.put]; done))); (focus (simp [Act.eval, Act.put, hAD]; done)); (focus (repeat (first | (with_reducible assumption) | (with_reducible exact Below.refl _ _) | (with_reducible refine Below.drew ?_) | (with_reducible refine bdrewN ?_ _)))); (focus omega); intro vB wB XB; obtain ⟨pB, cB, rfl⟩ := XB.form; have y4B : wB.cell? ⟨nb, 4, none⟩ = some (.slice (some ⟨g, 0, none⟩) q0 kc) := (XB.below.cell (p := ⟨nb, 4, none⟩) zY).trans y4; have f4B : wB.frozen? ⟨nb, 4, none⟩ = false := (XB.below.frozen (p := ⟨nb, 4, none⟩) zY).trans f4)
      | fail)
    all_goals
      have hk1' := HK1.out
      subst hk1'
      have KL := keysV_app KA.out KB.out
      rw [← List.map_append] at KL
      have hlen : (((nk c).take kn ++ (nk c).drop (kn + 1)).map (kyA c)).length = kn + (q0 - (kn + 1)) := by
        rw [List.length_map, List.length_append, List.length_take, List.length_drop, nk_len, HQ.out]
        omega
      have hnn : 0 + kn + (q0 - (kn + 1)) = kn + (q0 - (kn + 1)) := by omega
      rw [List.nil_append, hnn] at XB
      have NO := node_after (a := 100) zY Y2 XB KL (by omega) (by rw [hlen]; omega) (kids_wf c _) hm (by decide) hW2 (.slice pB (kn + (q0 - (kn + 1))) cB)
      have b5 : Below w.heap.size w (wB.setCell ⟨nb, 4, none⟩ (.slice pB (kn + (q0 - (kn + 1))) cB)) := (B2.trans (XB.below.mono B2.size)).setCell (by simpa using lo) _
      have Y5 : Blk (wB.setCell ⟨nb, 4, none⟩ (.slice pB (kn + (q0 - (kn + 1))) cB)) nb 25 #[.string nmC, .int .i64 100, .slice (some ⟨gw, 0, none⟩) 1 1, .bool true, .slice pB (kn + (q0 - (kn + 1))) cB] := blk_put (Y2.kept XB.below) _
      generalize wB.setCell ⟨nb, 4, none⟩ (.slice pB (kn + (q0 - (kn + 1))) cB) = W5 at NO b5 Y5 ⊢
      have cr : Calls Tryz.prog 13 #[.agg #[.string nmC, .int .i64 100, .slice (some ⟨gw, 0, none⟩) 1 1, .bool true, .slice pB (kn + (q0 - (kn + 1))) cB]] W5 fun e w' => e = .returned (.tuple #[.agg #[.string ⟨#[]⟩, .int .i64 0, .int .i64 0, .int .i64 0, .int .i64 0, .int .i64 0, .int .i64 0, .int .i64 0, .int .i64 0, .int .i64 0, .int .i64 0, .int .i64 0, .int .i64 0, .int .i64 0], .int .i64 100, .int .i64 10]) ∧ Below W5.heap.size W5 w' := by
        have h := Read_any calN 100 (some ⟨gw, 0, none⟩) 1 true pB cB [wd c.nm] (((nk c).take kn ++ (nk c).drop (kn + 1)).map (kyA c)) W5 (zeroC, 100, 10) NO (by rw [kids_cnt]; simp only [List.length_append, List.length_take, List.length_drop, nk_len, HQ.out]; omega) (by rw [hlen]; omega) (hT.out.n.kept b5) (hT.out.p.kept b5) (Lib.hid (miss_read ok (by rw [HQ.out]; exact lkn) 100))
        rw [hlen, HN.out] at h
        exact h
      have q : ∀ w, (binOp .eql 30 (.agg #[.string ⟨#[]⟩, .int .i64 0, .int .i64 0, .int .i64 0, .int .i64 0, .int .i64 0, .int .i64 0, .int .i64 0, .int .i64 0, .int .i64 0, .int .i64 0, .int .i64 0, .int .i64 0, .int .i64 0]) (.agg #[.string ⟨#[]⟩, .int .i64 0, .int .i64 0, .int .i64 0, .int .i64 0, .int .i64 0, .int .i64 0, .int .i64 0, .int .i64 0, .int .i64 0, .int .i64 0, .int .i64 0, .int .i64 0, .int .i64 0])).run Tryz.prog w = .ok (.bool true) w := fun w => by
        have := cal_eql zeroC zeroC rfl w
        simpa [zeroC, CalSame] using this
      have x0 : W5.cell? ⟨nb, 0, none⟩ = some (.string nmC) := Y5.cell 0
      have x1 : W5.cell? ⟨nb, 1, none⟩ = some (.int .i64 100) := Y5.cell 1
      have x2 : W5.cell? ⟨nb, 2, none⟩ = some (.slice (some ⟨gw, 0, none⟩) 1 1) := Y5.cell 2
      have x3 : W5.cell? ⟨nb, 3, none⟩ = some (.bool true) := Y5.cell 3
      have x4 : W5.cell? ⟨nb, 4, none⟩ = some (.slice pB (kn + (q0 - (kn + 1))) cB) := Y5.cell 4
      have x5 := Y5.lt
      clear KL hlen hnn NO XB XA y4A y4B f4B bA KA KB hA1 hA2 hA3 hB1 hB2 hB4 hAD Y2 hW2 hR2 y4 f4 C2
      go_wp2_with fail
      refine cr.mono ?_
      rintro e W6 ⟨rfl, hb6⟩
      clear x0 x1 x2 x3 x4 x5 cr
      go_wp2_with fail
      go_ret
      exact ⟨rfl, by first | exact balloc (bthen b5 hb6) _ | exact bthen b5 hb6⟩

end Go.Proofs.YtnjmokmlnpehdaaGreatDoor.Fl
