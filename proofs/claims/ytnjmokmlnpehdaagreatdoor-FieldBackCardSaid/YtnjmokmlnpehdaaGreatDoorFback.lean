/- FieldBack, walked. -/
import Derived.Test.YtnjmokmlnpehdaaGreatDoorFlive
import Derived.Test.YtnjmokmlnpehdaaGreatDoorFnode7
import Derived.Test.YtnjmokmlnpehdaaGreatDoorJFd
import Derived.Test.YtnjmokmlnpehdaaGreatDoorFcal
namespace Go.Proofs.YtnjmokmlnpehdaaGreatDoor.Fl
set_option linter.unusedSimpArgs false
set_option linter.unusedVariables false
open Go Go.RowKit Go.Proofs.YtnjmokmlnpehdaaGreatDoor Go.Proofs.YtnjmokmlnpehdaaGreatDoor.Am Go.Proofs.YtnjmokmlnpehdaaGreatDoor.Bn Go.Proofs.YtnjmokmlnpehdaaGreatDoor.Zp Go.Proofs.YtnjmokmlnpehdaaGreatDoor.Zk Go.Proofs.YtnjmokmlnpehdaaGreatDoor.Yg Go.Proofs.YtnjmokmlnpehdaaGreatDoor.Fm Go.Proofs.YtnjmokmlnpehdaaGreatDoor.Fp Go.Proofs.YtnjmokmlnpehdaaGreatDoor.Fn

set_option maxHeartbeats 8000000

theorem lft_flat : ∀ (l : List NI) (d : Nat) (M : Int), (∀ n ∈ l, n.ws.length ≤ 20 ∧ n.ks = []) → (l.length : Int) ≤ M → lft (d + 1) l M = M - l.length
  | [], d, M, _, _ => by simp [lft, lftGo]
  | n :: l, d, M, h, hl => by
    have hn := h n (by simp)
    simp only [List.length_cons] at hl ⊢
    have e : lft (d + 1) (n :: l) M = lft (d + 1) l (lft d n.ks (M - 1)) := by
      simp only [lft, lftGo]
      rw [if_neg (by omega)]
    have e2 : lft d n.ks (M - 1) = M - 1 := by
      rw [hn.2]
      cases d with
      | zero => simp [lft]
      | succ d => simp [lft, lftGo]
    rw [e, e2, lft_flat l d (M - 1) (fun m hm => h m (by simp [hm])) (by omega)]
    omega
theorem keysF_flat (c : CalZ) : ∀ n ∈ keysF c, n.ws.length ≤ 20 ∧ n.ks = [] := by
  intro n hn
  rw [keysF_is] at hn
  obtain ⟨key, _, rfl⟩ := List.mem_map.1 hn
  have := (wds_wf c key).1
  exact ⟨by simp only [ky, NI.ws]; omega, rfl⟩
theorem lft_node (c : CalZ) : decide (0 ≤ lft 12 [.mk calN 0 [wd c.nm] true (keysF c)] 60) = true := by
  have hl := keysF_len c
  have e : lft 12 [.mk calN 0 [wd c.nm] true (keysF c)] 60 = lft 11 (keysF c) 59 := by
    rw [show lft 12 [.mk calN 0 [wd c.nm] true (keysF c)] 60 = (if (60 : Int) < 0 ∨ 20 < (NI.mk calN 0 [wd c.nm] true (keysF c)).ws.length then -1 else lftGo (lft 11) [] (lft 11 (keysF c) (60 - 1))) from rfl, if_neg (by simp [NI.ws])]
    rfl
  rw [e, lft_flat (keysF c) 10 59 (keysF_flat c) (by omega)]
  exact decide_eq_true (by omega)
theorem cnt_flat : ∀ (l : List NI), (∀ n ∈ l, n.ks = []) → cntL l = l.length
  | [], _ => by simp [cntL]
  | n :: l, h => by
    have hn := h n (by simp)
    obtain ⟨nm, a, ws, b, ks⟩ := n
    simp only [NI.ks] at hn
    subst hn
    simp only [cntL, cntN, List.length_cons, cnt_flat l (fun m hm => h m (by simp [hm]))]
    omega

theorem hSame : SameL [.mk ⟨#[]⟩ 0 [] false []] [.mk ⟨#[]⟩ 0 [] false []] := by
  unfold SameL
  exact ⟨_, _, rfl, ⟨rfl, rfl, rfl, by unfold SameL; rfl⟩, by unfold SameL; rfl⟩

set_option maxRecDepth 100000 in
theorem fback_walk (c : CalZ) (w : World) (hw : CalWf c) (tb : NTabs w) :
    Calls Tryz.prog 5 #[.agg #[.string c.nm, .int .i64 c.k, .int .i64 c.d, .int .i64 c.m, .int .i64 c.s, .int .i64 c.sh, .int .i64 c.p0, .int .i64 c.p1, .int .i64 c.p2, .int .i64 c.cy, .int .i64 c.ex, .int .i64 c.fi, .int .i64 c.la, .int .i64 c.po]] w fun e w' => e = .returned (.bool true) ∧ Below w.heap.size w w' := by
  have cl := flive_ok
  have hm := hw.1
  have hT := Lib.hid tb
  have C := Box.new w #[.string c.nm, .int .i64 c.k, .int .i64 c.d, .int .i64 c.m, .int .i64 c.s, .int .i64 c.sh, .int .i64 c.p0, .int .i64 c.p1, .int .i64 c.p2, .int .i64 c.cy, .int .i64 c.ex, .int .i64 c.fi, .int .i64 c.la, .int .i64 c.po] 30
  have B0 := balloc (Below.refl _ w) (.cells #[.string c.nm, .int .i64 c.k, .int .i64 c.d, .int .i64 c.m, .int .i64 c.s, .int .i64 c.sh, .int .i64 c.p0, .int .i64 c.p1, .int .i64 c.p2, .int .i64 c.cy, .int .i64 c.ex, .int .i64 c.fi, .int .i64 c.la, .int .i64 c.po] 30)
  clear hw tb
  go_enter Tryz.func5, Tryz.ntmps5
  go_upto_region 1 with fail
  generalize w.alloc (.cells #[.string c.nm, .int .i64 c.k, .int .i64 c.d, .int .i64 c.m, .int .i64 c.s, .int .i64 c.sh, .int .i64 c.p0, .int .i64 c.p1, .int .i64 c.p2, .int .i64 c.cy, .int .i64 c.ex, .int .i64 c.fi, .int .i64 c.la, .int .i64 c.po] 30) = W0 at *
  go_wp2_with fail
  refine (cl _ ⟨hT.out.n.kept B0, hT.out.p.kept B0⟩).mono ?_
  rintro e W1 ⟨rfl, hb1⟩
  have C1 := C.kept hb1
  have B1 := bthen B0 hb1
  clear C B0 hb1 cl
  have k0 : W1.cell? ⟨w.heap.size, 0, none⟩ = some (.string c.nm) := C1.cell 0 _ rfl
  by_cases hlong : 100 < c.nm.size
  · have d1 : decide ((c.nm.size : Int) > 100) = true := decide_eq_true (by omega)
    have d2 : decide ((100 : Int) < (c.nm.size : Int)) = true := decide_eq_true (by omega)
    go_wp2_with fail
    go_ret
    exact ⟨rfl, B1⟩
  have d1 : decide ((c.nm.size : Int) > 100) = false := decide_eq_false (by omega)
  have d2 : decide ((100 : Int) < (c.nm.size : Int)) = false := decide_eq_false (by omega)
  have k1 : W1.cell? ⟨w.heap.size, 1, none⟩ = some (.int .i64 c.k) := C1.cell 1 _ rfl
  have k2 : W1.cell? ⟨w.heap.size, 2, none⟩ = some (.int .i64 c.d) := C1.cell 2 _ rfl
  have k3 : W1.cell? ⟨w.heap.size, 3, none⟩ = some (.int .i64 c.m) := C1.cell 3 _ rfl
  have k4 : W1.cell? ⟨w.heap.size, 4, none⟩ = some (.int .i64 c.s) := C1.cell 4 _ rfl
  have k5 : W1.cell? ⟨w.heap.size, 5, none⟩ = some (.int .i64 c.sh) := C1.cell 5 _ rfl
  have k6 : W1.cell? ⟨w.heap.size, 6, none⟩ = some (.int .i64 c.p0) := C1.cell 6 _ rfl
  have k7 : W1.cell? ⟨w.heap.size, 7, none⟩ = some (.int .i64 c.p1) := C1.cell 7 _ rfl
  have k8 : W1.cell? ⟨w.heap.size, 8, none⟩ = some (.int .i64 c.p2) := C1.cell 8 _ rfl
  have k9 : W1.cell? ⟨w.heap.size, 9, none⟩ = some (.int .i64 c.cy) := C1.cell 9 _ rfl
  have k10 : W1.cell? ⟨w.heap.size, 10, none⟩ = some (.int .i64 c.ex) := C1.cell 10 _ rfl
  have k11 : W1.cell? ⟨w.heap.size, 11, none⟩ = some (.int .i64 c.fi) := C1.cell 11 _ rfl
  have k12 : W1.cell? ⟨w.heap.size, 12, none⟩ = some (.int .i64 c.la) := C1.cell 12 _ rfl
  have k13 : W1.cell? ⟨w.heap.size, 13, none⟩ = some (.int .i64 c.po) := C1.cell 13 _ rfl
  by_cases ok : CalOk c
  case neg =>
    have cn := fun W T => Node_no c W ok hm T
    have ck := fun W T => Check_any c 1 W (.inr ⟨ok, rfl⟩) hm T
    have cs : ∀ W : World, Calls Tryz.prog 22 #[.slice (some ⟨W.heap.size, 0, none⟩) 1 1, .slice (some ⟨W.heap.size + 1, 0, none⟩) 1 1] ((W.alloc (.cells #[.string ⟨#[]⟩, .int .i64 0, .slice none 0 0, .bool false, .slice none 0 0] 25)).alloc (.cells #[.string ⟨#[]⟩, .int .i64 0, .slice none 0 0, .bool false, .slice none 0 0] 25)) fun e w' => e = .returned (.bool true) ∧ Below ((W.alloc (.cells #[.string ⟨#[]⟩, .int .i64 0, .slice none 0 0, .bool false, .slice none 0 0] 25)).alloc (.cells #[.string ⟨#[]⟩, .int .i64 0, .slice none 0 0, .bool false, .slice none 0 0] 25)).heap.size ((W.alloc (.cells #[.string ⟨#[]⟩, .int .i64 0, .slice none 0 0, .bool false, .slice none 0 0] 25)).alloc (.cells #[.string ⟨#[]⟩, .int .i64 0, .slice none 0 0, .bool false, .slice none 0 0] 25)) w' := fun W => by
      have A1 := Blk.at_ (W := W) (T := 25) (c := #[.string ⟨#[]⟩, .int .i64 0, .slice none 0 0, .bool false, .slice none 0 0]) rfl
      have A1' : Blk ((W.alloc (.cells #[.string ⟨#[]⟩, .int .i64 0, .slice none 0 0, .bool false, .slice none 0 0] 25)).alloc (.cells #[.string ⟨#[]⟩, .int .i64 0, .slice none 0 0, .bool false, .slice none 0 0] 25)) W.heap.size 25 #[.string ⟨#[]⟩, .int .i64 0, .slice none 0 0, .bool false, .slice none 0 0] := blk_alloc A1
      have A2 : Blk ((W.alloc (.cells #[.string ⟨#[]⟩, .int .i64 0, .slice none 0 0, .bool false, .slice none 0 0] 25)).alloc (.cells #[.string ⟨#[]⟩, .int .i64 0, .slice none 0 0, .bool false, .slice none 0 0] 25)) (W.heap.size + 1) 25 #[.string ⟨#[]⟩, .int .i64 0, .slice none 0 0, .bool false, .slice none 0 0] := Blk.at_ (by simp)
      have one : ∀ g, Blk ((W.alloc (.cells #[.string ⟨#[]⟩, .int .i64 0, .slice none 0 0, .bool false, .slice none 0 0] 25)).alloc (.cells #[.string ⟨#[]⟩, .int .i64 0, .slice none 0 0, .bool false, .slice none 0 0] 25)) g 25 #[.string ⟨#[]⟩, .int .i64 0, .slice none 0 0, .bool false, .slice none 0 0] → NsV (· < ((W.alloc (.cells #[.string ⟨#[]⟩, .int .i64 0, .slice none 0 0, .bool false, .slice none 0 0] 25)).alloc (.cells #[.string ⟨#[]⟩, .int .i64 0, .slice none 0 0, .bool false, .slice none 0 0] 25)).heap.size) ((W.alloc (.cells #[.string ⟨#[]⟩, .int .i64 0, .slice none 0 0, .bool false, .slice none 0 0] 25)).alloc (.cells #[.string ⟨#[]⟩, .int .i64 0, .slice none 0 0, .bool false, .slice none 0 0] 25)) (.slice (some ⟨g, 0, none⟩) 1 1) [.mk ⟨#[]⟩ 0 [] false []] := fun g h => by
        refine ⟨_, 1, rfl, .inr ⟨g, 0, rfl, ?_⟩⟩
        simp only [NsFrom, NAt]
        exact ⟨⟨h.lt, h.cell 0, h.cell 1, ⟨_, h.cell 2, none, 0, rfl, .inl rfl⟩, h.cell 3, none, 0, h.cell 4, by simp⟩, trivial⟩
      exact rSameI_any 10 (by omega) [.mk ⟨#[]⟩ 0 [] false []] [.mk ⟨#[]⟩ 0 [] false []] _ _ _ _ true (by simp [cntL, cntN]) (by simp [WsL, WsN]) (one _ A1') (one _ A2) (fun b hb => hb) (Lib.hid ⟨fun _ => hSame, fun _ => rfl⟩)
    go_wp2_with fail
    refine (cn _ (hT.out.n.kept B1)).mono ?_
    rintro e W2 ⟨rfl, hb2⟩
    have C2 := (C1.kept hb2).alloc (.cells #[.string ⟨#[]⟩, .int .i64 0, .slice none 0 0, .bool false, .slice none 0 0] 25)
    have B2 := balloc (bthen B1 hb2) (.cells #[.string ⟨#[]⟩, .int .i64 0, .slice none 0 0, .bool false, .slice none 0 0] 25)
    have X2 := Box.new W2 #[.string ⟨#[]⟩, .int .i64 0, .slice none 0 0, .bool false, .slice none 0 0] 25
    clear k0 k1 k2 k3 k4 k5 k6 k7 k8 k9 k10 k11 k12 k13 C1 B1 hb2 cn
    go_upto_region 6 with fail
    generalize W2.alloc (.cells #[.string ⟨#[]⟩, .int .i64 0, .slice none 0 0, .bool false, .slice none 0 0] 25) = W3 at *
    obtain ⟨nb, hnb⟩ : ∃ nb, W2.heap.size = nb := ⟨_, rfl⟩
    rw [hnb] at X2 ⊢
    clear hnb
    have k0 : W3.cell? ⟨w.heap.size, 0, none⟩ = some (.string c.nm) := C2.cell 0 _ rfl
    have k1 : W3.cell? ⟨w.heap.size, 1, none⟩ = some (.int .i64 c.k) := C2.cell 1 _ rfl
    have k2 : W3.cell? ⟨w.heap.size, 2, none⟩ = some (.int .i64 c.d) := C2.cell 2 _ rfl
    have k3 : W3.cell? ⟨w.heap.size, 3, none⟩ = some (.int .i64 c.m) := C2.cell 3 _ rfl
    have k4 : W3.cell? ⟨w.heap.size, 4, none⟩ = some (.int .i64 c.s) := C2.cell 4 _ rfl
    have k5 : W3.cell? ⟨w.heap.size, 5, none⟩ = some (.int .i64 c.sh) := C2.cell 5 _ rfl
    have k6 : W3.cell? ⟨w.heap.size, 6, none⟩ = some (.int .i64 c.p0) := C2.cell 6 _ rfl
    have k7 : W3.cell? ⟨w.heap.size, 7, none⟩ = some (.int .i64 c.p1) := C2.cell 7 _ rfl
    have k8 : W3.cell? ⟨w.heap.size, 8, none⟩ = some (.int .i64 c.p2) := C2.cell 8 _ rfl
    have k9 : W3.cell? ⟨w.heap.size, 9, none⟩ = some (.int .i64 c.cy) := C2.cell 9 _ rfl
    have k10 : W3.cell? ⟨w.heap.size, 10, none⟩ = some (.int .i64 c.ex) := C2.cell 10 _ rfl
    have k11 : W3.cell? ⟨w.heap.size, 11, none⟩ = some (.int .i64 c.fi) := C2.cell 11 _ rfl
    have k12 : W3.cell? ⟨w.heap.size, 12, none⟩ = some (.int .i64 c.la) := C2.cell 12 _ rfl
    have k13 : W3.cell? ⟨w.heap.size, 13, none⟩ = some (.int .i64 c.po) := C2.cell 13 _ rfl
    have T3 := (hT.out.n.kept B2).f
    go_wp2_with fail
    refine (ck _ T3).mono ?_
    rintro e W4 ⟨rfl, hb4⟩
    have B4 := bthen B2 hb4
    have X4 := X2.kept hb4
    clear k0 k1 k2 k3 k4 k5 k6 k7 k8 k9 k10 k11 k12 k13 hb4 C2 X2 B2 ck T3
    have x0 : W4.cell? ⟨nb, 0, none⟩ = some (.string ⟨#[]⟩) := X4.cell 0 _ rfl
    have x1 : W4.cell? ⟨nb, 1, none⟩ = some (.int .i64 0) := X4.cell 1 _ rfl
    have x2 : W4.cell? ⟨nb, 2, none⟩ = some (.slice none 0 0) := X4.cell 2 _ rfl
    have x3 : W4.cell? ⟨nb, 3, none⟩ = some (.bool false) := X4.cell 3 _ rfl
    have x4 : W4.cell? ⟨nb, 4, none⟩ = some (.slice none 0 0) := X4.cell 4 _ rfl
    have cs4 := cs W4
    go_wp2_with fail
    refine cs4.mono ?_
    rintro e W5 ⟨rfl, hb5⟩
    go_wp2_with fail
    go_ret
    exact ⟨rfl, bthen (balloc (balloc B4 _) _) hb5⟩
  case pos =>
    have cn := fun W T => Node_ok c W ok hm T
    go_wp2_with fail
    refine (cn _ (hT.out.n.kept B1)).mono ?_
    rintro e W2 ⟨wp, wc, kp, kc, rfl, hb2, ND⟩
    have NO := ND.node
    have hq6 := keysF_len c
    have hcnt : cntL [.mk calN 0 [wd c.nm] true (keysF c)] ≤ 100 := by
      have := cnt_flat (keysF c) (fun n hn => (keysF_flat c n hn).2)
      simp only [cntL, cntN, this]
      omega
    have hread : Hid (readF (.mk calN 0 [wd c.nm] true (keysF c)) = (c, 0, 0)) := Lib.hid (read_node ok)
    have hchk : chkL 0 [.mk calN 0 [wd c.nm] true (keysF c)] = 0 := chk_node ok
    have hlft := lft_node c
    have TT := hT.out.n.kept (bthen B1 hb2)
    have TP := hT.out.p.kept (bthen B1 hb2)
    have cr : Hid (∀ W, Below W2.heap.size W2 W → Calls Tryz.prog 13 #[.agg #[.string calN, .int .i64 0, .slice wp 1 wc, .bool true, .slice kp (keysF c).length kc]] W fun e w' => e = .returned (.tuple #[.agg #[.string c.nm, .int .i64 c.k, .int .i64 c.d, .int .i64 c.m, .int .i64 c.s, .int .i64 c.sh, .int .i64 c.p0, .int .i64 c.p1, .int .i64 c.p2, .int .i64 c.cy, .int .i64 c.ex, .int .i64 c.fi, .int .i64 c.la, .int .i64 c.po], .int .i64 0, .int .i64 0]) ∧ Below W.heap.size W w') := Lib.hid (fun W hB =>
      Read_any calN 0 wp wc true kp kc [wd c.nm] (keysF c) W (c, 0, 0) (NO.below hB) (by omega) (by omega) (TT.kept hB) (TP.kept hB) hread)
    obtain ⟨-, -, hwl, hkl, ha, hwf, hln, hws, hks, hcap⟩ := NO
    have cf : Hid (∀ W, Below W2.heap.size W2 W → Calls Tryz.prog 12 #[.slice (some ⟨W.heap.size, 0, none⟩) 1 1, .int .i64 60] (W.alloc (.cells #[.string calN, .int .i64 0, .slice wp 1 wc, .bool true, .slice kp (keysF c).length kc] 25 (0, 0))) fun e w' => e = .returned (.bool true) ∧ Below (W.alloc (.cells #[.string calN, .int .i64 0, .slice wp 1 wc, .bool true, .slice kp (keysF c).length kc] 25 (0, 0))).heap.size (W.alloc (.cells #[.string calN, .int .i64 0, .slice wp 1 wc, .bool true, .slice kp (keysF c).length kc] 25 (0, 0))) w') := Lib.hid (fun W hB =>
      rFewI_any [.mk calN 0 [wd c.nm] true (keysF c)] (.slice (some ⟨W.heap.size, 0, none⟩) 1 1) (fun b => b < W2.heap.size ∨ b = W.heap.size) (W.alloc (.cells #[.string calN, .int .i64 0, .slice wp 1 wc, .bool true, .slice kp (keysF c).length kc] 25 (0, 0))) 60 true
        (one_item 25 W.heap.size rfl (WsV.kept hws (fun b hb => hB.block b hb)) (hks.on (fun _ h => h) hB) (fun b hb => Nat.lt_of_lt_of_le hb hB.size))
        (fun b hb => by have := hB.size; simp; omega) (by simp [maxLen]) ⟨hln, trivial⟩ (by omega) (by omega) (Lib.hid hlft))
    have ct : Hid (∀ W, Below W2.heap.size W2 W → Calls Tryz.prog 23 #[.slice (some ⟨W.heap.size, 0, none⟩) 1 1] (W.alloc (.cells #[.string calN, .int .i64 0, .slice wp 1 wc, .bool true, .slice kp (keysF c).length kc] 25 (0, 0))) fun e w' => e = .returned (.int .i64 0) ∧ Below (W.alloc (.cells #[.string calN, .int .i64 0, .slice wp 1 wc, .bool true, .slice kp (keysF c).length kc] 25 (0, 0))).heap.size (W.alloc (.cells #[.string calN, .int .i64 0, .slice wp 1 wc, .bool true, .slice kp (keysF c).length kc] 25 (0, 0))) w') := Lib.hid (fun W hB => by
      have := Go.Proofs.YtnjmokmlnpehdaaGreatDoor.Yg.Check_any [.mk calN 0 [wd c.nm] true (keysF c)] (.slice (some ⟨W.heap.size, 0, none⟩) 1 1) (fun b => b < W2.heap.size ∨ b = W.heap.size) (W.alloc (.cells #[.string calN, .int .i64 0, .slice wp 1 wc, .bool true, .slice kp (keysF c).length kc] 25 (0, 0))) (by omega)
        (one_item 25 W.heap.size rfl (WsV.kept hws (fun b hb => hB.block b hb)) (hks.on (fun _ h => h) hB) (fun b hb => Nat.lt_of_lt_of_le hb hB.size))
        (fun b hb => by have := hB.size; simp; omega) ⟨hwf, trivial⟩ ((TP.kept hB).kept (balloc (Below.refl _ _) _))
      rw [hchk] at this
      exact this)
    have ck := fun W T => Go.Proofs.YtnjmokmlnpehdaaGreatDoor.Fp.Check_any c 0 W (.inl ⟨ok, rfl⟩) hm T
    have q : ∀ w, (binOp .eql 30 (.agg #[.string c.nm, .int .i64 c.k, .int .i64 c.d, .int .i64 c.m, .int .i64 c.s, .int .i64 c.sh, .int .i64 c.p0, .int .i64 c.p1, .int .i64 c.p2, .int .i64 c.cy, .int .i64 c.ex, .int .i64 c.fi, .int .i64 c.la, .int .i64 c.po]) (.agg #[.string c.nm, .int .i64 c.k, .int .i64 c.d, .int .i64 c.m, .int .i64 c.s, .int .i64 c.sh, .int .i64 c.p0, .int .i64 c.p1, .int .i64 c.p2, .int .i64 c.cy, .int .i64 c.ex, .int .i64 c.fi, .int .i64 c.la, .int .i64 c.po])).run Tryz.prog w = .ok (.bool true) w := fun w => by
      have := cal_eql c c rfl w
      rwa [decide_eq_true (show CalSame c c from ⟨rfl, rfl, rfl, rfl, rfl, rfl, rfl, rfl, rfl, rfl, rfl, rfl, rfl⟩)] at this
    obtain ⟨q0, hq0⟩ : ∃ q0, (keysF c).length = q0 := ⟨_, rfl⟩
    obtain ⟨nmC, hnmC⟩ : ∃ nmC, calN = nmC := ⟨_, rfl⟩
    rw [hq0, hnmC] at cr cf ct ⊢
    have C2 := C1.kept hb2
    have B2 := bthen B1 hb2
    have HT2 := Lib.hid TT.f
    clear k0 k1 k2 k3 k4 k5 k6 k7 k8 k9 k10 k11 k12 k13 C1 B1 hb2 cn ND hcnt hread hchk hlft TT TP hwl hkl ha hwf hln hws hks hcap hq0 hq6 hnmC ok
    go_upto_region 6 with fail
    have X3 := Box.new W2 #[.string nmC, .int .i64 0, .slice wp 1 wc, .bool true, .slice kp q0 kc] 25
    have C3 := C2.alloc (.cells #[.string nmC, .int .i64 0, .slice wp 1 wc, .bool true, .slice kp q0 kc] 25)
    have b3 := balloc (Below.refl W2.heap.size W2) (.cells #[.string nmC, .int .i64 0, .slice wp 1 wc, .bool true, .slice kp q0 kc] 25)
    obtain ⟨nb, hnb⟩ : ∃ nb, W2.heap.size = nb := ⟨_, rfl⟩
    rw [hnb] at X3 ⊢
    clear hnb C2
    generalize W2.alloc (.cells #[.string nmC, .int .i64 0, .slice wp 1 wc, .bool true, .slice kp q0 kc] 25) = W3 at *
    have x0 : W3.cell? ⟨nb, 0, none⟩ = some (.string nmC) := X3.cell 0 _ rfl
    have x1 : W3.cell? ⟨nb, 1, none⟩ = some (.int .i64 0) := X3.cell 1 _ rfl
    have x2 : W3.cell? ⟨nb, 2, none⟩ = some (.slice wp 1 wc) := X3.cell 2 _ rfl
    have x3 : W3.cell? ⟨nb, 3, none⟩ = some (.bool true) := X3.cell 3 _ rfl
    have x4 : W3.cell? ⟨nb, 4, none⟩ = some (.slice kp q0 kc) := X3.cell 4 _ rfl
    go_wp2_with fail
    refine (cr.out _ b3).mono ?_
    rintro e W4 ⟨rfl, hb4⟩
    have X4 := X3.kept hb4
    have C4 := C3.kept hb4
    have b4 := bthen b3 hb4
    clear x0 x1 x2 x3 x4 cr X3 C3 b3 hb4
    go_upto_region 9 with fail
    have D5 := Box.new W4 #[.string c.nm, .int .i64 c.k, .int .i64 c.d, .int .i64 c.m, .int .i64 c.s, .int .i64 c.sh, .int .i64 c.p0, .int .i64 c.p1, .int .i64 c.p2, .int .i64 c.cy, .int .i64 c.ex, .int .i64 c.fi, .int .i64 c.la, .int .i64 c.po] 30
    have X5 := X4.alloc (.cells #[.string c.nm, .int .i64 c.k, .int .i64 c.d, .int .i64 c.m, .int .i64 c.s, .int .i64 c.sh, .int .i64 c.p0, .int .i64 c.p1, .int .i64 c.p2, .int .i64 c.cy, .int .i64 c.ex, .int .i64 c.fi, .int .i64 c.la, .int .i64 c.po] 30)
    have C5 := C4.alloc (.cells #[.string c.nm, .int .i64 c.k, .int .i64 c.d, .int .i64 c.m, .int .i64 c.s, .int .i64 c.sh, .int .i64 c.p0, .int .i64 c.p1, .int .i64 c.p2, .int .i64 c.cy, .int .i64 c.ex, .int .i64 c.fi, .int .i64 c.la, .int .i64 c.po] 30)
    have b5 := balloc b4 (.cells #[.string c.nm, .int .i64 c.k, .int .i64 c.d, .int .i64 c.m, .int .i64 c.s, .int .i64 c.sh, .int .i64 c.p0, .int .i64 c.p1, .int .i64 c.p2, .int .i64 c.cy, .int .i64 c.ex, .int .i64 c.fi, .int .i64 c.la, .int .i64 c.po] 30)
    obtain ⟨db, hdb⟩ : ∃ db, W4.heap.size = db := ⟨_, rfl⟩
    rw [hdb] at D5 ⊢
    clear hdb X4 C4 b4
    generalize W4.alloc (.cells #[.string c.nm, .int .i64 c.k, .int .i64 c.d, .int .i64 c.m, .int .i64 c.s, .int .i64 c.sh, .int .i64 c.p0, .int .i64 c.p1, .int .i64 c.p2, .int .i64 c.cy, .int .i64 c.ex, .int .i64 c.fi, .int .i64 c.la, .int .i64 c.po] 30) = W5 at *
    have k0 : W5.cell? ⟨w.heap.size, 0, none⟩ = some (.string c.nm) := C5.cell 0 _ rfl
    have k1 : W5.cell? ⟨w.heap.size, 1, none⟩ = some (.int .i64 c.k) := C5.cell 1 _ rfl
    have k2 : W5.cell? ⟨w.heap.size, 2, none⟩ = some (.int .i64 c.d) := C5.cell 2 _ rfl
    have k3 : W5.cell? ⟨w.heap.size, 3, none⟩ = some (.int .i64 c.m) := C5.cell 3 _ rfl
    have k4 : W5.cell? ⟨w.heap.size, 4, none⟩ = some (.int .i64 c.s) := C5.cell 4 _ rfl
    have k5 : W5.cell? ⟨w.heap.size, 5, none⟩ = some (.int .i64 c.sh) := C5.cell 5 _ rfl
    have k6 : W5.cell? ⟨w.heap.size, 6, none⟩ = some (.int .i64 c.p0) := C5.cell 6 _ rfl
    have k7 : W5.cell? ⟨w.heap.size, 7, none⟩ = some (.int .i64 c.p1) := C5.cell 7 _ rfl
    have k8 : W5.cell? ⟨w.heap.size, 8, none⟩ = some (.int .i64 c.p2) := C5.cell 8 _ rfl
    have k9 : W5.cell? ⟨w.heap.size, 9, none⟩ = some (.int .i64 c.cy) := C5.cell 9 _ rfl
    have k10 : W5.cell? ⟨w.heap.size, 10, none⟩ = some (.int .i64 c.ex) := C5.cell 10 _ rfl
    have k11 : W5.cell? ⟨w.heap.size, 11, none⟩ = some (.int .i64 c.fi) := C5.cell 11 _ rfl
    have k12 : W5.cell? ⟨w.heap.size, 12, none⟩ = some (.int .i64 c.la) := C5.cell 12 _ rfl
    have k13 : W5.cell? ⟨w.heap.size, 13, none⟩ = some (.int .i64 c.po) := C5.cell 13 _ rfl
    have j0 : W5.cell? ⟨db, 0, none⟩ = some (.string c.nm) := D5.cell 0 _ rfl
    have j1 : W5.cell? ⟨db, 1, none⟩ = some (.int .i64 c.k) := D5.cell 1 _ rfl
    have j2 : W5.cell? ⟨db, 2, none⟩ = some (.int .i64 c.d) := D5.cell 2 _ rfl
    have j3 : W5.cell? ⟨db, 3, none⟩ = some (.int .i64 c.m) := D5.cell 3 _ rfl
    have j4 : W5.cell? ⟨db, 4, none⟩ = some (.int .i64 c.s) := D5.cell 4 _ rfl
    have j5 : W5.cell? ⟨db, 5, none⟩ = some (.int .i64 c.sh) := D5.cell 5 _ rfl
    have j6 : W5.cell? ⟨db, 6, none⟩ = some (.int .i64 c.p0) := D5.cell 6 _ rfl
    have j7 : W5.cell? ⟨db, 7, none⟩ = some (.int .i64 c.p1) := D5.cell 7 _ rfl
    have j8 : W5.cell? ⟨db, 8, none⟩ = some (.int .i64 c.p2) := D5.cell 8 _ rfl
    have j9 : W5.cell? ⟨db, 9, none⟩ = some (.int .i64 c.cy) := D5.cell 9 _ rfl
    have j10 : W5.cell? ⟨db, 10, none⟩ = some (.int .i64 c.ex) := D5.cell 10 _ rfl
    have j11 : W5.cell? ⟨db, 11, none⟩ = some (.int .i64 c.fi) := D5.cell 11 _ rfl
    have j12 : W5.cell? ⟨db, 12, none⟩ = some (.int .i64 c.la) := D5.cell 12 _ rfl
    have j13 : W5.cell? ⟨db, 13, none⟩ = some (.int .i64 c.po) := D5.cell 13 _ rfl
    go_wp2_with fail
    refine (ck _ (HT2.out.kept b5)).mono ?_
    rintro e W6 ⟨rfl, hb6⟩
    have X6 := X5.kept hb6
    have b6 := bthen b5 hb6
    clear k0 k1 k2 k3 k4 k5 k6 k7 k8 k9 k10 k11 k12 k13 j0 j1 j2 j3 j4 j5 j6 j7 j8 j9 j10 j11 j12 j13 ck D5 X5 C5 b5 hb6 HT2
    have x0 : W6.cell? ⟨nb, 0, none⟩ = some (.string nmC) := X6.cell 0 _ rfl
    have x1 : W6.cell? ⟨nb, 1, none⟩ = some (.int .i64 0) := X6.cell 1 _ rfl
    have x2 : W6.cell? ⟨nb, 2, none⟩ = some (.slice wp 1 wc) := X6.cell 2 _ rfl
    have x3 : W6.cell? ⟨nb, 3, none⟩ = some (.bool true) := X6.cell 3 _ rfl
    have x4 : W6.cell? ⟨nb, 4, none⟩ = some (.slice kp q0 kc) := X6.cell 4 _ rfl
    go_wp2_with fail
    refine (cf.out _ b6).mono ?_
    rintro e W7 ⟨rfl, hb7⟩
    have X7 := (X6.alloc (.cells #[.string nmC, .int .i64 0, .slice wp 1 wc, .bool true, .slice kp q0 kc] 25)).kept hb7
    have b7 := bthen (balloc b6 (.cells #[.string nmC, .int .i64 0, .slice wp 1 wc, .bool true, .slice kp q0 kc] 25)) hb7
    clear x0 x1 x2 x3 x4 cf X6 b6 hb7
    have x0 : W7.cell? ⟨nb, 0, none⟩ = some (.string nmC) := X7.cell 0 _ rfl
    have x1 : W7.cell? ⟨nb, 1, none⟩ = some (.int .i64 0) := X7.cell 1 _ rfl
    have x2 : W7.cell? ⟨nb, 2, none⟩ = some (.slice wp 1 wc) := X7.cell 2 _ rfl
    have x3 : W7.cell? ⟨nb, 3, none⟩ = some (.bool true) := X7.cell 3 _ rfl
    have x4 : W7.cell? ⟨nb, 4, none⟩ = some (.slice kp q0 kc) := X7.cell 4 _ rfl
    go_wp2_with fail
    refine (ct.out _ b7).mono ?_
    rintro e W8 ⟨rfl, hb8⟩
    have b8 := bthen (balloc b7 (.cells #[.string nmC, .int .i64 0, .slice wp 1 wc, .bool true, .slice kp q0 kc] 25)) hb8
    clear x0 x1 x2 x3 x4 ct X7 b7 hb8
    go_wp2_with fail
    go_ret
    exact ⟨rfl, bthen B2 b8⟩

end Go.Proofs.YtnjmokmlnpehdaaGreatDoor.Fl
