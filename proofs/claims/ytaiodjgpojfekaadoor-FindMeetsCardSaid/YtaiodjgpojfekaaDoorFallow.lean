/- What allows of package field comes to. -/
import Derived.Test.YtaiodjgpojfekaaDoorFcut2
import Derived.Test.YtaiodjgpojfekaaDoorFtell
namespace Go.Proofs.YtaiodjgpojfekaaDoor.Fp
set_option linter.unusedSimpArgs false
set_option linter.unusedVariables false
open Go.RowKit Go.Proofs.YtaiodjgpojfekaaDoor.Bn Go.Proofs.YtaiodjgpojfekaaDoor.Cp Go.Proofs.YtaiodjgpojfekaaDoor.Am Go.Proofs.YtaiodjgpojfekaaDoor.Fs

set_option maxHeartbeats 1000000

/-- two calendars are the same but for their names -/
def CalSame (a c : CalZ) : Prop := a.k = c.k ∧ a.d = c.d ∧ a.m = c.m ∧ a.s = c.s ∧ a.sh = c.sh ∧ a.p0 = c.p0 ∧ a.p1 = c.p1 ∧ a.p2 = c.p2 ∧ a.cy = c.cy ∧ a.ex = c.ex ∧ a.fi = c.fi ∧ a.la = c.la ∧ a.po = c.po
instance (a c : CalZ) : Decidable (CalSame a c) := by unfold CalSame; exact inferInstance

theorem box_upto {W w1 : World} {b n : Nat} {vs : List Value} (p : Box W b vs) (h : b < n) (hb : Below n W w1) : Box w1 b vs :=
  ⟨Nat.lt_of_lt_of_le p.lt hb.size, fun i v e => (hb.cell (p := ⟨b, i, none⟩) h).trans (p.cell i v e), fun i e => (hb.frozen (p := ⟨b, i, none⟩) h).trans (p.frz i e)⟩
theorem box_range {W : World} {b : Nat} {vs : List Value} (p : Box W b vs) : W.rangeAt b 0 vs := fun j v h => by rw [Nat.zero_add]; exact p.cell j v h
theorem infoEndA : (Tryd.prog.info? 59).map (·.size) = some 18 := by kernel_rfl
theorem infoCal : (Tryd.prog.info? 24).map (·.size) = some 14 := by kernel_rfl

theorem cal_eql (a c : CalZ) (hn : a.nm = c.nm) (w : World) :
    (binOp .eql 24 (.agg #[.string a.nm, .int .i64 a.k, .int .i64 a.d, .int .i64 a.m, .int .i64 a.s, .int .i64 a.sh, .int .i64 a.p0, .int .i64 a.p1, .int .i64 a.p2, .int .i64 a.cy, .int .i64 a.ex, .int .i64 a.fi, .int .i64 a.la, .int .i64 a.po]) (.agg #[.string c.nm, .int .i64 c.k, .int .i64 c.d, .int .i64 c.m, .int .i64 c.s, .int .i64 c.sh, .int .i64 c.p0, .int .i64 c.p1, .int .i64 c.p2, .int .i64 c.cy, .int .i64 c.ex, .int .i64 c.fi, .int .i64 c.la, .int .i64 c.po])).run Tryd.prog w = .ok (.bool (decide (CalSame a c))) w := by
  have hS : Tryd.prog.underlying 24 = some (.struct (Tryd.prog.fieldsOf 24)) := by kernel_rfl
  have hp : Tryd.prog.stoodInHeld 24 = false := by kernel_rfl
  have u3 := Tryd.underlying3
  have hq := fun w => pat_eqIn 9997 a.p0 a.p1 a.p2 c.p0 c.p1 c.p2 w
  rw [run_eql_struct, show (10000 : Nat) = 9999 + 1 from rfl, run_equalIn_agg w 9999 24 _ _ hS hp]
  simp only [Program.fieldsOf, Tryd.underlying24]
  go_simp
  unfold CalSame
  repeat' split
  all_goals simp_all

theorem Cut_any (c : CalZ) (r : Bool) (w : World) (h : r = decide (CutOk c)) (T : FTab w) :
    Calls Tryd.prog 63 #[.agg #[.string c.nm, .int .i64 c.k, .int .i64 c.d, .int .i64 c.m, .int .i64 c.s, .int .i64 c.sh, .int .i64 c.p0, .int .i64 c.p1, .int .i64 c.p2, .int .i64 c.cy, .int .i64 c.ex, .int .i64 c.fi, .int .i64 c.la, .int .i64 c.po]] w fun e w' => e = .returned (.bool r) ∧ Below w.heap.size w w' := by
  by_cases h1 : c.sh = 1
  · obtain ⟨v, hv, v0, v1, hm⟩ := pat_num (x := c.p0) (y := c.p1) (z := c.p2)
    refine Cut_pat c r _ v 12 w h1 hv v0 v1 hm (by simp [per, h1]) ?_ T
    rw [h, Bool.eq_iff_iff]
    simp [CutOk, h1]
  · by_cases h2 : c.sh = 2
    · refine Cut_four c r w h2 ?_
      rw [h, Bool.eq_iff_iff]
      simp [CutOk, h2]
      try omega
    · by_cases h3 : c.sh = 3
      · obtain ⟨v, hv, v0, v1, hm⟩ := cyc_num (x := c.cy)
        refine Cut_cyc c r _ v (per c) w h3 hv v0 v1 (Lib.hid (fun k => by simpa using k)) hm rfl ?_ T
        rw [h, Bool.eq_iff_iff]
        by_cases y1 : c.cy = 1
        · simp [CutOk, per, h3, y1]; try omega
        · by_cases y2 : c.cy = 2
          · simp [CutOk, per, h3, y2]; try omega
          · by_cases y4 : c.cy = 4
            · simp [CutOk, per, h3, y4]; try omega
            · simp [CutOk, per, h3, y1, y2, y4]
      · have e : r = false := by rw [h]; simp [CutOk, h1, h2, h3]
        subst e
        exact Cut_other c w h1 h2 h3

set_option maxRecDepth 100000 in
theorem allows_tttt (x c : CalZ) (r : Bool) (w : World) (hk : Hid (x.k = c.k)) (hr : r = ((decide (1 ≤ c.d) && decide (c.d ≤ 7)) && ((decide (1 ≤ c.m) && decide (c.m ≤ 12)) && ((decide (0 ≤ c.s) && decide (c.s ≤ 1)) && decide (CutOk c))))) (T : FTab w) :
    Calls Tryd.prog 30 #[.agg #[.string x.nm, .int .i64 x.k, .int .i64 x.d, .int .i64 x.m, .int .i64 x.s, .int .i64 x.sh, .int .i64 x.p0, .int .i64 x.p1, .int .i64 x.p2, .int .i64 x.cy, .int .i64 x.ex, .int .i64 x.fi, .int .i64 x.la, .int .i64 x.po, .bool true, .bool true, .bool true, .bool true], .agg #[.string c.nm, .int .i64 c.k, .int .i64 c.d, .int .i64 c.m, .int .i64 c.s, .int .i64 c.sh, .int .i64 c.p0, .int .i64 c.p1, .int .i64 c.p2, .int .i64 c.cy, .int .i64 c.ex, .int .i64 c.fi, .int .i64 c.la, .int .i64 c.po]] w fun e w' => e = .returned (.bool r) ∧ Below w.heap.size w w' := by
  have P := ((Box.new w #[.string x.nm, .int .i64 x.k, .int .i64 x.d, .int .i64 x.m, .int .i64 x.s, .int .i64 x.sh, .int .i64 x.p0, .int .i64 x.p1, .int .i64 x.p2, .int .i64 x.cy, .int .i64 x.ex, .int .i64 x.fi, .int .i64 x.la, .int .i64 x.po, .bool true, .bool true, .bool true, .bool true] 59).alloc (.cells #[.string c.nm, .int .i64 c.k, .int .i64 c.d, .int .i64 c.m, .int .i64 c.s, .int .i64 c.sh, .int .i64 c.p0, .int .i64 c.p1, .int .i64 c.p2, .int .i64 c.cy, .int .i64 c.ex, .int .i64 c.fi, .int .i64 c.la, .int .i64 c.po] 24)).alloc (.cells #[.string c.nm, .int .i64 c.k, .int .i64 c.d, .int .i64 c.m, .int .i64 c.s, .int .i64 c.sh, .int .i64 c.p0, .int .i64 c.p1, .int .i64 c.p2, .int .i64 c.cy, .int .i64 c.ex, .int .i64 c.fi, .int .i64 c.la, .int .i64 c.po] 24)
  have C0 := CalIn.new (w.alloc (.cells #[.string x.nm, .int .i64 x.k, .int .i64 x.d, .int .i64 x.m, .int .i64 x.s, .int .i64 x.sh, .int .i64 x.p0, .int .i64 x.p1, .int .i64 x.p2, .int .i64 x.cy, .int .i64 x.ex, .int .i64 x.fi, .int .i64 x.la, .int .i64 x.po, .bool true, .bool true, .bool true, .bool true] 59)) c 24
  have C := C0.alloc (.cells #[.string c.nm, .int .i64 c.k, .int .i64 c.d, .int .i64 c.m, .int .i64 c.s, .int .i64 c.sh, .int .i64 c.p0, .int .i64 c.p1, .int .i64 c.p2, .int .i64 c.cy, .int .i64 c.ex, .int .i64 c.fi, .int .i64 c.la, .int .i64 c.po] 24)
  have L := Box.new ((w.alloc (.cells #[.string x.nm, .int .i64 x.k, .int .i64 x.d, .int .i64 x.m, .int .i64 x.s, .int .i64 x.sh, .int .i64 x.p0, .int .i64 x.p1, .int .i64 x.p2, .int .i64 x.cy, .int .i64 x.ex, .int .i64 x.fi, .int .i64 x.la, .int .i64 x.po, .bool true, .bool true, .bool true, .bool true] 59)).alloc (.cells #[.string c.nm, .int .i64 c.k, .int .i64 c.d, .int .i64 c.m, .int .i64 c.s, .int .i64 c.sh, .int .i64 c.p0, .int .i64 c.p1, .int .i64 c.p2, .int .i64 c.cy, .int .i64 c.ex, .int .i64 c.fi, .int .i64 c.la, .int .i64 c.po] 24)) #[.string c.nm, .int .i64 c.k, .int .i64 c.d, .int .i64 c.m, .int .i64 c.s, .int .i64 c.sh, .int .i64 c.p0, .int .i64 c.p1, .int .i64 c.p2, .int .i64 c.cy, .int .i64 c.ex, .int .i64 c.fi, .int .i64 c.la, .int .i64 c.po] 24
  have B := balloc (balloc (balloc (Below.refl _ w) (.cells #[.string x.nm, .int .i64 x.k, .int .i64 x.d, .int .i64 x.m, .int .i64 x.s, .int .i64 x.sh, .int .i64 x.p0, .int .i64 x.p1, .int .i64 x.p2, .int .i64 x.cy, .int .i64 x.ex, .int .i64 x.fi, .int .i64 x.la, .int .i64 x.po, .bool true, .bool true, .bool true, .bool true] 59)) (.cells #[.string c.nm, .int .i64 c.k, .int .i64 c.d, .int .i64 c.m, .int .i64 c.s, .int .i64 c.sh, .int .i64 c.p0, .int .i64 c.p1, .int .i64 c.p2, .int .i64 c.cy, .int .i64 c.ex, .int .i64 c.fi, .int .i64 c.la, .int .i64 c.po] 24)) (.cells #[.string c.nm, .int .i64 c.k, .int .i64 c.d, .int .i64 c.m, .int .i64 c.s, .int .i64 c.sh, .int .i64 c.p0, .int .i64 c.p1, .int .i64 c.p2, .int .i64 c.cy, .int .i64 c.ex, .int .i64 c.fi, .int .i64 c.la, .int .i64 c.po] 24)
  have LC := box_range (Box.new (w.alloc (.cells #[.string x.nm, .int .i64 x.k, .int .i64 x.d, .int .i64 x.m, .int .i64 x.s, .int .i64 x.sh, .int .i64 x.p0, .int .i64 x.p1, .int .i64 x.p2, .int .i64 x.cy, .int .i64 x.ex, .int .i64 x.fi, .int .i64 x.la, .int .i64 x.po, .bool true, .bool true, .bool true, .bool true] 59)) #[.string c.nm, .int .i64 c.k, .int .i64 c.d, .int .i64 c.m, .int .i64 c.s, .int .i64 c.sh, .int .i64 c.p0, .int .i64 c.p1, .int .i64 c.p2, .int .i64 c.cy, .int .i64 c.ex, .int .i64 c.fi, .int .i64 c.la, .int .i64 c.po] 24)
  have z2 : (((w.alloc (.cells #[.string x.nm, .int .i64 x.k, .int .i64 x.d, .int .i64 x.m, .int .i64 x.s, .int .i64 x.sh, .int .i64 x.p0, .int .i64 x.p1, .int .i64 x.p2, .int .i64 x.cy, .int .i64 x.ex, .int .i64 x.fi, .int .i64 x.la, .int .i64 x.po, .bool true, .bool true, .bool true, .bool true] 59)).alloc (.cells #[.string c.nm, .int .i64 c.k, .int .i64 c.d, .int .i64 c.m, .int .i64 c.s, .int .i64 c.sh, .int .i64 c.p0, .int .i64 c.p1, .int .i64 c.p2, .int .i64 c.cy, .int .i64 c.ex, .int .i64 c.fi, .int .i64 c.la, .int .i64 c.po] 24)).alloc (.cells #[.string c.nm, .int .i64 c.k, .int .i64 c.d, .int .i64 c.m, .int .i64 c.s, .int .i64 c.sh, .int .i64 c.p0, .int .i64 c.p1, .int .i64 c.p2, .int .i64 c.cy, .int .i64 c.ex, .int .i64 c.fi, .int .i64 c.la, .int .i64 c.po] 24)).heap.size = w.heap.size + 3 := by simp
  simp only [World.size_alloc] at P C L LC
  go_enter Tryd.func30, Tryd.ntmps30
  go_upto_region 1 with fail
  apply wp_region_lit
  refine wpList_load_mid rfl _ _ rfl (w.heap.size + 1) 0 rfl _ _ LC Tryd.underlying24 rfl infoCal ?_
  simp only [Act.put]
  refine wpList_plain rfl (fun _ hK => ?_)
  go_simp
  refine hK _ _ ?_
  clear hK
  refine wpList_store_new (w := (w.alloc (.cells #[.string x.nm, .int .i64 x.k, .int .i64 x.d, .int .i64 x.m, .int .i64 x.s, .int .i64 x.sh, .int .i64 x.p0, .int .i64 x.p1, .int .i64 x.p2, .int .i64 x.cy, .int .i64 x.ex, .int .i64 x.fi, .int .i64 x.la, .int .i64 x.po, .bool true, .bool true, .bool true, .bool true] 59)).alloc (.cells #[.string c.nm, .int .i64 c.k, .int .i64 c.d, .int .i64 c.m, .int .i64 c.s, .int .i64 c.sh, .int .i64 c.p0, .int .i64 c.p1, .int .i64 c.p2, .int .i64 c.cy, .int .i64 c.ex, .int .i64 c.fi, .int .i64 c.la, .int .i64 c.po] 24)) rfl _ _ _ rfl _ #[.string c.nm, .int .i64 c.k, .int .i64 c.d, .int .i64 c.m, .int .i64 c.s, .int .i64 c.sh, .int .i64 c.p0, .int .i64 c.p1, .int .i64 c.p2, .int .i64 c.cy, .int .i64 c.ex, .int .i64 c.fi, .int .i64 c.la, .int .i64 c.po] 14 (by show Value.pointer (some (⟨w.heap.size + 1 + 1, 0, none⟩ : Addr)) = _; simp only [World.size_alloc]) rfl infoCal rfl rfl (by simp [Value.oneCell']) ?_
  simp only [Act.put]
  go_upto_region 2 with fail
  generalize ((w.alloc (.cells #[.string x.nm, .int .i64 x.k, .int .i64 x.d, .int .i64 x.m, .int .i64 x.s, .int .i64 x.sh, .int .i64 x.p0, .int .i64 x.p1, .int .i64 x.p2, .int .i64 x.cy, .int .i64 x.ex, .int .i64 x.fi, .int .i64 x.la, .int .i64 x.po, .bool true, .bool true, .bool true, .bool true] 59)).alloc (.cells #[.string c.nm, .int .i64 c.k, .int .i64 c.d, .int .i64 c.m, .int .i64 c.s, .int .i64 c.sh, .int .i64 c.p0, .int .i64 c.p1, .int .i64 c.p2, .int .i64 c.cy, .int .i64 c.ex, .int .i64 c.fi, .int .i64 c.la, .int .i64 c.po] 24)).alloc (.cells #[.string c.nm, .int .i64 c.k, .int .i64 c.d, .int .i64 c.m, .int .i64 c.s, .int .i64 c.sh, .int .i64 c.p0, .int .i64 c.p1, .int .i64 c.p2, .int .i64 c.cy, .int .i64 c.ex, .int .i64 c.fi, .int .i64 c.la, .int .i64 c.po] 24) = W2 at *
  apply wp_region_lit
  refine wpList_load_mid rfl _ _ rfl w.heap.size 0 rfl _ _ (box_range P) Tryd.underlying59 rfl infoEndA ?_
  simp only [Act.put]
  go_wp2_with fail
  refine (tell_tttt x c _ _ L).mono ?_
  rintro e w3 ⟨rfl, hB, L3⟩
  have P3 := box_upto P (by omega) hB
  have C3 := C.upto (by omega) hB (by omega)
  have B3 := B.trans (hB.mono (by omega))
  have T3 := T.kept B3
  clear P C L B LC z2 hB C0 T
  have q := fun w => cal_eql ⟨c.nm, x.k, c.d, c.m, c.s, c.sh, c.p0, c.p1, c.p2, c.cy, c.ex, c.fi, c.la, c.po⟩ c rfl w
  obtain ⟨da, dc, dlt, dg⟩ := T3.day
  obtain ⟨ma, mc, mlt, mg⟩ := T3.mon
  obtain ⟨_, c0, c1, c2, c3, c4, c5, c6, c7, c8, c9, c10, c11, c12, c13⟩ := id C3
  have p14 := P3.cell 14 _ rfl
  have p15 := P3.cell 15 _ rfl
  have p16 := P3.cell 16 _ rfl
  have p17 := P3.cell 17 _ rfl
  have l0 := L3.cell 0 _ rfl
  have l1 := L3.cell 1 _ rfl
  have l2 := L3.cell 2 _ rfl
  have l3 := L3.cell 3 _ rfl
  have l4 := L3.cell 4 _ rfl
  have l5 := L3.cell 5 _ rfl
  have l6 := L3.cell 6 _ rfl
  have l7 := L3.cell 7 _ rfl
  have l8 := L3.cell 8 _ rfl
  have l9 := L3.cell 9 _ rfl
  have l10 := L3.cell 10 _ rfl
  have l11 := L3.cell 11 _ rfl
  have l12 := L3.cell 12 _ rfl
  have l13 := L3.cell 13 _ rfl
  dsimp only at *
  clear dlt mlt P3 C3 L3
  obtain ⟨vd, hvd⟩ : ∃ v, (decide (1 ≤ c.d) && decide (c.d ≤ 7)) = v := ⟨_, rfl⟩
  have cwd := fun w => within_any c.d 1 7 vd w hvd.symm
  rw [hvd] at hr
  obtain ⟨vm, hvm⟩ : ∃ v, (decide (1 ≤ c.m) && decide (c.m ≤ 12)) = v := ⟨_, rfl⟩
  have cwm := fun w => within_any c.m 1 12 vm w hvm.symm
  rw [hvm] at hr
  obtain ⟨vs, hvs⟩ : ∃ v, (decide (0 ≤ c.s) && decide (c.s ≤ 1)) = v := ⟨_, rfl⟩
  have cws := fun w => within_any c.s 0 1 vs w hvs.symm
  rw [hvs] at hr
  obtain ⟨vc, hvc⟩ : ∃ v, decide (CutOk c) = v := ⟨_, rfl⟩
  have cc := fun w T => Cut_any c vc w hvc.symm T
  rw [hvc] at hr
  rw [decide_eq_true (show CalSame ⟨c.nm, x.k, c.d, c.m, c.s, c.sh, c.p0, c.p1, c.p2, c.cy, c.ex, c.fi, c.la, c.po⟩ c from ⟨hk.out, rfl, rfl, rfl, rfl, rfl, rfl, rfl, rfl, rfl, rfl, rfl, rfl⟩)] at q
  clear hvd hvm hvs hvc hk
  cases vd with
  | false =>
    (try simp at hr)
    subst hr
    go_wp2_with fail
    refine (cwd _).mono ?_
    rintro e w5 ⟨rfl, rfl⟩
    go_wp2_with fail
    go_ret
    exact ⟨rfl, B3⟩
  | true =>
    cases vm with
    | false =>
      (try simp at hr)
      subst hr
      go_wp2_with fail
      refine (cwd _).mono ?_
      rintro e w5 ⟨rfl, rfl⟩
      go_wp2_with fail
      refine (cwm _).mono ?_
      rintro e w5 ⟨rfl, rfl⟩
      go_wp2_with fail
      go_ret
      exact ⟨rfl, B3⟩
    | true =>
      cases vs with
      | false =>
        (try simp at hr)
        subst hr
        go_wp2_with fail
        refine (cwd _).mono ?_
        rintro e w5 ⟨rfl, rfl⟩
        go_wp2_with fail
        refine (cwm _).mono ?_
        rintro e w5 ⟨rfl, rfl⟩
        go_wp2_with fail
        refine (cws _).mono ?_
        rintro e w5 ⟨rfl, rfl⟩
        go_wp2_with fail
        go_ret
        exact ⟨rfl, B3⟩
      | true =>
        (try simp at hr)
        subst hr
        go_wp2_with fail
        refine (cwd _).mono ?_
        rintro e w5 ⟨rfl, rfl⟩
        go_wp2_with fail
        refine (cwm _).mono ?_
        rintro e w5 ⟨rfl, rfl⟩
        go_wp2_with fail
        refine (cws _).mono ?_
        rintro e w5 ⟨rfl, rfl⟩
        go_wp2_with fail
        refine (cc _ T3).mono ?_
        rintro e w6 ⟨rfl, hb⟩
        go_wp2
        go_ret
        exact ⟨rfl, bthen B3 hb⟩

set_option maxRecDepth 100000 in
theorem allows_ffft (x c : CalZ) (r : Bool) (w : World) (hr : r = (decide (CalSame ⟨c.nm, x.k, x.d, x.m, x.s, c.sh, c.p0, c.p1, c.p2, c.cy, c.ex, c.fi, c.la, c.po⟩ c) && decide (CutOk c))) (T : FTab w) :
    Calls Tryd.prog 30 #[.agg #[.string x.nm, .int .i64 x.k, .int .i64 x.d, .int .i64 x.m, .int .i64 x.s, .int .i64 x.sh, .int .i64 x.p0, .int .i64 x.p1, .int .i64 x.p2, .int .i64 x.cy, .int .i64 x.ex, .int .i64 x.fi, .int .i64 x.la, .int .i64 x.po, .bool false, .bool false, .bool false, .bool true], .agg #[.string c.nm, .int .i64 c.k, .int .i64 c.d, .int .i64 c.m, .int .i64 c.s, .int .i64 c.sh, .int .i64 c.p0, .int .i64 c.p1, .int .i64 c.p2, .int .i64 c.cy, .int .i64 c.ex, .int .i64 c.fi, .int .i64 c.la, .int .i64 c.po]] w fun e w' => e = .returned (.bool r) ∧ Below w.heap.size w w' := by
  have P := ((Box.new w #[.string x.nm, .int .i64 x.k, .int .i64 x.d, .int .i64 x.m, .int .i64 x.s, .int .i64 x.sh, .int .i64 x.p0, .int .i64 x.p1, .int .i64 x.p2, .int .i64 x.cy, .int .i64 x.ex, .int .i64 x.fi, .int .i64 x.la, .int .i64 x.po, .bool false, .bool false, .bool false, .bool true] 59).alloc (.cells #[.string c.nm, .int .i64 c.k, .int .i64 c.d, .int .i64 c.m, .int .i64 c.s, .int .i64 c.sh, .int .i64 c.p0, .int .i64 c.p1, .int .i64 c.p2, .int .i64 c.cy, .int .i64 c.ex, .int .i64 c.fi, .int .i64 c.la, .int .i64 c.po] 24)).alloc (.cells #[.string c.nm, .int .i64 c.k, .int .i64 c.d, .int .i64 c.m, .int .i64 c.s, .int .i64 c.sh, .int .i64 c.p0, .int .i64 c.p1, .int .i64 c.p2, .int .i64 c.cy, .int .i64 c.ex, .int .i64 c.fi, .int .i64 c.la, .int .i64 c.po] 24)
  have C0 := CalIn.new (w.alloc (.cells #[.string x.nm, .int .i64 x.k, .int .i64 x.d, .int .i64 x.m, .int .i64 x.s, .int .i64 x.sh, .int .i64 x.p0, .int .i64 x.p1, .int .i64 x.p2, .int .i64 x.cy, .int .i64 x.ex, .int .i64 x.fi, .int .i64 x.la, .int .i64 x.po, .bool false, .bool false, .bool false, .bool true] 59)) c 24
  have C := C0.alloc (.cells #[.string c.nm, .int .i64 c.k, .int .i64 c.d, .int .i64 c.m, .int .i64 c.s, .int .i64 c.sh, .int .i64 c.p0, .int .i64 c.p1, .int .i64 c.p2, .int .i64 c.cy, .int .i64 c.ex, .int .i64 c.fi, .int .i64 c.la, .int .i64 c.po] 24)
  have L := Box.new ((w.alloc (.cells #[.string x.nm, .int .i64 x.k, .int .i64 x.d, .int .i64 x.m, .int .i64 x.s, .int .i64 x.sh, .int .i64 x.p0, .int .i64 x.p1, .int .i64 x.p2, .int .i64 x.cy, .int .i64 x.ex, .int .i64 x.fi, .int .i64 x.la, .int .i64 x.po, .bool false, .bool false, .bool false, .bool true] 59)).alloc (.cells #[.string c.nm, .int .i64 c.k, .int .i64 c.d, .int .i64 c.m, .int .i64 c.s, .int .i64 c.sh, .int .i64 c.p0, .int .i64 c.p1, .int .i64 c.p2, .int .i64 c.cy, .int .i64 c.ex, .int .i64 c.fi, .int .i64 c.la, .int .i64 c.po] 24)) #[.string c.nm, .int .i64 c.k, .int .i64 c.d, .int .i64 c.m, .int .i64 c.s, .int .i64 c.sh, .int .i64 c.p0, .int .i64 c.p1, .int .i64 c.p2, .int .i64 c.cy, .int .i64 c.ex, .int .i64 c.fi, .int .i64 c.la, .int .i64 c.po] 24
  have B := balloc (balloc (balloc (Below.refl _ w) (.cells #[.string x.nm, .int .i64 x.k, .int .i64 x.d, .int .i64 x.m, .int .i64 x.s, .int .i64 x.sh, .int .i64 x.p0, .int .i64 x.p1, .int .i64 x.p2, .int .i64 x.cy, .int .i64 x.ex, .int .i64 x.fi, .int .i64 x.la, .int .i64 x.po, .bool false, .bool false, .bool false, .bool true] 59)) (.cells #[.string c.nm, .int .i64 c.k, .int .i64 c.d, .int .i64 c.m, .int .i64 c.s, .int .i64 c.sh, .int .i64 c.p0, .int .i64 c.p1, .int .i64 c.p2, .int .i64 c.cy, .int .i64 c.ex, .int .i64 c.fi, .int .i64 c.la, .int .i64 c.po] 24)) (.cells #[.string c.nm, .int .i64 c.k, .int .i64 c.d, .int .i64 c.m, .int .i64 c.s, .int .i64 c.sh, .int .i64 c.p0, .int .i64 c.p1, .int .i64 c.p2, .int .i64 c.cy, .int .i64 c.ex, .int .i64 c.fi, .int .i64 c.la, .int .i64 c.po] 24)
  have LC := box_range (Box.new (w.alloc (.cells #[.string x.nm, .int .i64 x.k, .int .i64 x.d, .int .i64 x.m, .int .i64 x.s, .int .i64 x.sh, .int .i64 x.p0, .int .i64 x.p1, .int .i64 x.p2, .int .i64 x.cy, .int .i64 x.ex, .int .i64 x.fi, .int .i64 x.la, .int .i64 x.po, .bool false, .bool false, .bool false, .bool true] 59)) #[.string c.nm, .int .i64 c.k, .int .i64 c.d, .int .i64 c.m, .int .i64 c.s, .int .i64 c.sh, .int .i64 c.p0, .int .i64 c.p1, .int .i64 c.p2, .int .i64 c.cy, .int .i64 c.ex, .int .i64 c.fi, .int .i64 c.la, .int .i64 c.po] 24)
  have z2 : (((w.alloc (.cells #[.string x.nm, .int .i64 x.k, .int .i64 x.d, .int .i64 x.m, .int .i64 x.s, .int .i64 x.sh, .int .i64 x.p0, .int .i64 x.p1, .int .i64 x.p2, .int .i64 x.cy, .int .i64 x.ex, .int .i64 x.fi, .int .i64 x.la, .int .i64 x.po, .bool false, .bool false, .bool false, .bool true] 59)).alloc (.cells #[.string c.nm, .int .i64 c.k, .int .i64 c.d, .int .i64 c.m, .int .i64 c.s, .int .i64 c.sh, .int .i64 c.p0, .int .i64 c.p1, .int .i64 c.p2, .int .i64 c.cy, .int .i64 c.ex, .int .i64 c.fi, .int .i64 c.la, .int .i64 c.po] 24)).alloc (.cells #[.string c.nm, .int .i64 c.k, .int .i64 c.d, .int .i64 c.m, .int .i64 c.s, .int .i64 c.sh, .int .i64 c.p0, .int .i64 c.p1, .int .i64 c.p2, .int .i64 c.cy, .int .i64 c.ex, .int .i64 c.fi, .int .i64 c.la, .int .i64 c.po] 24)).heap.size = w.heap.size + 3 := by simp
  simp only [World.size_alloc] at P C L LC
  go_enter Tryd.func30, Tryd.ntmps30
  go_upto_region 1 with fail
  apply wp_region_lit
  refine wpList_load_mid rfl _ _ rfl (w.heap.size + 1) 0 rfl _ _ LC Tryd.underlying24 rfl infoCal ?_
  simp only [Act.put]
  refine wpList_plain rfl (fun _ hK => ?_)
  go_simp
  refine hK _ _ ?_
  clear hK
  refine wpList_store_new (w := (w.alloc (.cells #[.string x.nm, .int .i64 x.k, .int .i64 x.d, .int .i64 x.m, .int .i64 x.s, .int .i64 x.sh, .int .i64 x.p0, .int .i64 x.p1, .int .i64 x.p2, .int .i64 x.cy, .int .i64 x.ex, .int .i64 x.fi, .int .i64 x.la, .int .i64 x.po, .bool false, .bool false, .bool false, .bool true] 59)).alloc (.cells #[.string c.nm, .int .i64 c.k, .int .i64 c.d, .int .i64 c.m, .int .i64 c.s, .int .i64 c.sh, .int .i64 c.p0, .int .i64 c.p1, .int .i64 c.p2, .int .i64 c.cy, .int .i64 c.ex, .int .i64 c.fi, .int .i64 c.la, .int .i64 c.po] 24)) rfl _ _ _ rfl _ #[.string c.nm, .int .i64 c.k, .int .i64 c.d, .int .i64 c.m, .int .i64 c.s, .int .i64 c.sh, .int .i64 c.p0, .int .i64 c.p1, .int .i64 c.p2, .int .i64 c.cy, .int .i64 c.ex, .int .i64 c.fi, .int .i64 c.la, .int .i64 c.po] 14 (by show Value.pointer (some (⟨w.heap.size + 1 + 1, 0, none⟩ : Addr)) = _; simp only [World.size_alloc]) rfl infoCal rfl rfl (by simp [Value.oneCell']) ?_
  simp only [Act.put]
  go_upto_region 2 with fail
  generalize ((w.alloc (.cells #[.string x.nm, .int .i64 x.k, .int .i64 x.d, .int .i64 x.m, .int .i64 x.s, .int .i64 x.sh, .int .i64 x.p0, .int .i64 x.p1, .int .i64 x.p2, .int .i64 x.cy, .int .i64 x.ex, .int .i64 x.fi, .int .i64 x.la, .int .i64 x.po, .bool false, .bool false, .bool false, .bool true] 59)).alloc (.cells #[.string c.nm, .int .i64 c.k, .int .i64 c.d, .int .i64 c.m, .int .i64 c.s, .int .i64 c.sh, .int .i64 c.p0, .int .i64 c.p1, .int .i64 c.p2, .int .i64 c.cy, .int .i64 c.ex, .int .i64 c.fi, .int .i64 c.la, .int .i64 c.po] 24)).alloc (.cells #[.string c.nm, .int .i64 c.k, .int .i64 c.d, .int .i64 c.m, .int .i64 c.s, .int .i64 c.sh, .int .i64 c.p0, .int .i64 c.p1, .int .i64 c.p2, .int .i64 c.cy, .int .i64 c.ex, .int .i64 c.fi, .int .i64 c.la, .int .i64 c.po] 24) = W2 at *
  apply wp_region_lit
  refine wpList_load_mid rfl _ _ rfl w.heap.size 0 rfl _ _ (box_range P) Tryd.underlying59 rfl infoEndA ?_
  simp only [Act.put]
  go_wp2_with fail
  refine (tell_ffft x c _ _ L).mono ?_
  rintro e w3 ⟨rfl, hB, L3⟩
  have P3 := box_upto P (by omega) hB
  have C3 := C.upto (by omega) hB (by omega)
  have B3 := B.trans (hB.mono (by omega))
  have T3 := T.kept B3
  clear P C L B LC z2 hB C0 T
  have q := fun w => cal_eql ⟨c.nm, x.k, x.d, x.m, x.s, c.sh, c.p0, c.p1, c.p2, c.cy, c.ex, c.fi, c.la, c.po⟩ c rfl w
  obtain ⟨da, dc, dlt, dg⟩ := T3.day
  obtain ⟨ma, mc, mlt, mg⟩ := T3.mon
  obtain ⟨_, c0, c1, c2, c3, c4, c5, c6, c7, c8, c9, c10, c11, c12, c13⟩ := id C3
  have p14 := P3.cell 14 _ rfl
  have p15 := P3.cell 15 _ rfl
  have p16 := P3.cell 16 _ rfl
  have p17 := P3.cell 17 _ rfl
  have l0 := L3.cell 0 _ rfl
  have l1 := L3.cell 1 _ rfl
  have l2 := L3.cell 2 _ rfl
  have l3 := L3.cell 3 _ rfl
  have l4 := L3.cell 4 _ rfl
  have l5 := L3.cell 5 _ rfl
  have l6 := L3.cell 6 _ rfl
  have l7 := L3.cell 7 _ rfl
  have l8 := L3.cell 8 _ rfl
  have l9 := L3.cell 9 _ rfl
  have l10 := L3.cell 10 _ rfl
  have l11 := L3.cell 11 _ rfl
  have l12 := L3.cell 12 _ rfl
  have l13 := L3.cell 13 _ rfl
  dsimp only at *
  clear dlt mlt P3 C3 L3
  obtain ⟨vc, hvc⟩ : ∃ v, decide (CutOk c) = v := ⟨_, rfl⟩
  have cc := fun w T => Cut_any c vc w hvc.symm T
  rw [hvc] at hr
  obtain ⟨ve, hve⟩ : ∃ v, decide (CalSame ⟨c.nm, x.k, x.d, x.m, x.s, c.sh, c.p0, c.p1, c.p2, c.cy, c.ex, c.fi, c.la, c.po⟩ c) = v := ⟨_, rfl⟩
  rw [hve] at hr q
  clear hvc hve
  cases ve with
  | false =>
    (try simp at hr)
    subst hr
    go_wp2_with fail
    go_ret
    exact ⟨rfl, B3⟩
  | true =>
    (try simp at hr)
    subst hr
    go_wp2_with fail
    refine (cc _ T3).mono ?_
    rintro e w6 ⟨rfl, hb⟩
    go_wp2
    go_ret
    exact ⟨rfl, bthen B3 hb⟩

set_option maxRecDepth 100000 in
theorem allows_ffff (x c : CalZ) (r : Bool) (w : World) (hr : r = decide (CalSame ⟨c.nm, x.k, x.d, x.m, x.s, x.sh, x.p0, x.p1, x.p2, x.cy, x.ex, c.fi, c.la, c.po⟩ c)) (T : FTab w) :
    Calls Tryd.prog 30 #[.agg #[.string x.nm, .int .i64 x.k, .int .i64 x.d, .int .i64 x.m, .int .i64 x.s, .int .i64 x.sh, .int .i64 x.p0, .int .i64 x.p1, .int .i64 x.p2, .int .i64 x.cy, .int .i64 x.ex, .int .i64 x.fi, .int .i64 x.la, .int .i64 x.po, .bool false, .bool false, .bool false, .bool false], .agg #[.string c.nm, .int .i64 c.k, .int .i64 c.d, .int .i64 c.m, .int .i64 c.s, .int .i64 c.sh, .int .i64 c.p0, .int .i64 c.p1, .int .i64 c.p2, .int .i64 c.cy, .int .i64 c.ex, .int .i64 c.fi, .int .i64 c.la, .int .i64 c.po]] w fun e w' => e = .returned (.bool r) ∧ Below w.heap.size w w' := by
  have P := ((Box.new w #[.string x.nm, .int .i64 x.k, .int .i64 x.d, .int .i64 x.m, .int .i64 x.s, .int .i64 x.sh, .int .i64 x.p0, .int .i64 x.p1, .int .i64 x.p2, .int .i64 x.cy, .int .i64 x.ex, .int .i64 x.fi, .int .i64 x.la, .int .i64 x.po, .bool false, .bool false, .bool false, .bool false] 59).alloc (.cells #[.string c.nm, .int .i64 c.k, .int .i64 c.d, .int .i64 c.m, .int .i64 c.s, .int .i64 c.sh, .int .i64 c.p0, .int .i64 c.p1, .int .i64 c.p2, .int .i64 c.cy, .int .i64 c.ex, .int .i64 c.fi, .int .i64 c.la, .int .i64 c.po] 24)).alloc (.cells #[.string c.nm, .int .i64 c.k, .int .i64 c.d, .int .i64 c.m, .int .i64 c.s, .int .i64 c.sh, .int .i64 c.p0, .int .i64 c.p1, .int .i64 c.p2, .int .i64 c.cy, .int .i64 c.ex, .int .i64 c.fi, .int .i64 c.la, .int .i64 c.po] 24)
  have C0 := CalIn.new (w.alloc (.cells #[.string x.nm, .int .i64 x.k, .int .i64 x.d, .int .i64 x.m, .int .i64 x.s, .int .i64 x.sh, .int .i64 x.p0, .int .i64 x.p1, .int .i64 x.p2, .int .i64 x.cy, .int .i64 x.ex, .int .i64 x.fi, .int .i64 x.la, .int .i64 x.po, .bool false, .bool false, .bool false, .bool false] 59)) c 24
  have C := C0.alloc (.cells #[.string c.nm, .int .i64 c.k, .int .i64 c.d, .int .i64 c.m, .int .i64 c.s, .int .i64 c.sh, .int .i64 c.p0, .int .i64 c.p1, .int .i64 c.p2, .int .i64 c.cy, .int .i64 c.ex, .int .i64 c.fi, .int .i64 c.la, .int .i64 c.po] 24)
  have L := Box.new ((w.alloc (.cells #[.string x.nm, .int .i64 x.k, .int .i64 x.d, .int .i64 x.m, .int .i64 x.s, .int .i64 x.sh, .int .i64 x.p0, .int .i64 x.p1, .int .i64 x.p2, .int .i64 x.cy, .int .i64 x.ex, .int .i64 x.fi, .int .i64 x.la, .int .i64 x.po, .bool false, .bool false, .bool false, .bool false] 59)).alloc (.cells #[.string c.nm, .int .i64 c.k, .int .i64 c.d, .int .i64 c.m, .int .i64 c.s, .int .i64 c.sh, .int .i64 c.p0, .int .i64 c.p1, .int .i64 c.p2, .int .i64 c.cy, .int .i64 c.ex, .int .i64 c.fi, .int .i64 c.la, .int .i64 c.po] 24)) #[.string c.nm, .int .i64 c.k, .int .i64 c.d, .int .i64 c.m, .int .i64 c.s, .int .i64 c.sh, .int .i64 c.p0, .int .i64 c.p1, .int .i64 c.p2, .int .i64 c.cy, .int .i64 c.ex, .int .i64 c.fi, .int .i64 c.la, .int .i64 c.po] 24
  have B := balloc (balloc (balloc (Below.refl _ w) (.cells #[.string x.nm, .int .i64 x.k, .int .i64 x.d, .int .i64 x.m, .int .i64 x.s, .int .i64 x.sh, .int .i64 x.p0, .int .i64 x.p1, .int .i64 x.p2, .int .i64 x.cy, .int .i64 x.ex, .int .i64 x.fi, .int .i64 x.la, .int .i64 x.po, .bool false, .bool false, .bool false, .bool false] 59)) (.cells #[.string c.nm, .int .i64 c.k, .int .i64 c.d, .int .i64 c.m, .int .i64 c.s, .int .i64 c.sh, .int .i64 c.p0, .int .i64 c.p1, .int .i64 c.p2, .int .i64 c.cy, .int .i64 c.ex, .int .i64 c.fi, .int .i64 c.la, .int .i64 c.po] 24)) (.cells #[.string c.nm, .int .i64 c.k, .int .i64 c.d, .int .i64 c.m, .int .i64 c.s, .int .i64 c.sh, .int .i64 c.p0, .int .i64 c.p1, .int .i64 c.p2, .int .i64 c.cy, .int .i64 c.ex, .int .i64 c.fi, .int .i64 c.la, .int .i64 c.po] 24)
  have LC := box_range (Box.new (w.alloc (.cells #[.string x.nm, .int .i64 x.k, .int .i64 x.d, .int .i64 x.m, .int .i64 x.s, .int .i64 x.sh, .int .i64 x.p0, .int .i64 x.p1, .int .i64 x.p2, .int .i64 x.cy, .int .i64 x.ex, .int .i64 x.fi, .int .i64 x.la, .int .i64 x.po, .bool false, .bool false, .bool false, .bool false] 59)) #[.string c.nm, .int .i64 c.k, .int .i64 c.d, .int .i64 c.m, .int .i64 c.s, .int .i64 c.sh, .int .i64 c.p0, .int .i64 c.p1, .int .i64 c.p2, .int .i64 c.cy, .int .i64 c.ex, .int .i64 c.fi, .int .i64 c.la, .int .i64 c.po] 24)
  have z2 : (((w.alloc (.cells #[.string x.nm, .int .i64 x.k, .int .i64 x.d, .int .i64 x.m, .int .i64 x.s, .int .i64 x.sh, .int .i64 x.p0, .int .i64 x.p1, .int .i64 x.p2, .int .i64 x.cy, .int .i64 x.ex, .int .i64 x.fi, .int .i64 x.la, .int .i64 x.po, .bool false, .bool false, .bool false, .bool false] 59)).alloc (.cells #[.string c.nm, .int .i64 c.k, .int .i64 c.d, .int .i64 c.m, .int .i64 c.s, .int .i64 c.sh, .int .i64 c.p0, .int .i64 c.p1, .int .i64 c.p2, .int .i64 c.cy, .int .i64 c.ex, .int .i64 c.fi, .int .i64 c.la, .int .i64 c.po] 24)).alloc (.cells #[.string c.nm, .int .i64 c.k, .int .i64 c.d, .int .i64 c.m, .int .i64 c.s, .int .i64 c.sh, .int .i64 c.p0, .int .i64 c.p1, .int .i64 c.p2, .int .i64 c.cy, .int .i64 c.ex, .int .i64 c.fi, .int .i64 c.la, .int .i64 c.po] 24)).heap.size = w.heap.size + 3 := by simp
  simp only [World.size_alloc] at P C L LC
  go_enter Tryd.func30, Tryd.ntmps30
  go_upto_region 1 with fail
  apply wp_region_lit
  refine wpList_load_mid rfl _ _ rfl (w.heap.size + 1) 0 rfl _ _ LC Tryd.underlying24 rfl infoCal ?_
  simp only [Act.put]
  refine wpList_plain rfl (fun _ hK => ?_)
  go_simp
  refine hK _ _ ?_
  clear hK
  refine wpList_store_new (w := (w.alloc (.cells #[.string x.nm, .int .i64 x.k, .int .i64 x.d, .int .i64 x.m, .int .i64 x.s, .int .i64 x.sh, .int .i64 x.p0, .int .i64 x.p1, .int .i64 x.p2, .int .i64 x.cy, .int .i64 x.ex, .int .i64 x.fi, .int .i64 x.la, .int .i64 x.po, .bool false, .bool false, .bool false, .bool false] 59)).alloc (.cells #[.string c.nm, .int .i64 c.k, .int .i64 c.d, .int .i64 c.m, .int .i64 c.s, .int .i64 c.sh, .int .i64 c.p0, .int .i64 c.p1, .int .i64 c.p2, .int .i64 c.cy, .int .i64 c.ex, .int .i64 c.fi, .int .i64 c.la, .int .i64 c.po] 24)) rfl _ _ _ rfl _ #[.string c.nm, .int .i64 c.k, .int .i64 c.d, .int .i64 c.m, .int .i64 c.s, .int .i64 c.sh, .int .i64 c.p0, .int .i64 c.p1, .int .i64 c.p2, .int .i64 c.cy, .int .i64 c.ex, .int .i64 c.fi, .int .i64 c.la, .int .i64 c.po] 14 (by show Value.pointer (some (⟨w.heap.size + 1 + 1, 0, none⟩ : Addr)) = _; simp only [World.size_alloc]) rfl infoCal rfl rfl (by simp [Value.oneCell']) ?_
  simp only [Act.put]
  go_upto_region 2 with fail
  generalize ((w.alloc (.cells #[.string x.nm, .int .i64 x.k, .int .i64 x.d, .int .i64 x.m, .int .i64 x.s, .int .i64 x.sh, .int .i64 x.p0, .int .i64 x.p1, .int .i64 x.p2, .int .i64 x.cy, .int .i64 x.ex, .int .i64 x.fi, .int .i64 x.la, .int .i64 x.po, .bool false, .bool false, .bool false, .bool false] 59)).alloc (.cells #[.string c.nm, .int .i64 c.k, .int .i64 c.d, .int .i64 c.m, .int .i64 c.s, .int .i64 c.sh, .int .i64 c.p0, .int .i64 c.p1, .int .i64 c.p2, .int .i64 c.cy, .int .i64 c.ex, .int .i64 c.fi, .int .i64 c.la, .int .i64 c.po] 24)).alloc (.cells #[.string c.nm, .int .i64 c.k, .int .i64 c.d, .int .i64 c.m, .int .i64 c.s, .int .i64 c.sh, .int .i64 c.p0, .int .i64 c.p1, .int .i64 c.p2, .int .i64 c.cy, .int .i64 c.ex, .int .i64 c.fi, .int .i64 c.la, .int .i64 c.po] 24) = W2 at *
  apply wp_region_lit
  refine wpList_load_mid rfl _ _ rfl w.heap.size 0 rfl _ _ (box_range P) Tryd.underlying59 rfl infoEndA ?_
  simp only [Act.put]
  go_wp2_with fail
  refine (tell_ffff x c _ _ L).mono ?_
  rintro e w3 ⟨rfl, hB, L3⟩
  have P3 := box_upto P (by omega) hB
  have C3 := C.upto (by omega) hB (by omega)
  have B3 := B.trans (hB.mono (by omega))
  have T3 := T.kept B3
  clear P C L B LC z2 hB C0 T
  have q := fun w => cal_eql ⟨c.nm, x.k, x.d, x.m, x.s, x.sh, x.p0, x.p1, x.p2, x.cy, x.ex, c.fi, c.la, c.po⟩ c rfl w
  obtain ⟨da, dc, dlt, dg⟩ := T3.day
  obtain ⟨ma, mc, mlt, mg⟩ := T3.mon
  obtain ⟨_, c0, c1, c2, c3, c4, c5, c6, c7, c8, c9, c10, c11, c12, c13⟩ := id C3
  have p14 := P3.cell 14 _ rfl
  have p15 := P3.cell 15 _ rfl
  have p16 := P3.cell 16 _ rfl
  have p17 := P3.cell 17 _ rfl
  have l0 := L3.cell 0 _ rfl
  have l1 := L3.cell 1 _ rfl
  have l2 := L3.cell 2 _ rfl
  have l3 := L3.cell 3 _ rfl
  have l4 := L3.cell 4 _ rfl
  have l5 := L3.cell 5 _ rfl
  have l6 := L3.cell 6 _ rfl
  have l7 := L3.cell 7 _ rfl
  have l8 := L3.cell 8 _ rfl
  have l9 := L3.cell 9 _ rfl
  have l10 := L3.cell 10 _ rfl
  have l11 := L3.cell 11 _ rfl
  have l12 := L3.cell 12 _ rfl
  have l13 := L3.cell 13 _ rfl
  dsimp only at *
  clear dlt mlt P3 C3 L3
  obtain ⟨ve, hve⟩ : ∃ v, decide (CalSame ⟨c.nm, x.k, x.d, x.m, x.s, x.sh, x.p0, x.p1, x.p2, x.cy, x.ex, c.fi, c.la, c.po⟩ c) = v := ⟨_, rfl⟩
  rw [hve] at hr q
  clear hve
  cases ve with
  | false =>
    (try simp at hr)
    subst hr
    go_wp2_with fail
    go_ret
    exact ⟨rfl, B3⟩
  | true =>
    (try simp at hr)
    subst hr
    go_wp2_with fail
    go_ret
    exact ⟨rfl, B3⟩

set_option maxRecDepth 100000 in
theorem allows_fttf (x c : CalZ) (r : Bool) (w : World) (hr : r = (decide (CalSame ⟨c.nm, x.k, x.d, c.m, c.s, x.sh, x.p0, x.p1, x.p2, x.cy, x.ex, c.fi, c.la, c.po⟩ c) && ((decide (1 ≤ c.m) && decide (c.m ≤ 12)) && (decide (0 ≤ c.s) && decide (c.s ≤ 1))))) (T : FTab w) :
    Calls Tryd.prog 30 #[.agg #[.string x.nm, .int .i64 x.k, .int .i64 x.d, .int .i64 x.m, .int .i64 x.s, .int .i64 x.sh, .int .i64 x.p0, .int .i64 x.p1, .int .i64 x.p2, .int .i64 x.cy, .int .i64 x.ex, .int .i64 x.fi, .int .i64 x.la, .int .i64 x.po, .bool false, .bool true, .bool true, .bool false], .agg #[.string c.nm, .int .i64 c.k, .int .i64 c.d, .int .i64 c.m, .int .i64 c.s, .int .i64 c.sh, .int .i64 c.p0, .int .i64 c.p1, .int .i64 c.p2, .int .i64 c.cy, .int .i64 c.ex, .int .i64 c.fi, .int .i64 c.la, .int .i64 c.po]] w fun e w' => e = .returned (.bool r) ∧ Below w.heap.size w w' := by
  have P := ((Box.new w #[.string x.nm, .int .i64 x.k, .int .i64 x.d, .int .i64 x.m, .int .i64 x.s, .int .i64 x.sh, .int .i64 x.p0, .int .i64 x.p1, .int .i64 x.p2, .int .i64 x.cy, .int .i64 x.ex, .int .i64 x.fi, .int .i64 x.la, .int .i64 x.po, .bool false, .bool true, .bool true, .bool false] 59).alloc (.cells #[.string c.nm, .int .i64 c.k, .int .i64 c.d, .int .i64 c.m, .int .i64 c.s, .int .i64 c.sh, .int .i64 c.p0, .int .i64 c.p1, .int .i64 c.p2, .int .i64 c.cy, .int .i64 c.ex, .int .i64 c.fi, .int .i64 c.la, .int .i64 c.po] 24)).alloc (.cells #[.string c.nm, .int .i64 c.k, .int .i64 c.d, .int .i64 c.m, .int .i64 c.s, .int .i64 c.sh, .int .i64 c.p0, .int .i64 c.p1, .int .i64 c.p2, .int .i64 c.cy, .int .i64 c.ex, .int .i64 c.fi, .int .i64 c.la, .int .i64 c.po] 24)
  have C0 := CalIn.new (w.alloc (.cells #[.string x.nm, .int .i64 x.k, .int .i64 x.d, .int .i64 x.m, .int .i64 x.s, .int .i64 x.sh, .int .i64 x.p0, .int .i64 x.p1, .int .i64 x.p2, .int .i64 x.cy, .int .i64 x.ex, .int .i64 x.fi, .int .i64 x.la, .int .i64 x.po, .bool false, .bool true, .bool true, .bool false] 59)) c 24
  have C := C0.alloc (.cells #[.string c.nm, .int .i64 c.k, .int .i64 c.d, .int .i64 c.m, .int .i64 c.s, .int .i64 c.sh, .int .i64 c.p0, .int .i64 c.p1, .int .i64 c.p2, .int .i64 c.cy, .int .i64 c.ex, .int .i64 c.fi, .int .i64 c.la, .int .i64 c.po] 24)
  have L := Box.new ((w.alloc (.cells #[.string x.nm, .int .i64 x.k, .int .i64 x.d, .int .i64 x.m, .int .i64 x.s, .int .i64 x.sh, .int .i64 x.p0, .int .i64 x.p1, .int .i64 x.p2, .int .i64 x.cy, .int .i64 x.ex, .int .i64 x.fi, .int .i64 x.la, .int .i64 x.po, .bool false, .bool true, .bool true, .bool false] 59)).alloc (.cells #[.string c.nm, .int .i64 c.k, .int .i64 c.d, .int .i64 c.m, .int .i64 c.s, .int .i64 c.sh, .int .i64 c.p0, .int .i64 c.p1, .int .i64 c.p2, .int .i64 c.cy, .int .i64 c.ex, .int .i64 c.fi, .int .i64 c.la, .int .i64 c.po] 24)) #[.string c.nm, .int .i64 c.k, .int .i64 c.d, .int .i64 c.m, .int .i64 c.s, .int .i64 c.sh, .int .i64 c.p0, .int .i64 c.p1, .int .i64 c.p2, .int .i64 c.cy, .int .i64 c.ex, .int .i64 c.fi, .int .i64 c.la, .int .i64 c.po] 24
  have B := balloc (balloc (balloc (Below.refl _ w) (.cells #[.string x.nm, .int .i64 x.k, .int .i64 x.d, .int .i64 x.m, .int .i64 x.s, .int .i64 x.sh, .int .i64 x.p0, .int .i64 x.p1, .int .i64 x.p2, .int .i64 x.cy, .int .i64 x.ex, .int .i64 x.fi, .int .i64 x.la, .int .i64 x.po, .bool false, .bool true, .bool true, .bool false] 59)) (.cells #[.string c.nm, .int .i64 c.k, .int .i64 c.d, .int .i64 c.m, .int .i64 c.s, .int .i64 c.sh, .int .i64 c.p0, .int .i64 c.p1, .int .i64 c.p2, .int .i64 c.cy, .int .i64 c.ex, .int .i64 c.fi, .int .i64 c.la, .int .i64 c.po] 24)) (.cells #[.string c.nm, .int .i64 c.k, .int .i64 c.d, .int .i64 c.m, .int .i64 c.s, .int .i64 c.sh, .int .i64 c.p0, .int .i64 c.p1, .int .i64 c.p2, .int .i64 c.cy, .int .i64 c.ex, .int .i64 c.fi, .int .i64 c.la, .int .i64 c.po] 24)
  have LC := box_range (Box.new (w.alloc (.cells #[.string x.nm, .int .i64 x.k, .int .i64 x.d, .int .i64 x.m, .int .i64 x.s, .int .i64 x.sh, .int .i64 x.p0, .int .i64 x.p1, .int .i64 x.p2, .int .i64 x.cy, .int .i64 x.ex, .int .i64 x.fi, .int .i64 x.la, .int .i64 x.po, .bool false, .bool true, .bool true, .bool false] 59)) #[.string c.nm, .int .i64 c.k, .int .i64 c.d, .int .i64 c.m, .int .i64 c.s, .int .i64 c.sh, .int .i64 c.p0, .int .i64 c.p1, .int .i64 c.p2, .int .i64 c.cy, .int .i64 c.ex, .int .i64 c.fi, .int .i64 c.la, .int .i64 c.po] 24)
  have z2 : (((w.alloc (.cells #[.string x.nm, .int .i64 x.k, .int .i64 x.d, .int .i64 x.m, .int .i64 x.s, .int .i64 x.sh, .int .i64 x.p0, .int .i64 x.p1, .int .i64 x.p2, .int .i64 x.cy, .int .i64 x.ex, .int .i64 x.fi, .int .i64 x.la, .int .i64 x.po, .bool false, .bool true, .bool true, .bool false] 59)).alloc (.cells #[.string c.nm, .int .i64 c.k, .int .i64 c.d, .int .i64 c.m, .int .i64 c.s, .int .i64 c.sh, .int .i64 c.p0, .int .i64 c.p1, .int .i64 c.p2, .int .i64 c.cy, .int .i64 c.ex, .int .i64 c.fi, .int .i64 c.la, .int .i64 c.po] 24)).alloc (.cells #[.string c.nm, .int .i64 c.k, .int .i64 c.d, .int .i64 c.m, .int .i64 c.s, .int .i64 c.sh, .int .i64 c.p0, .int .i64 c.p1, .int .i64 c.p2, .int .i64 c.cy, .int .i64 c.ex, .int .i64 c.fi, .int .i64 c.la, .int .i64 c.po] 24)).heap.size = w.heap.size + 3 := by simp
  simp only [World.size_alloc] at P C L LC
  go_enter Tryd.func30, Tryd.ntmps30
  go_upto_region 1 with fail
  apply wp_region_lit
  refine wpList_load_mid rfl _ _ rfl (w.heap.size + 1) 0 rfl _ _ LC Tryd.underlying24 rfl infoCal ?_
  simp only [Act.put]
  refine wpList_plain rfl (fun _ hK => ?_)
  go_simp
  refine hK _ _ ?_
  clear hK
  refine wpList_store_new (w := (w.alloc (.cells #[.string x.nm, .int .i64 x.k, .int .i64 x.d, .int .i64 x.m, .int .i64 x.s, .int .i64 x.sh, .int .i64 x.p0, .int .i64 x.p1, .int .i64 x.p2, .int .i64 x.cy, .int .i64 x.ex, .int .i64 x.fi, .int .i64 x.la, .int .i64 x.po, .bool false, .bool true, .bool true, .bool false] 59)).alloc (.cells #[.string c.nm, .int .i64 c.k, .int .i64 c.d, .int .i64 c.m, .int .i64 c.s, .int .i64 c.sh, .int .i64 c.p0, .int .i64 c.p1, .int .i64 c.p2, .int .i64 c.cy, .int .i64 c.ex, .int .i64 c.fi, .int .i64 c.la, .int .i64 c.po] 24)) rfl _ _ _ rfl _ #[.string c.nm, .int .i64 c.k, .int .i64 c.d, .int .i64 c.m, .int .i64 c.s, .int .i64 c.sh, .int .i64 c.p0, .int .i64 c.p1, .int .i64 c.p2, .int .i64 c.cy, .int .i64 c.ex, .int .i64 c.fi, .int .i64 c.la, .int .i64 c.po] 14 (by show Value.pointer (some (⟨w.heap.size + 1 + 1, 0, none⟩ : Addr)) = _; simp only [World.size_alloc]) rfl infoCal rfl rfl (by simp [Value.oneCell']) ?_
  simp only [Act.put]
  go_upto_region 2 with fail
  generalize ((w.alloc (.cells #[.string x.nm, .int .i64 x.k, .int .i64 x.d, .int .i64 x.m, .int .i64 x.s, .int .i64 x.sh, .int .i64 x.p0, .int .i64 x.p1, .int .i64 x.p2, .int .i64 x.cy, .int .i64 x.ex, .int .i64 x.fi, .int .i64 x.la, .int .i64 x.po, .bool false, .bool true, .bool true, .bool false] 59)).alloc (.cells #[.string c.nm, .int .i64 c.k, .int .i64 c.d, .int .i64 c.m, .int .i64 c.s, .int .i64 c.sh, .int .i64 c.p0, .int .i64 c.p1, .int .i64 c.p2, .int .i64 c.cy, .int .i64 c.ex, .int .i64 c.fi, .int .i64 c.la, .int .i64 c.po] 24)).alloc (.cells #[.string c.nm, .int .i64 c.k, .int .i64 c.d, .int .i64 c.m, .int .i64 c.s, .int .i64 c.sh, .int .i64 c.p0, .int .i64 c.p1, .int .i64 c.p2, .int .i64 c.cy, .int .i64 c.ex, .int .i64 c.fi, .int .i64 c.la, .int .i64 c.po] 24) = W2 at *
  apply wp_region_lit
  refine wpList_load_mid rfl _ _ rfl w.heap.size 0 rfl _ _ (box_range P) Tryd.underlying59 rfl infoEndA ?_
  simp only [Act.put]
  go_wp2_with fail
  refine (tell_fttf x c _ _ L).mono ?_
  rintro e w3 ⟨rfl, hB, L3⟩
  have P3 := box_upto P (by omega) hB
  have C3 := C.upto (by omega) hB (by omega)
  have B3 := B.trans (hB.mono (by omega))
  have T3 := T.kept B3
  clear P C L B LC z2 hB C0 T
  have q := fun w => cal_eql ⟨c.nm, x.k, x.d, c.m, c.s, x.sh, x.p0, x.p1, x.p2, x.cy, x.ex, c.fi, c.la, c.po⟩ c rfl w
  obtain ⟨da, dc, dlt, dg⟩ := T3.day
  obtain ⟨ma, mc, mlt, mg⟩ := T3.mon
  obtain ⟨_, c0, c1, c2, c3, c4, c5, c6, c7, c8, c9, c10, c11, c12, c13⟩ := id C3
  have p14 := P3.cell 14 _ rfl
  have p15 := P3.cell 15 _ rfl
  have p16 := P3.cell 16 _ rfl
  have p17 := P3.cell 17 _ rfl
  have l0 := L3.cell 0 _ rfl
  have l1 := L3.cell 1 _ rfl
  have l2 := L3.cell 2 _ rfl
  have l3 := L3.cell 3 _ rfl
  have l4 := L3.cell 4 _ rfl
  have l5 := L3.cell 5 _ rfl
  have l6 := L3.cell 6 _ rfl
  have l7 := L3.cell 7 _ rfl
  have l8 := L3.cell 8 _ rfl
  have l9 := L3.cell 9 _ rfl
  have l10 := L3.cell 10 _ rfl
  have l11 := L3.cell 11 _ rfl
  have l12 := L3.cell 12 _ rfl
  have l13 := L3.cell 13 _ rfl
  dsimp only at *
  clear dlt mlt P3 C3 L3
  obtain ⟨vm, hvm⟩ : ∃ v, (decide (1 ≤ c.m) && decide (c.m ≤ 12)) = v := ⟨_, rfl⟩
  have cwm := fun w => within_any c.m 1 12 vm w hvm.symm
  rw [hvm] at hr
  obtain ⟨vs, hvs⟩ : ∃ v, (decide (0 ≤ c.s) && decide (c.s ≤ 1)) = v := ⟨_, rfl⟩
  have cws := fun w => within_any c.s 0 1 vs w hvs.symm
  rw [hvs] at hr
  obtain ⟨ve, hve⟩ : ∃ v, decide (CalSame ⟨c.nm, x.k, x.d, c.m, c.s, x.sh, x.p0, x.p1, x.p2, x.cy, x.ex, c.fi, c.la, c.po⟩ c) = v := ⟨_, rfl⟩
  rw [hve] at hr q
  clear hvm hvs hve
  cases ve with
  | false =>
    (try simp at hr)
    subst hr
    go_wp2_with fail
    go_ret
    exact ⟨rfl, B3⟩
  | true =>
    cases vm with
    | false =>
      (try simp at hr)
      subst hr
      go_wp2_with fail
      refine (cwm _).mono ?_
      rintro e w5 ⟨rfl, rfl⟩
      go_wp2_with fail
      go_ret
      exact ⟨rfl, B3⟩
    | true =>
      cases vs with
      | false =>
        (try simp at hr)
        subst hr
        go_wp2_with fail
        refine (cwm _).mono ?_
        rintro e w5 ⟨rfl, rfl⟩
        go_wp2_with fail
        refine (cws _).mono ?_
        rintro e w5 ⟨rfl, rfl⟩
        go_wp2_with fail
        go_ret
        exact ⟨rfl, B3⟩
      | true =>
        (try simp at hr)
        subst hr
        go_wp2_with fail
        refine (cwm _).mono ?_
        rintro e w5 ⟨rfl, rfl⟩
        go_wp2_with fail
        refine (cws _).mono ?_
        rintro e w5 ⟨rfl, rfl⟩
        go_wp2_with fail
        go_ret
        exact ⟨rfl, B3⟩

end Go.Proofs.YtaiodjgpojfekaaDoor.Fp
