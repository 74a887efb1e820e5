/- FieldRight, walked. -/
import Derived.Test.YtnjmokmlnpehdaaGreatDoorFlive
import Derived.Test.YtnjmokmlnpehdaaGreatDoorFper
import Derived.Test.YtnjmokmlnpehdaaGreatDoorJFd
import Derived.Deep.RegionHeld3
import Derived.BigRegion
namespace Go.Proofs.YtnjmokmlnpehdaaGreatDoor.Fl
set_option linter.unusedSimpArgs false
set_option linter.unusedVariables false
open Go Go.RowKit Go.Proofs.YtnjmokmlnpehdaaGreatDoor.Am Go.Proofs.YtnjmokmlnpehdaaGreatDoor.Bn Go.Proofs.YtnjmokmlnpehdaaGreatDoor.Zp Go.Proofs.YtnjmokmlnpehdaaGreatDoor.Zk Go.Proofs.YtnjmokmlnpehdaaGreatDoor.Yg Go.Proofs.YtnjmokmlnpehdaaGreatDoor.Fm Go.Proofs.YtnjmokmlnpehdaaGreatDoor.Fp

set_option maxHeartbeats 8000000

theorem ex_per {c : CalZ} (h : KindOk c) : 0 ≤ c.ex ∧ c.ex ≤ per c := by
  have hb := per_bd h
  rcases shape_cases h with h | h | ⟨_, _, h⟩
  · omega
  · omega
  · rcases cut_cases h with h | h | h | h | h <;> omega

set_option maxRecDepth 100000 in
theorem fright_walk (nm : ByteArray) (a : Int) (wp : Option Addr) (wn wc : Nat) (bl : Bool) (kp : Option Addr) (kn kc : Nat) (ws : List WI) (ks : List NI) (w : World) (H : NodeOf w nm a wp wn wc bl kp kn kc ws ks) (tb : NTabs w) :
    Calls Tryz.prog 6 #[.agg #[.string nm, .int .i64 a, .slice wp wn wc, .bool bl, .slice kp kn kc]] w fun e w' => e = .returned (.bool true) ∧ Below w.heap.size w w' := by
  obtain ⟨rfl, rfl, hwl, hkl, ha, hwf, hln, hws, hks, hcap⟩ := id H
  have HN := Lib.hid H
  have hT := Lib.hid tb
  have cl := flive_ok
  obtain ⟨r0, hr0⟩ : ∃ r, decide (0 ≤ lft 12 [.mk nm a ws bl ks] 40) = r := ⟨_, rfl⟩
  have HWF := Lib.hid hwf
  have cf : Hid (∀ W, Below w.heap.size w W → Calls Tryz.prog 12 #[.slice (some ⟨W.heap.size, 0, none⟩) 1 1, .int .i64 40] (W.alloc (.cells #[.string nm, .int .i64 a, .slice wp ws.length wc, .bool bl, .slice kp ks.length kc] 25 (0, 0))) fun e w' => e = .returned (.bool r0) ∧ Below (W.alloc (.cells #[.string nm, .int .i64 a, .slice wp ws.length wc, .bool bl, .slice kp ks.length kc] 25 (0, 0))).heap.size (W.alloc (.cells #[.string nm, .int .i64 a, .slice wp ws.length wc, .bool bl, .slice kp ks.length kc] 25 (0, 0))) w') := Lib.hid (fun W hB =>
    rFewI_any [.mk nm a ws bl ks] (.slice (some ⟨W.heap.size, 0, none⟩) 1 1) (fun b => b < w.heap.size ∨ b = W.heap.size) (W.alloc (.cells #[.string nm, .int .i64 a, .slice wp ws.length wc, .bool bl, .slice kp ks.length kc] 25 (0, 0))) 40 r0
      (one_item 25 W.heap.size rfl (hws.kept (fun b hb => hB.block b hb)) (hks.on (fun _ h => h) hB) (fun b hb => Nat.lt_of_lt_of_le hb hB.size))
      (fun b hb => by have := hB.size; simp; omega) (by simp [maxLen]) ⟨hln, trivial⟩ (by omega) (by omega) (Lib.hid hr0))
  have N0 := Box.new w #[.string nm, .int .i64 a, .slice wp ws.length wc, .bool bl, .slice kp ks.length kc] 25
  have B0 := balloc (Below.refl _ w) (.cells #[.string nm, .int .i64 a, .slice wp ws.length wc, .bool bl, .slice kp ks.length kc] 25)
  have HR0 := Lib.hid hr0
  clear H hwl hkl ha hwf hln hks hcap hr0 tb
  go_enter Tryz.func6, Tryz.ntmps6
  go_upto_region 1 with fail
  generalize w.alloc (.cells #[.string nm, .int .i64 a, .slice wp ws.length wc, .bool bl, .slice kp ks.length kc] 25) = W0 at *
  go_wp2_with fail
  refine (cl _ ⟨hT.out.n.kept B0, hT.out.p.kept B0⟩).mono ?_
  rintro e W1 ⟨rfl, hb1⟩
  have N1 := N0.kept hb1
  have B1 := bthen B0 hb1
  obtain ⟨-, n0, n1, n2, n3, n4, -⟩ := id N1.five
  clear N0 B0 hb1 cl
  go_wp2_with fail
  refine (cf.out _ B1).mono ?_
  rintro e W2 ⟨rfl, hb2⟩
  have N2 := (N1.alloc (.cells #[.string nm, .int .i64 a, .slice wp ws.length wc, .bool bl, .slice kp ks.length kc] 25)).kept hb2
  have B2 := bthen (balloc B1 (.cells #[.string nm, .int .i64 a, .slice wp ws.length wc, .bool bl, .slice kp ks.length kc] 25)) hb2
  clear cf N1 B1 n0 n1 n2 n3 n4 hb2
  cases r0 with
  | false =>
    go_wp2_with fail
    go_ret
    exact ⟨rfl, B2⟩
  | true =>
    have f0 := lft_few 12 [.mk nm a ws bl ks] 40 (of_decide_eq_true HR0.out)
    have hc : cntL [.mk nm a ws bl ks] ≤ 40 := by
      have := of_decide_eq_true HR0.out
      omega
    have hkl : ks.length ≤ 1000 := by
      have h1 := cnt_len ks
      simp only [cntL, cntN] at hc
      omega
    obtain ⟨r, hr⟩ : ∃ r, readF (.mk nm a ws bl ks) = r := ⟨_, rfl⟩
    obtain ⟨_, _, hwl, hkl2, ha, hwf, hln, hws2, hks2, hcap⟩ := HN.out
    have NO2 : NodeOf W2 nm a wp ws.length wc bl kp ks.length kc ws ks := HN.out.below B2
    have cr := Read_any nm a wp wc bl kp kc ws ks W2 r NO2 (by omega) hkl (hT.out.n.kept B2) (hT.out.p.kept B2) (Lib.hid hr)
    obtain ⟨c, x, e0⟩ := r
    obtain ⟨-, n0, n1, n2, n3, n4, -⟩ := id N2.five
    by_cases he : e0 = 0
    case neg =>
      have hz : c = zeroC := read_no hr he
      subst hz
      have q : ∀ w, (binOp .eql 30 (.agg #[.string ⟨#[]⟩, .int .i64 0, .int .i64 0, .int .i64 0, .int .i64 0, .int .i64 0, .int .i64 0, .int .i64 0, .int .i64 0, .int .i64 0, .int .i64 0, .int .i64 0, .int .i64 0, .int .i64 0]) (.agg #[.string ⟨#[]⟩, .int .i64 0, .int .i64 0, .int .i64 0, .int .i64 0, .int .i64 0, .int .i64 0, .int .i64 0, .int .i64 0, .int .i64 0, .int .i64 0, .int .i64 0, .int .i64 0, .int .i64 0])).run Tryz.prog w = .ok (.bool true) w := fun w => by
        have := cal_eql zeroC zeroC rfl w
        simpa [zeroC, CalSame] using this
      have d1 : ((e0 : Int) != 0) = true := by
        simp only [bne_iff_ne, ne_eq]
        omega
      have cr : Calls Tryz.prog 13 #[.agg #[.string nm, .int .i64 a, .slice wp ws.length wc, .bool bl, .slice kp ks.length kc]] W2 fun e w' => e = .returned (.tuple #[.agg #[.string ⟨#[]⟩, .int .i64 0, .int .i64 0, .int .i64 0, .int .i64 0, .int .i64 0, .int .i64 0, .int .i64 0, .int .i64 0, .int .i64 0, .int .i64 0, .int .i64 0, .int .i64 0, .int .i64 0], .int .i64 x, .int .i64 (e0 : Int)]) ∧ Below W2.heap.size W2 w' := cr
      clear f0 hc hkl hr hwl hkl2 ha hwf hln hws2 hks2 hcap NO2 he
      go_wp2_with fail
      refine cr.mono ?_
      rintro e W3 ⟨rfl, hb3⟩
      have B3 := bthen B2 hb3
      clear cr n0 n1 n2 n3 n4 N2 B2 hb3
      go_wp2_with fail
      go_ret
      exact ⟨rfl, by first | exact B3 | exact balloc B3 _⟩
    case pos =>
      subst he
      obtain ⟨hx, hok, y, hy1, hy2⟩ := read_ok hr
      subst hx hy1
      have hym : c.nm.size ≤ maxLen := by rw [← hy2]; exact hwf.2.1 y (by simp)
      obtain ⟨gw, ow, rfl, y2, lgw⟩ : ∃ gw ow, wp = some ⟨gw, ow, none⟩ ∧ w.cell? ⟨gw, ow + 2, none⟩ = some (.string c.nm) ∧ gw < w.heap.size := by
        obtain ⟨p, cp, e, h⟩ := hws2
        injection e with e1 e2 e3
        subst e1
        rcases h with h | ⟨g, o, rfl, h, _⟩
        · cases h
        · exact ⟨g, o, rfl, by rw [← hy2]; exact h.2.2.2.1, h.1⟩
      have cr : Calls Tryz.prog 13 #[.agg #[.string nm, .int .i64 a, .slice (some ⟨gw, ow, none⟩) 1 wc, .bool bl, .slice kp ks.length kc]] W2 fun e w' => e = .returned (.tuple #[.agg #[.string c.nm, .int .i64 c.k, .int .i64 c.d, .int .i64 c.m, .int .i64 c.s, .int .i64 c.sh, .int .i64 c.p0, .int .i64 c.p1, .int .i64 c.p2, .int .i64 c.cy, .int .i64 c.ex, .int .i64 c.fi, .int .i64 c.la, .int .i64 c.po], .int .i64 0, .int .i64 0]) ∧ Below W2.heap.size W2 w' := cr
      have ck := fun W T => Check_any c 0 W (.inl ⟨hok, rfl⟩) hym T
      have cn : ∀ W, Calls Tryz.prog 24 #[.string c.nm] W fun e w' => e = .returned (.bool true) ∧ W = w' := fun W => by
        have := Name_any c.nm W hym
        rwa [show Go.Proofs.YtnjmokmlnpehdaaGreatDoor.Zm.name (Go.Proofs.YtnjmokmlnpehdaaGreatDoor.Zr.by_ c.nm) = true from hok.2.1] at this
      have cp := fun W T => Go.Proofs.YtnjmokmlnpehdaaGreatDoor.Fn2.Periods_any c (per c) 0 W (.inl ⟨hok, rfl, rfl⟩) hym T
      have hex := ex_per hok.1
      have hyr := hok.2.2.1
      have d1 : decide (c.ex ≥ 0) = true := decide_eq_true hex.1
      have d2 : decide (c.ex ≤ per c) = true := decide_eq_true hex.2
      have d3 : decide (c.fi ≤ c.la) = true := decide_eq_true hyr.2.2.1
      clear f0 hc hkl hr hwl hkl2 ha hwf hln hws2 hks2 hcap NO2 hex hyr hok hy2
      go_wp2_with fail
      refine cr.mono ?_
      rintro e W3 ⟨rfl, hb3⟩
      have N3 := N2.kept hb3
      have B3 := bthen B2 hb3
      clear cr n0 n1 n2 n3 n4 N2 B2 hb3
      go_upto_region 6 with fail
      have C4 := Box.new W3 #[.string c.nm, .int .i64 c.k, .int .i64 c.d, .int .i64 c.m, .int .i64 c.s, .int .i64 c.sh, .int .i64 c.p0, .int .i64 c.p1, .int .i64 c.p2, .int .i64 c.cy, .int .i64 c.ex, .int .i64 c.fi, .int .i64 c.la, .int .i64 c.po] 30
      have N4 := N3.alloc (.cells #[.string c.nm, .int .i64 c.k, .int .i64 c.d, .int .i64 c.m, .int .i64 c.s, .int .i64 c.sh, .int .i64 c.p0, .int .i64 c.p1, .int .i64 c.p2, .int .i64 c.cy, .int .i64 c.ex, .int .i64 c.fi, .int .i64 c.la, .int .i64 c.po] 30)
      have B4 := balloc B3 (.cells #[.string c.nm, .int .i64 c.k, .int .i64 c.d, .int .i64 c.m, .int .i64 c.s, .int .i64 c.sh, .int .i64 c.p0, .int .i64 c.p1, .int .i64 c.p2, .int .i64 c.cy, .int .i64 c.ex, .int .i64 c.fi, .int .i64 c.la, .int .i64 c.po] 30)
      obtain ⟨cb, hcb⟩ : ∃ cb, W3.heap.size = cb := ⟨_, rfl⟩
      rw [hcb] at C4 ⊢
      clear hcb N3 B3
      generalize W3.alloc (.cells #[.string c.nm, .int .i64 c.k, .int .i64 c.d, .int .i64 c.m, .int .i64 c.s, .int .i64 c.sh, .int .i64 c.p0, .int .i64 c.p1, .int .i64 c.p2, .int .i64 c.cy, .int .i64 c.ex, .int .i64 c.fi, .int .i64 c.la, .int .i64 c.po] 30) = W4 at *
      have y3 : W4.cell? ⟨gw, ow + 2, none⟩ = some (.string c.nm) := (B4.cell (p := ⟨gw, _, none⟩) lgw).trans y2
      have k0 : W4.cell? ⟨cb, 0, none⟩ = some (.string c.nm) := C4.cell 0 _ rfl
      have k1 : W4.cell? ⟨cb, 1, none⟩ = some (.int .i64 c.k) := C4.cell 1 _ rfl
      have k2 : W4.cell? ⟨cb, 2, none⟩ = some (.int .i64 c.d) := C4.cell 2 _ rfl
      have k3 : W4.cell? ⟨cb, 3, none⟩ = some (.int .i64 c.m) := C4.cell 3 _ rfl
      have k4 : W4.cell? ⟨cb, 4, none⟩ = some (.int .i64 c.s) := C4.cell 4 _ rfl
      have k5 : W4.cell? ⟨cb, 5, none⟩ = some (.int .i64 c.sh) := C4.cell 5 _ rfl
      have k6 : W4.cell? ⟨cb, 6, none⟩ = some (.int .i64 c.p0) := C4.cell 6 _ rfl
      have k7 : W4.cell? ⟨cb, 7, none⟩ = some (.int .i64 c.p1) := C4.cell 7 _ rfl
      have k8 : W4.cell? ⟨cb, 8, none⟩ = some (.int .i64 c.p2) := C4.cell 8 _ rfl
      have k9 : W4.cell? ⟨cb, 9, none⟩ = some (.int .i64 c.cy) := C4.cell 9 _ rfl
      have k10 : W4.cell? ⟨cb, 10, none⟩ = some (.int .i64 c.ex) := C4.cell 10 _ rfl
      have k11 : W4.cell? ⟨cb, 11, none⟩ = some (.int .i64 c.fi) := C4.cell 11 _ rfl
      have k12 : W4.cell? ⟨cb, 12, none⟩ = some (.int .i64 c.la) := C4.cell 12 _ rfl
      have k13 : W4.cell? ⟨cb, 13, none⟩ = some (.int .i64 c.po) := C4.cell 13 _ rfl
      have NT4 := hT.out.n.kept B4
      go_wp2_with fail
      refine (cp _ NT4.f).mono ?_
      rintro e W5 ⟨rfl, hb5⟩
      have C5 := C4.kept hb5
      have N5 := N4.kept hb5
      have B5 := bthen B4 hb5
      have y5 : W5.cell? ⟨gw, ow + 2, none⟩ = some (.string c.nm) := (B5.cell (p := ⟨gw, _, none⟩) lgw).trans y2
      have y6 := Nat.lt_of_lt_of_le lgw B5.size
      have NT5 := Lib.hid (NT4.kept hb5).f
      clear k0 k1 k2 k3 k4 k5 k6 k7 k8 k9 k10 k11 k12 k13 C4 N4 B4 hb5 y3 NT4
      have H : Hid (∀ W, Below W5.heap.size W5 W → Below W5.heap.size W5 W ∧ W.cell? ⟨cb, 0, none⟩ = some (.string c.nm) ∧ W.cell? ⟨cb, 1, none⟩ = some (.int .i64 c.k) ∧ W.cell? ⟨cb, 2, none⟩ = some (.int .i64 c.d) ∧ W.cell? ⟨cb, 3, none⟩ = some (.int .i64 c.m) ∧ W.cell? ⟨cb, 4, none⟩ = some (.int .i64 c.s) ∧ W.cell? ⟨cb, 5, none⟩ = some (.int .i64 c.sh) ∧ W.cell? ⟨cb, 6, none⟩ = some (.int .i64 c.p0) ∧ W.cell? ⟨cb, 7, none⟩ = some (.int .i64 c.p1) ∧ W.cell? ⟨cb, 8, none⟩ = some (.int .i64 c.p2) ∧ W.cell? ⟨cb, 9, none⟩ = some (.int .i64 c.cy) ∧ W.cell? ⟨cb, 10, none⟩ = some (.int .i64 c.ex) ∧ W.cell? ⟨cb, 11, none⟩ = some (.int .i64 c.fi) ∧ W.cell? ⟨cb, 12, none⟩ = some (.int .i64 c.la) ∧ W.cell? ⟨cb, 13, none⟩ = some (.int .i64 c.po) ∧ W.cell? ⟨w.heap.size, 2, none⟩ = some (.slice (some ⟨gw, ow, none⟩) 1 wc) ∧ W.cell? ⟨gw, ow + 2, none⟩ = some (.string c.nm)) := Lib.hid (fun W h => ⟨h, (C5.kept h).cell 0 _ rfl, (C5.kept h).cell 1 _ rfl, (C5.kept h).cell 2 _ rfl, (C5.kept h).cell 3 _ rfl, (C5.kept h).cell 4 _ rfl, (C5.kept h).cell 5 _ rfl, (C5.kept h).cell 6 _ rfl, (C5.kept h).cell 7 _ rfl, (C5.kept h).cell 8 _ rfl, (C5.kept h).cell 9 _ rfl, (C5.kept h).cell 10 _ rfl, (C5.kept h).cell 11 _ rfl, (C5.kept h).cell 12 _ rfl, (C5.kept h).cell 13 _ rfl, (N5.kept h).cell 2 _ rfl, (h.cell (p := ⟨gw, _, none⟩) y6).trans y5⟩)
      clear C5 N5 y5 y2
      go_upto_region 9 with fail
      go_region_held3 (fun W => Below W5.heap.size W5 W ∧ W.cell? ⟨cb, 0, none⟩ = some (.string c.nm) ∧ W.cell? ⟨cb, 1, none⟩ = some (.int .i64 c.k) ∧ W.cell? ⟨cb, 2, none⟩ = some (.int .i64 c.d) ∧ W.cell? ⟨cb, 3, none⟩ = some (.int .i64 c.m) ∧ W.cell? ⟨cb, 4, none⟩ = some (.int .i64 c.s) ∧ W.cell? ⟨cb, 5, none⟩ = some (.int .i64 c.sh) ∧ W.cell? ⟨cb, 6, none⟩ = some (.int .i64 c.p0) ∧ W.cell? ⟨cb, 7, none⟩ = some (.int .i64 c.p1) ∧ W.cell? ⟨cb, 8, none⟩ = some (.int .i64 c.p2) ∧ W.cell? ⟨cb, 9, none⟩ = some (.int .i64 c.cy) ∧ W.cell? ⟨cb, 10, none⟩ = some (.int .i64 c.ex) ∧ W.cell? ⟨cb, 11, none⟩ = some (.int .i64 c.fi) ∧ W.cell? ⟨cb, 12, none⟩ = some (.int .i64 c.la) ∧ W.cell? ⟨cb, 13, none⟩ = some (.int .i64 c.po) ∧ W.cell? ⟨w.heap.size, 2, none⟩ = some (.slice (some ⟨gw, ow, none⟩) 1 wc) ∧ W.cell? ⟨gw, ow + 2, none⟩ = some (.string c.nm))
        (refine H.out _ (by repeat (first | (with_reducible assumption) | (with_reducible exact Below.refl _ _) | (with_reducible refine Below.drew ?_) | (with_reducible refine bdrewN ?_ _) | (with_reducible refine balloc ?_ _) | (with_reducible refine bthen ?_ hbC) | (with_reducible refine bthen ?_ hbN))))
        (first
          | (go_at_call 20; (with_reducible refine (ck _ (NT5.out.kept (by repeat (first | (with_reducible assumption) | (with_reducible exact Below.refl _ _) | (with_reducible refine Below.drew ?_) | (with_reducible refine bdrewN ?_ _) | (with_reducible refine balloc ?_ _) | (with_reducible refine bthen ?_ hbC) | (with_reducible refine bthen ?_ hbN))))).mono ?_); rintro e wC ⟨rfl, hbC⟩)
          | (go_at_call 24; (with_reducible refine (cn _).mono ?_); rintro e wN ⟨rfl, rfl⟩)
          | fail)
      all_goals go_wp2_with fail
      all_goals go_ret
      all_goals exact ⟨rfl, bthen B5 (by repeat (first | (with_reducible assumption) | (with_reducible exact Below.refl _ _) | (with_reducible refine Below.drew ?_) | (with_reducible refine bdrewN ?_ _) | (with_reducible refine balloc ?_ _) | (with_reducible refine bthen ?_ hbC) | (with_reducible refine bthen ?_ hbN)))⟩

end Go.Proofs.YtnjmokmlnpehdaaGreatDoor.Fl
