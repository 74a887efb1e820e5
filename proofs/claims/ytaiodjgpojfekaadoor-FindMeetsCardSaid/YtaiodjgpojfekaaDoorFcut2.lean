/- What rightCut of package field comes to, of patterns and cycles. -/
import Derived.Test.YtaiodjgpojfekaaDoorFcut
import Derived.Deep.CutBlock
namespace Go.Proofs.YtaiodjgpojfekaaDoor.Fp
set_option linter.unusedSimpArgs false
set_option linter.unusedVariables false
open Go.RowKit Go.Proofs.YtaiodjgpojfekaaDoor.Bn Go.Proofs.YtaiodjgpojfekaaDoor.Cp Go.Proofs.YtaiodjgpojfekaaDoor.Am

set_option maxHeartbeats 1000000

theorem box_drew {W : World} {b : Nat} {vs : List Value} (p : Box W b vs) : Box W.drew b vs := ⟨p.lt, p.cell, p.frz⟩
/-- behind the statement that asks whether the pattern, or the cycle, may be -/
def CutMid (W1 : World) (n1 : Nat) (vs : List Value) (bv : Bool) (s : Value) (W : World) : Prop := s = .bool bv ∧ Below n1 W1 W ∧ Box W n1 vs

set_option maxRecDepth 100000 in
theorem Cut_pat (c : CalZ) (r may : Bool) (v pv : Int) (w : World) (h : c.sh = 1) (hv : v = patI c.p0 c.p1 c.p2) (v0 : -1 ≤ v) (v1 : v ≤ 2) (hm : decide (0 < v + 1) = may) (hpv : pv = per c)
    (hr : r = (may && (decide (c.cy = 0) && (decide (1 ≤ c.ex) && decide (c.ex ≤ pv))))) (T : FTab w) :
    Calls Tryd.prog 63 #[.agg #[.string c.nm, .int .i64 c.k, .int .i64 c.d, .int .i64 c.m, .int .i64 c.s, .int .i64 c.sh, .int .i64 c.p0, .int .i64 c.p1, .int .i64 c.p2, .int .i64 c.cy, .int .i64 c.ex, .int .i64 c.fi, .int .i64 c.la, .int .i64 c.po]] w fun e w' => e = .returned (.bool r) ∧ Below w.heap.size w w' := by
  have P := CalIn.new w c 24
  have cp := fun (hh : c.sh = 3 → c.cy = 1 ∨ c.cy = 2 ∨ c.cy = 4) w => periods_any c pv w hpv hh
  have cw := fun w => within_any c.ex 1 pv _ w rfl
  have q := fun w => pat_eql c.p0 c.p1 c.p2 c.p0 c.p1 c.p2 w
  obtain ⟨b, o, cap, g0, b0, gc, gi⟩ := T.pat
  have CN : ∀ W, Below w.heap.size w W → Calls Tryd.prog 89 #[.slice (some ⟨b, o, none⟩) 3 cap, .agg #[.int .i64 c.p0, .int .i64 c.p1, .int .i64 c.p2]] W fun e w' => e = .returned (.int .i64 (v + 1)) ∧ Below W.heap.size W w' := fun W hB =>
    number_pat b o cap _ _ _ v W (fun i u e => (hB.cell (p := ⟨b, o + i, none⟩) b0).trans (gi i u e)) (Nat.lt_of_lt_of_le b0 hB.size) hv v0 v1
  obtain ⟨nm, k, d, m, s, sh, p0, p1, p2, cy, ex, fi, la, po⟩ := c
  dsimp only at *
  subst h
  replace P := P.alloc (.cells #[.string ⟨#[]⟩, .int .i64 0, .int .i64 0, .int .i64 0, .int .i64 0, .int .i64 1, .int .i64 0, .int .i64 0, .int .i64 0, .int .i64 0, .int .i64 0, .int .i64 0, .int .i64 0, .int .i64 0] 24)
  have L := (Box.new (w.alloc (.cells #[.string nm, .int .i64 k, .int .i64 d, .int .i64 m, .int .i64 s, .int .i64 1, .int .i64 p0, .int .i64 p1, .int .i64 p2, .int .i64 cy, .int .i64 ex, .int .i64 fi, .int .i64 la, .int .i64 po] 24)) #[.string ⟨#[]⟩, .int .i64 0, .int .i64 0, .int .i64 0, .int .i64 0, .int .i64 1, .int .i64 0, .int .i64 0, .int .i64 0, .int .i64 0, .int .i64 0, .int .i64 0, .int .i64 0, .int .i64 0] 24)
  have B1 := balloc (balloc (Below.refl _ w) (.cells #[.string nm, .int .i64 k, .int .i64 d, .int .i64 m, .int .i64 s, .int .i64 1, .int .i64 p0, .int .i64 p1, .int .i64 p2, .int .i64 cy, .int .i64 ex, .int .i64 fi, .int .i64 la, .int .i64 po] 24)) (.cells #[.string ⟨#[]⟩, .int .i64 0, .int .i64 0, .int .i64 0, .int .i64 0, .int .i64 1, .int .i64 0, .int .i64 0, .int .i64 0, .int .i64 0, .int .i64 0, .int .i64 0, .int .i64 0, .int .i64 0] 24)
  have z1 : ((w.alloc (.cells #[.string nm, .int .i64 k, .int .i64 d, .int .i64 m, .int .i64 s, .int .i64 1, .int .i64 p0, .int .i64 p1, .int .i64 p2, .int .i64 cy, .int .i64 ex, .int .i64 fi, .int .i64 la, .int .i64 po] 24)).alloc (.cells #[.string ⟨#[]⟩, .int .i64 0, .int .i64 0, .int .i64 0, .int .i64 0, .int .i64 1, .int .i64 0, .int .i64 0, .int .i64 0, .int .i64 0, .int .i64 0, .int .i64 0, .int .i64 0, .int .i64 0] 24)).heap.size = w.heap.size + 2 := by simp
  simp only [World.size_alloc] at L
  go_enter Tryd.func63, Tryd.ntmps63
  go_upto_block 0 with fail
  generalize (w.alloc (.cells #[.string nm, .int .i64 k, .int .i64 d, .int .i64 m, .int .i64 s, .int .i64 1, .int .i64 p0, .int .i64 p1, .int .i64 p2, .int .i64 cy, .int .i64 ex, .int .i64 fi, .int .i64 la, .int .i64 po] 24)).alloc (.cells #[.string ⟨#[]⟩, .int .i64 0, .int .i64 0, .int .i64 0, .int .i64 0, .int .i64 1, .int .i64 0, .int .i64 0, .int .i64 0, .int .i64 0, .int .i64 0, .int .i64 0, .int .i64 0, .int .i64 0] 24) = W1 at *
  have CN1 : ∀ W, Below (w.heap.size + 1) W1 W → Calls Tryd.prog 89 #[.slice (some ⟨b, o, none⟩) 3 cap, .agg #[.int .i64 p0, .int .i64 p1, .int .i64 p2]] W fun e w' => e = .returned (.int .i64 (v + 1)) ∧ Below W.heap.size W w' := fun W hB => CN W (B1.trans (hB.mono (by omega)))
  have H : Hid (∀ W, Below (w.heap.size + 1) W1 W → (Below (w.heap.size + 1) W1 W ∧ W.cell? ⟨w.heap.size, 6, none⟩ = some (.int .i64 p0) ∧ W.cell? ⟨w.heap.size, 7, none⟩ = some (.int .i64 p1) ∧ W.cell? ⟨w.heap.size, 8, none⟩ = some (.int .i64 p2) ∧ W.cell? ⟨3, 0, none⟩ = some (.slice (some ⟨b, o, none⟩) 3 cap))) := Lib.hid (fun W h => by
    have Q := P.upto (w1 := W) (by omega) h (by omega)
    exact ⟨h, Q.c6, Q.c7, Q.c8, (h.cell (p := ⟨3, 0, none⟩) (Nat.lt_succ_of_lt g0)).trans ((B1.cell (p := ⟨3, 0, none⟩) g0).trans gc)⟩)
  clear CN hv v0 v1
  have gc1 := (H.out W1 (Below.refl _ _)).2.2.2.2
  obtain ⟨_, c0, c1, c2, c3, c4, c5, c6, c7, c8, c9, c10, c11, c12, c13⟩ := id P
  dsimp only at *
  have lf6 := L.frz 6 (by decide)
  have ll6 := L.cell 6 _ rfl
  have lf7 := L.frz 7 (by decide)
  have ll7 := L.cell 7 _ rfl
  have lf8 := L.frz 8 (by decide)
  have ll8 := L.cell 8 _ rfl
  go_cut [4] (fun s4 wx => CutMid W1 (w.heap.size + 1) [.string ⟨#[]⟩, .int .i64 0, .int .i64 0, .int .i64 0, .int .i64 0, .int .i64 1, .int .i64 p0, .int .i64 p1, .int .i64 p2, .int .i64 0, .int .i64 0, .int .i64 0, .int .i64 0, .int .i64 0] may s4 wx)
  case first =>
    go_upto_region 5 with fail
    go_region_held3 (fun w' => Below (w.heap.size + 1) W1 w' ∧ w'.cell? ⟨w.heap.size, 6, none⟩ = some (.int .i64 p0) ∧ w'.cell? ⟨w.heap.size, 7, none⟩ = some (.int .i64 p1) ∧ w'.cell? ⟨w.heap.size, 8, none⟩ = some (.int .i64 p2) ∧ w'.cell? ⟨3, 0, none⟩ = some (.slice (some ⟨b, o, none⟩) 3 cap))
      ((refine H.out _ ?_; repeat (first | (with_reducible assumption) | (with_reducible exact Below.refl _ _) | (with_reducible refine Below.drew ?_) | ((with_reducible refine Below.setCell ?_ ?_ _); rotate_left; exact Nat.le_refl _))))
      (first
        | (go_at_call 89; (with_reducible refine (CN1 _ (by repeat (first | (with_reducible assumption) | (with_reducible exact Below.refl _ _) | (with_reducible refine Below.drew ?_) | ((with_reducible refine Below.setCell ?_ ?_ _); rotate_left; exact Nat.le_refl _)))).mono ?_); rintro e w2 ⟨rfl, hb⟩; (first | (have K := Box.kept (by with_reducible exact L) hb) | (have K := Box.kept (by with_reducible exact box_drew L) hb) | (have K := Box.kept (by with_reducible exact ((L.set 6 (by decide) (.int .i64 p0)).set 7 (by decide) (.int .i64 p1)).set 8 (by decide) (.int .i64 p2)) hb) | (have K := Box.kept (by with_reducible exact box_drew (((L.set 6 (by decide) (.int .i64 p0)).set 7 (by decide) (.int .i64 p1)).set 8 (by decide) (.int .i64 p2))) hb)); have hB := Below.trans (B := w.heap.size + 1) (a := W1) (by repeat (first | (with_reducible assumption) | (with_reducible exact Below.refl _ _) | (with_reducible refine Below.drew ?_) | ((with_reducible refine Below.setCell ?_ ?_ _); rotate_left; exact Nat.le_refl _))) (hb.mono (by simp only [World.size_setCell, World.heap_drewN, World.size_drew]; omega)); have kf6 := K.frz 6 (by decide); have kl6 := K.cell 6 _ rfl; have kf7 := K.frz 7 (by decide); have kl7 := K.cell 7 _ rfl; have kf8 := K.frz 8 (by decide); have kl8 := K.cell 8 _ rfl))
    all_goals go_wp2
    all_goals go_meet
    exact ⟨rfl, (((hB.setCell (p := ⟨w.heap.size + 1, 6, none⟩) (Nat.le_refl _) _).setCell (p := ⟨w.heap.size + 1, 7, none⟩) (Nat.le_refl _) _).setCell (p := ⟨w.heap.size + 1, 8, none⟩) (Nat.le_refl _) _), (((K.set 6 (by simp) _).set 7 (by simp) _).set 8 (by simp) _)⟩
  case rest =>
    obtain ⟨rfl, hB, K⟩ := hcut
    rename World => W2
    replace P := P.upto (w1 := W2) (by omega) hB (by omega)
    replace B1 := B1.trans (hB.mono (by omega))
    clear hB gc1 CN1 H z1 c0 c1 c2 c3 c4 c5 c6 c7 c8 c9 c10 c11 c12 c13 lf6 ll6 lf7 ll7 lf8 ll8
    obtain ⟨_, c0, c1, c2, c3, c4, c5, c6, c7, c8, c9, c10, c11, c12, c13⟩ := id P
    have l6 := K.cell 6 _ rfl
    have l7 := K.cell 7 _ rfl
    have l8 := K.cell 8 _ rfl
    have l9 := K.cell 9 _ rfl
    dsimp only at *
    cases may with
    | false =>
      simp at hr
      subst hr
      clear K P cp cw hm hpv
      go_wp2
      go_quiet (fail)
      go_wp2
      go_ret
      exact ⟨rfl, bdrewN B1 _⟩
    | true =>
      replace cp := cp (by intro k; omega)
      rw [decide_eq_true ⟨rfl, rfl, rfl⟩] at q
      by_cases hc : cy = 0
      · subst hc
        obtain ⟨rb, hrb⟩ : ∃ rb, (decide (1 ≤ ex) && decide (ex ≤ pv)) = rb := ⟨_, rfl⟩
        rw [hrb] at cw hr
        simp at hr
        subst hr
        clear hrb hpv
        have H := Lib.hid (fun (W : World) (h : Below W2.heap.size W2 W) => (⟨h, (P.kept h).c0, (P.kept h).c1, (P.kept h).c2, (P.kept h).c3, (P.kept h).c4, (P.kept h).c5, (P.kept h).c6, (P.kept h).c7, (P.kept h).c8, (P.kept h).c9, (P.kept h).c10, (P.kept h).c11, (P.kept h).c12, (P.kept h).c13,
          (K.kept h).cell 6 _ rfl, (K.kept h).cell 7 _ rfl, (K.kept h).cell 8 _ rfl, (K.kept h).cell 9 _ rfl⟩ : Below W2.heap.size W2 W ∧ W.cell? ⟨w.heap.size, 0, none⟩ = some (.string nm) ∧ W.cell? ⟨w.heap.size, 1, none⟩ = some (.int .i64 k) ∧ W.cell? ⟨w.heap.size, 2, none⟩ = some (.int .i64 d) ∧ W.cell? ⟨w.heap.size, 3, none⟩ = some (.int .i64 m) ∧ W.cell? ⟨w.heap.size, 4, none⟩ = some (.int .i64 s) ∧ W.cell? ⟨w.heap.size, 5, none⟩ = some (.int .i64 1) ∧ W.cell? ⟨w.heap.size, 6, none⟩ = some (.int .i64 p0) ∧ W.cell? ⟨w.heap.size, 7, none⟩ = some (.int .i64 p1) ∧ W.cell? ⟨w.heap.size, 8, none⟩ = some (.int .i64 p2) ∧ W.cell? ⟨w.heap.size, 9, none⟩ = some (.int .i64 0) ∧ W.cell? ⟨w.heap.size, 10, none⟩ = some (.int .i64 ex) ∧ W.cell? ⟨w.heap.size, 11, none⟩ = some (.int .i64 fi) ∧ W.cell? ⟨w.heap.size, 12, none⟩ = some (.int .i64 la) ∧ W.cell? ⟨w.heap.size, 13, none⟩ = some (.int .i64 po) ∧ W.cell? ⟨w.heap.size + 1, 6, none⟩ = some (.int .i64 p0) ∧ W.cell? ⟨w.heap.size + 1, 7, none⟩ = some (.int .i64 p1) ∧ W.cell? ⟨w.heap.size + 1, 8, none⟩ = some (.int .i64 p2) ∧ W.cell? ⟨w.heap.size + 1, 9, none⟩ = some (.int .i64 0)))
        clear K P
        go_wp2
        go_region_held3 (fun w' => Below W2.heap.size W2 w' ∧ w'.cell? ⟨w.heap.size, 0, none⟩ = some (.string nm) ∧ w'.cell? ⟨w.heap.size, 1, none⟩ = some (.int .i64 k) ∧ w'.cell? ⟨w.heap.size, 2, none⟩ = some (.int .i64 d) ∧ w'.cell? ⟨w.heap.size, 3, none⟩ = some (.int .i64 m) ∧ w'.cell? ⟨w.heap.size, 4, none⟩ = some (.int .i64 s) ∧ w'.cell? ⟨w.heap.size, 5, none⟩ = some (.int .i64 1) ∧ w'.cell? ⟨w.heap.size, 6, none⟩ = some (.int .i64 p0) ∧ w'.cell? ⟨w.heap.size, 7, none⟩ = some (.int .i64 p1) ∧ w'.cell? ⟨w.heap.size, 8, none⟩ = some (.int .i64 p2) ∧ w'.cell? ⟨w.heap.size, 9, none⟩ = some (.int .i64 0) ∧ w'.cell? ⟨w.heap.size, 10, none⟩ = some (.int .i64 ex) ∧ w'.cell? ⟨w.heap.size, 11, none⟩ = some (.int .i64 fi) ∧ w'.cell? ⟨w.heap.size, 12, none⟩ = some (.int .i64 la) ∧ w'.cell? ⟨w.heap.size, 13, none⟩ = some (.int .i64 po) ∧ w'.cell? ⟨w.heap.size + 1, 6, none⟩ = some (.int .i64 p0) ∧ w'.cell? ⟨w.heap.size + 1, 7, none⟩ = some (.int .i64 p1) ∧ w'.cell? ⟨w.heap.size + 1, 8, none⟩ = some (.int .i64 p2) ∧ w'.cell? ⟨w.heap.size + 1, 9, none⟩ = some (.int .i64 0))
          ((refine H.out _ ?_; first | (with_reducible assumption) | (with_reducible exact Below.refl _ _) | exact (Below.refl _ _).drew))
          (first
            | (go_at_call 91; (with_reducible refine (cp _).mono ?_); rintro e w4 ⟨rfl, hb⟩; have hB := bthen (w := W2) (by first | (with_reducible assumption) | (with_reducible exact Below.refl _ _) | exact (Below.refl _ _).drew) hb)
            | (go_at_call 62; (with_reducible refine (cw _).mono ?_); rintro e w5 ⟨rfl, rfl⟩))
        all_goals go_wp2
        all_goals
          go_ret
          exact ⟨rfl, bthen B1 hB⟩
      · have hd : (cy == 0) = false := beq_eq_false_iff_ne.2 hc
        simp [hc] at hr
        subst hr
        clear hc K P cp cw hm hpv
        go_wp2
        go_quiet (fail)
        go_wp2
        go_ret
        exact ⟨rfl, bdrewN B1 _⟩

set_option maxRecDepth 100000 in
theorem Cut_cyc (c : CalZ) (r may : Bool) (v pv : Int) (w : World) (h : c.sh = 3) (hv : v = cycI c.cy) (v0 : -1 ≤ v) (v1 : v ≤ 2) (hcy : Hid (may = true → c.cy = 1 ∨ c.cy = 2 ∨ c.cy = 4)) (hm : decide (0 < v + 1) = may) (hpv : pv = per c)
    (hr : r = (may && (decide (c.p0 = 0 ∧ c.p1 = 0 ∧ c.p2 = 0) && (decide (1 ≤ c.ex) && decide (c.ex ≤ pv))))) (T : FTab w) :
    Calls Tryd.prog 63 #[.agg #[.string c.nm, .int .i64 c.k, .int .i64 c.d, .int .i64 c.m, .int .i64 c.s, .int .i64 c.sh, .int .i64 c.p0, .int .i64 c.p1, .int .i64 c.p2, .int .i64 c.cy, .int .i64 c.ex, .int .i64 c.fi, .int .i64 c.la, .int .i64 c.po]] w fun e w' => e = .returned (.bool r) ∧ Below w.heap.size w w' := by
  have P := CalIn.new w c 24
  have cp := fun (hh : c.sh = 3 → c.cy = 1 ∨ c.cy = 2 ∨ c.cy = 4) w => periods_any c pv w hpv hh
  have cw := fun w => within_any c.ex 1 pv _ w rfl
  have q := fun w => pat_eql c.p0 c.p1 c.p2 0 0 0 w
  obtain ⟨b, o, cap, g0, b0, gc, gi⟩ := T.cyc
  have CN : ∀ W, Below w.heap.size w W → Calls Tryd.prog 90 #[.slice (some ⟨b, o, none⟩) 3 cap, .int .i64 c.cy] W fun e w' => e = .returned (.int .i64 (v + 1)) ∧ Below W.heap.size W w' := fun W hB =>
    (number_int b o cap _ v W (fun i u e => (hB.cell (p := ⟨b, o + i, none⟩) b0).trans (gi i u e)) hv v0 v1).mono fun e w1 ⟨h1, h2⟩ => ⟨h1, h2 ▸ Below.refl _ _⟩
  obtain ⟨nm, k, d, m, s, sh, p0, p1, p2, cy, ex, fi, la, po⟩ := c
  dsimp only at *
  subst h
  replace P := P.alloc (.cells #[.string ⟨#[]⟩, .int .i64 0, .int .i64 0, .int .i64 0, .int .i64 0, .int .i64 3, .int .i64 0, .int .i64 0, .int .i64 0, .int .i64 0, .int .i64 0, .int .i64 0, .int .i64 0, .int .i64 0] 24)
  have L := (Box.new (w.alloc (.cells #[.string nm, .int .i64 k, .int .i64 d, .int .i64 m, .int .i64 s, .int .i64 3, .int .i64 p0, .int .i64 p1, .int .i64 p2, .int .i64 cy, .int .i64 ex, .int .i64 fi, .int .i64 la, .int .i64 po] 24)) #[.string ⟨#[]⟩, .int .i64 0, .int .i64 0, .int .i64 0, .int .i64 0, .int .i64 3, .int .i64 0, .int .i64 0, .int .i64 0, .int .i64 0, .int .i64 0, .int .i64 0, .int .i64 0, .int .i64 0] 24)
  have B1 := balloc (balloc (Below.refl _ w) (.cells #[.string nm, .int .i64 k, .int .i64 d, .int .i64 m, .int .i64 s, .int .i64 3, .int .i64 p0, .int .i64 p1, .int .i64 p2, .int .i64 cy, .int .i64 ex, .int .i64 fi, .int .i64 la, .int .i64 po] 24)) (.cells #[.string ⟨#[]⟩, .int .i64 0, .int .i64 0, .int .i64 0, .int .i64 0, .int .i64 3, .int .i64 0, .int .i64 0, .int .i64 0, .int .i64 0, .int .i64 0, .int .i64 0, .int .i64 0, .int .i64 0] 24)
  have z1 : ((w.alloc (.cells #[.string nm, .int .i64 k, .int .i64 d, .int .i64 m, .int .i64 s, .int .i64 3, .int .i64 p0, .int .i64 p1, .int .i64 p2, .int .i64 cy, .int .i64 ex, .int .i64 fi, .int .i64 la, .int .i64 po] 24)).alloc (.cells #[.string ⟨#[]⟩, .int .i64 0, .int .i64 0, .int .i64 0, .int .i64 0, .int .i64 3, .int .i64 0, .int .i64 0, .int .i64 0, .int .i64 0, .int .i64 0, .int .i64 0, .int .i64 0, .int .i64 0] 24)).heap.size = w.heap.size + 2 := by simp
  simp only [World.size_alloc] at L
  go_enter Tryd.func63, Tryd.ntmps63
  go_upto_block 0 with fail
  generalize (w.alloc (.cells #[.string nm, .int .i64 k, .int .i64 d, .int .i64 m, .int .i64 s, .int .i64 3, .int .i64 p0, .int .i64 p1, .int .i64 p2, .int .i64 cy, .int .i64 ex, .int .i64 fi, .int .i64 la, .int .i64 po] 24)).alloc (.cells #[.string ⟨#[]⟩, .int .i64 0, .int .i64 0, .int .i64 0, .int .i64 0, .int .i64 3, .int .i64 0, .int .i64 0, .int .i64 0, .int .i64 0, .int .i64 0, .int .i64 0, .int .i64 0, .int .i64 0] 24) = W1 at *
  have CN1 : ∀ W, Below (w.heap.size + 1) W1 W → Calls Tryd.prog 90 #[.slice (some ⟨b, o, none⟩) 3 cap, .int .i64 cy] W fun e w' => e = .returned (.int .i64 (v + 1)) ∧ Below W.heap.size W w' := fun W hB => CN W (B1.trans (hB.mono (by omega)))
  have H : Hid (∀ W, Below (w.heap.size + 1) W1 W → (Below (w.heap.size + 1) W1 W ∧ W.cell? ⟨w.heap.size, 9, none⟩ = some (.int .i64 cy) ∧ W.cell? ⟨4, 0, none⟩ = some (.slice (some ⟨b, o, none⟩) 3 cap))) := Lib.hid (fun W h => by
    have Q := P.upto (w1 := W) (by omega) h (by omega)
    exact ⟨h, Q.c9, (h.cell (p := ⟨4, 0, none⟩) (Nat.lt_succ_of_lt g0)).trans ((B1.cell (p := ⟨4, 0, none⟩) g0).trans gc)⟩)
  clear CN hv v0 v1
  have gc1 := (H.out W1 (Below.refl _ _)).2.2
  obtain ⟨_, c0, c1, c2, c3, c4, c5, c6, c7, c8, c9, c10, c11, c12, c13⟩ := id P
  dsimp only at *
  have lf9 := L.frz 9 (by decide)
  have ll9 := L.cell 9 _ rfl
  go_cut [4] (fun s4 wx => CutMid W1 (w.heap.size + 1) [.string ⟨#[]⟩, .int .i64 0, .int .i64 0, .int .i64 0, .int .i64 0, .int .i64 3, .int .i64 0, .int .i64 0, .int .i64 0, .int .i64 cy, .int .i64 0, .int .i64 0, .int .i64 0, .int .i64 0] may s4 wx)
  case first =>
    go_upto_region 9 with fail
    go_region_held3 (fun w' => Below (w.heap.size + 1) W1 w' ∧ w'.cell? ⟨w.heap.size, 9, none⟩ = some (.int .i64 cy) ∧ w'.cell? ⟨4, 0, none⟩ = some (.slice (some ⟨b, o, none⟩) 3 cap))
      ((refine H.out _ ?_; repeat (first | (with_reducible assumption) | (with_reducible exact Below.refl _ _) | (with_reducible refine Below.drew ?_) | ((with_reducible refine Below.setCell ?_ ?_ _); rotate_left; exact Nat.le_refl _))))
      (first
        | (go_at_call 90; (with_reducible refine (CN1 _ (by repeat (first | (with_reducible assumption) | (with_reducible exact Below.refl _ _) | (with_reducible refine Below.drew ?_) | ((with_reducible refine Below.setCell ?_ ?_ _); rotate_left; exact Nat.le_refl _)))).mono ?_); rintro e w2 ⟨rfl, hb⟩; (first | (have K := Box.kept (by with_reducible exact L) hb) | (have K := Box.kept (by with_reducible exact box_drew L) hb) | (have K := Box.kept (by with_reducible exact L.set 9 (by decide) (.int .i64 cy)) hb) | (have K := Box.kept (by with_reducible exact box_drew (L.set 9 (by decide) (.int .i64 cy))) hb)); have hB := Below.trans (B := w.heap.size + 1) (a := W1) (by repeat (first | (with_reducible assumption) | (with_reducible exact Below.refl _ _) | (with_reducible refine Below.drew ?_) | ((with_reducible refine Below.setCell ?_ ?_ _); rotate_left; exact Nat.le_refl _))) (hb.mono (by simp only [World.size_setCell, World.heap_drewN, World.size_drew]; omega)); have kf9 := K.frz 9 (by decide); have kl9 := K.cell 9 _ rfl))
    all_goals go_wp2
    all_goals go_meet
    exact ⟨rfl, (hB.setCell (p := ⟨w.heap.size + 1, 9, none⟩) (Nat.le_refl _) _), (K.set 9 (by simp) _)⟩
  case rest =>
    obtain ⟨rfl, hB, K⟩ := hcut
    rename World => W2
    replace P := P.upto (w1 := W2) (by omega) hB (by omega)
    replace B1 := B1.trans (hB.mono (by omega))
    clear hB gc1 CN1 H z1 c0 c1 c2 c3 c4 c5 c6 c7 c8 c9 c10 c11 c12 c13 lf9 ll9
    obtain ⟨_, c0, c1, c2, c3, c4, c5, c6, c7, c8, c9, c10, c11, c12, c13⟩ := id P
    have l6 := K.cell 6 _ rfl
    have l7 := K.cell 7 _ rfl
    have l8 := K.cell 8 _ rfl
    have l9 := K.cell 9 _ rfl
    dsimp only at *
    cases may with
    | false =>
      simp at hr
      subst hr
      clear K P cp cw hm hpv
      go_wp2
      go_quiet (fail)
      go_wp2
      go_ret
      exact ⟨rfl, bdrewN B1 _⟩
    | true =>
      replace cp := cp (fun _ => hcy.out rfl)
      by_cases hp : p0 = 0 ∧ p1 = 0 ∧ p2 = 0
      · obtain ⟨rfl, rfl, rfl⟩ := hp
        rw [decide_eq_true ⟨rfl, rfl, rfl⟩] at q hr
        obtain ⟨rb, hrb⟩ : ∃ rb, (decide (1 ≤ ex) && decide (ex ≤ pv)) = rb := ⟨_, rfl⟩
        rw [hrb] at cw hr
        simp at hr
        subst hr
        clear hrb hpv
        have H := Lib.hid (fun (W : World) (h : Below W2.heap.size W2 W) => (⟨h, (P.kept h).c0, (P.kept h).c1, (P.kept h).c2, (P.kept h).c3, (P.kept h).c4, (P.kept h).c5, (P.kept h).c6, (P.kept h).c7, (P.kept h).c8, (P.kept h).c9, (P.kept h).c10, (P.kept h).c11, (P.kept h).c12, (P.kept h).c13,
          (K.kept h).cell 6 _ rfl, (K.kept h).cell 7 _ rfl, (K.kept h).cell 8 _ rfl, (K.kept h).cell 9 _ rfl⟩ : Below W2.heap.size W2 W ∧ W.cell? ⟨w.heap.size, 0, none⟩ = some (.string nm) ∧ W.cell? ⟨w.heap.size, 1, none⟩ = some (.int .i64 k) ∧ W.cell? ⟨w.heap.size, 2, none⟩ = some (.int .i64 d) ∧ W.cell? ⟨w.heap.size, 3, none⟩ = some (.int .i64 m) ∧ W.cell? ⟨w.heap.size, 4, none⟩ = some (.int .i64 s) ∧ W.cell? ⟨w.heap.size, 5, none⟩ = some (.int .i64 3) ∧ W.cell? ⟨w.heap.size, 6, none⟩ = some (.int .i64 0) ∧ W.cell? ⟨w.heap.size, 7, none⟩ = some (.int .i64 0) ∧ W.cell? ⟨w.heap.size, 8, none⟩ = some (.int .i64 0) ∧ W.cell? ⟨w.heap.size, 9, none⟩ = some (.int .i64 cy) ∧ W.cell? ⟨w.heap.size, 10, none⟩ = some (.int .i64 ex) ∧ W.cell? ⟨w.heap.size, 11, none⟩ = some (.int .i64 fi) ∧ W.cell? ⟨w.heap.size, 12, none⟩ = some (.int .i64 la) ∧ W.cell? ⟨w.heap.size, 13, none⟩ = some (.int .i64 po) ∧ W.cell? ⟨w.heap.size + 1, 6, none⟩ = some (.int .i64 0) ∧ W.cell? ⟨w.heap.size + 1, 7, none⟩ = some (.int .i64 0) ∧ W.cell? ⟨w.heap.size + 1, 8, none⟩ = some (.int .i64 0) ∧ W.cell? ⟨w.heap.size + 1, 9, none⟩ = some (.int .i64 cy)))
        clear K P
        go_wp2
        go_region_held3 (fun w' => Below W2.heap.size W2 w' ∧ w'.cell? ⟨w.heap.size, 0, none⟩ = some (.string nm) ∧ w'.cell? ⟨w.heap.size, 1, none⟩ = some (.int .i64 k) ∧ w'.cell? ⟨w.heap.size, 2, none⟩ = some (.int .i64 d) ∧ w'.cell? ⟨w.heap.size, 3, none⟩ = some (.int .i64 m) ∧ w'.cell? ⟨w.heap.size, 4, none⟩ = some (.int .i64 s) ∧ w'.cell? ⟨w.heap.size, 5, none⟩ = some (.int .i64 3) ∧ w'.cell? ⟨w.heap.size, 6, none⟩ = some (.int .i64 0) ∧ w'.cell? ⟨w.heap.size, 7, none⟩ = some (.int .i64 0) ∧ w'.cell? ⟨w.heap.size, 8, none⟩ = some (.int .i64 0) ∧ w'.cell? ⟨w.heap.size, 9, none⟩ = some (.int .i64 cy) ∧ w'.cell? ⟨w.heap.size, 10, none⟩ = some (.int .i64 ex) ∧ w'.cell? ⟨w.heap.size, 11, none⟩ = some (.int .i64 fi) ∧ w'.cell? ⟨w.heap.size, 12, none⟩ = some (.int .i64 la) ∧ w'.cell? ⟨w.heap.size, 13, none⟩ = some (.int .i64 po) ∧ w'.cell? ⟨w.heap.size + 1, 6, none⟩ = some (.int .i64 0) ∧ w'.cell? ⟨w.heap.size + 1, 7, none⟩ = some (.int .i64 0) ∧ w'.cell? ⟨w.heap.size + 1, 8, none⟩ = some (.int .i64 0) ∧ w'.cell? ⟨w.heap.size + 1, 9, none⟩ = some (.int .i64 cy))
          ((refine H.out _ ?_; first | (with_reducible assumption) | (with_reducible exact Below.refl _ _) | exact (Below.refl _ _).drew))
          (first
            | (go_at_call 91; (with_reducible refine (cp _).mono ?_); rintro e w4 ⟨rfl, hb⟩; have hB := bthen (w := W2) (by first | (with_reducible assumption) | (with_reducible exact Below.refl _ _) | exact (Below.refl _ _).drew) hb)
            | (go_at_call 62; (with_reducible refine (cw _).mono ?_); rintro e w5 ⟨rfl, rfl⟩))
        all_goals go_wp2
        all_goals
          go_ret
          exact ⟨rfl, bthen B1 hB⟩
      · rw [decide_eq_false hp] at q hr
        simp at hr
        subst hr
        clear hp K P cp cw hm hpv
        go_wp2
        go_quiet (fail)
        go_wp2
        go_ret
        exact ⟨rfl, bdrewN B1 _⟩

end Go.Proofs.YtaiodjgpojfekaaDoor.Fp
