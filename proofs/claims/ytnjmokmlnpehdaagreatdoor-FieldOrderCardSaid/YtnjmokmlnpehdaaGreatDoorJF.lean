/- Texts that are joined: Fcut, Fcut2, Ftell, Fallow, Fends, Fchk, Fcheck. -/
import Derived.Test.YtnjmokmlnpehdaaGreatDoorJC
import Derived.Deep.CutBlock
import Derived.Test.YtnjmokmlnpehdaaGreatDoorJK
import Derived.BigRegion
namespace Go.Proofs.YtnjmokmlnpehdaaGreatDoor.Fp
set_option linter.unusedSimpArgs false
set_option linter.unusedVariables false
open Go.RowKit Go.Proofs.YtnjmokmlnpehdaaGreatDoor.Bn Go.Proofs.YtnjmokmlnpehdaaGreatDoor.Cp Go.Proofs.YtnjmokmlnpehdaaGreatDoor.Am

set_option maxHeartbeats 1000000

theorem Cut_other (c : CalZ) (w : World) (h1 : c.sh ≠ 1) (h2 : c.sh ≠ 2) (h3 : c.sh ≠ 3) :
    Calls Tryz.prog 63 #[.agg #[.string c.nm, .int .i64 c.k, .int .i64 c.d, .int .i64 c.m, .int .i64 c.s, .int .i64 c.sh, .int .i64 c.p0, .int .i64 c.p1, .int .i64 c.p2, .int .i64 c.cy, .int .i64 c.ex, .int .i64 c.fi, .int .i64 c.la, .int .i64 c.po]] w fun e w' => e = .returned (.bool false) ∧ Below w.heap.size w w' := by
  have P := CalIn.new w c 30
  obtain ⟨nm, k, d, m, s, sh, p0, p1, p2, cy, ex, fi, la, po⟩ := c
  obtain ⟨_, c0, c1, c2, c3, c4, c5, c6, c7, c8, c9, c10, c11, c12, c13⟩ := P
  dsimp only at *
  go_enter Tryz.func63, Tryz.ntmps63
  go_wp2
  go_quiet (fail)
  go_wp2
  go_ret
  exact ⟨rfl, bdrewN (balloc (balloc (Below.refl _ w) _) _) _⟩

theorem Cut_four (c : CalZ) (r : Bool) (w : World) (h : c.sh = 2) (hr : r = (decide (c.p0 = 0 ∧ c.p1 = 0 ∧ c.p2 = 0) && (decide (c.cy = 0) && (decide (1 ≤ c.ex) && decide (c.ex ≤ 13))))) :
    Calls Tryz.prog 63 #[.agg #[.string c.nm, .int .i64 c.k, .int .i64 c.d, .int .i64 c.m, .int .i64 c.s, .int .i64 c.sh, .int .i64 c.p0, .int .i64 c.p1, .int .i64 c.p2, .int .i64 c.cy, .int .i64 c.ex, .int .i64 c.fi, .int .i64 c.la, .int .i64 c.po]] w fun e w' => e = .returned (.bool r) ∧ Below w.heap.size w w' := by
  have P := CalIn.new w c 30
  have cp := fun w => periods_any c 13 w (by unfold per; simp [h]) (by intro k; omega)
  have cw := fun w => within_any c.ex 1 13 _ w rfl
  have q := fun w => pat_eql c.p0 c.p1 c.p2 0 0 0 w
  obtain ⟨nm, k, d, m, s, sh, p0, p1, p2, cy, ex, fi, la, po⟩ := c
  dsimp only at *
  subst h
  by_cases hp : p0 = 0 ∧ p1 = 0 ∧ p2 = 0
  · obtain ⟨rfl, rfl, rfl⟩ := hp
    rw [decide_eq_true ⟨rfl, rfl, rfl⟩] at q hr
    by_cases hc : cy = 0
    · subst hc
      obtain ⟨rb, hrb⟩ : ∃ rb, (decide (1 ≤ ex) && decide (ex ≤ 13)) = rb := ⟨_, rfl⟩
      rw [hrb] at cw hr
      simp at hr
      subst hr
      clear hrb
      replace P := P.alloc (.cells #[.string ⟨#[]⟩, .int .i64 0, .int .i64 0, .int .i64 0, .int .i64 0, .int .i64 2, .int .i64 0, .int .i64 0, .int .i64 0, .int .i64 0, .int .i64 0, .int .i64 0, .int .i64 0, .int .i64 0] 30)
      have L := (Box.new (w.alloc (.cells #[.string nm, .int .i64 k, .int .i64 d, .int .i64 m, .int .i64 s, .int .i64 2, .int .i64 0, .int .i64 0, .int .i64 0, .int .i64 0, .int .i64 ex, .int .i64 fi, .int .i64 la, .int .i64 po] 30)) #[.string ⟨#[]⟩, .int .i64 0, .int .i64 0, .int .i64 0, .int .i64 0, .int .i64 2, .int .i64 0, .int .i64 0, .int .i64 0, .int .i64 0, .int .i64 0, .int .i64 0, .int .i64 0, .int .i64 0] 30)
      have B1 := balloc (balloc (Below.refl _ w) (.cells #[.string nm, .int .i64 k, .int .i64 d, .int .i64 m, .int .i64 s, .int .i64 2, .int .i64 0, .int .i64 0, .int .i64 0, .int .i64 0, .int .i64 ex, .int .i64 fi, .int .i64 la, .int .i64 po] 30)) (.cells #[.string ⟨#[]⟩, .int .i64 0, .int .i64 0, .int .i64 0, .int .i64 0, .int .i64 2, .int .i64 0, .int .i64 0, .int .i64 0, .int .i64 0, .int .i64 0, .int .i64 0, .int .i64 0, .int .i64 0] 30)
      simp only [World.size_alloc] at L
      go_enter Tryz.func63, Tryz.ntmps63
      go_wp2
      generalize (w.alloc (.cells #[.string nm, .int .i64 k, .int .i64 d, .int .i64 m, .int .i64 s, .int .i64 2, .int .i64 0, .int .i64 0, .int .i64 0, .int .i64 0, .int .i64 ex, .int .i64 fi, .int .i64 la, .int .i64 po] 30)).alloc (.cells #[.string ⟨#[]⟩, .int .i64 0, .int .i64 0, .int .i64 0, .int .i64 0, .int .i64 2, .int .i64 0, .int .i64 0, .int .i64 0, .int .i64 0, .int .i64 0, .int .i64 0, .int .i64 0, .int .i64 0] 30) = W1 at *
      have H := Lib.hid (fun (W : World) (h : Below W1.heap.size W1 W) => (⟨h, (P.kept h).c0, (P.kept h).c1, (P.kept h).c2, (P.kept h).c3, (P.kept h).c4, (P.kept h).c5, (P.kept h).c6, (P.kept h).c7, (P.kept h).c8, (P.kept h).c9, (P.kept h).c10, (P.kept h).c11, (P.kept h).c12, (P.kept h).c13,
        (L.kept h).cell 6 _ rfl, (L.kept h).cell 7 _ rfl, (L.kept h).cell 8 _ rfl, (L.kept h).cell 9 _ rfl⟩ : Below W1.heap.size W1 W ∧ W.cell? ⟨w.heap.size, 0, none⟩ = some (.string nm) ∧ W.cell? ⟨w.heap.size, 1, none⟩ = some (.int .i64 k) ∧ W.cell? ⟨w.heap.size, 2, none⟩ = some (.int .i64 d) ∧ W.cell? ⟨w.heap.size, 3, none⟩ = some (.int .i64 m) ∧ W.cell? ⟨w.heap.size, 4, none⟩ = some (.int .i64 s) ∧ W.cell? ⟨w.heap.size, 5, none⟩ = some (.int .i64 2) ∧ W.cell? ⟨w.heap.size, 6, none⟩ = some (.int .i64 0) ∧ W.cell? ⟨w.heap.size, 7, none⟩ = some (.int .i64 0) ∧ W.cell? ⟨w.heap.size, 8, none⟩ = some (.int .i64 0) ∧ W.cell? ⟨w.heap.size, 9, none⟩ = some (.int .i64 0) ∧ W.cell? ⟨w.heap.size, 10, none⟩ = some (.int .i64 ex) ∧ W.cell? ⟨w.heap.size, 11, none⟩ = some (.int .i64 fi) ∧ W.cell? ⟨w.heap.size, 12, none⟩ = some (.int .i64 la) ∧ W.cell? ⟨w.heap.size, 13, none⟩ = some (.int .i64 po) ∧ W.cell? ⟨w.heap.size + 1, 6, none⟩ = some (.int .i64 0) ∧ W.cell? ⟨w.heap.size + 1, 7, none⟩ = some (.int .i64 0) ∧ W.cell? ⟨w.heap.size + 1, 8, none⟩ = some (.int .i64 0) ∧ W.cell? ⟨w.heap.size + 1, 9, none⟩ = some (.int .i64 0)))
      obtain ⟨_, c0, c1, c2, c3, c4, c5, c6, c7, c8, c9, c10, c11, c12, c13⟩ := P
      have l6 := L.cell 6 _ rfl
      have l7 := L.cell 7 _ rfl
      have l8 := L.cell 8 _ rfl
      have l9 := L.cell 9 _ rfl
      clear L
      go_region_held3 (fun w' => Below W1.heap.size W1 w' ∧ w'.cell? ⟨w.heap.size, 0, none⟩ = some (.string nm) ∧ w'.cell? ⟨w.heap.size, 1, none⟩ = some (.int .i64 k) ∧ w'.cell? ⟨w.heap.size, 2, none⟩ = some (.int .i64 d) ∧ w'.cell? ⟨w.heap.size, 3, none⟩ = some (.int .i64 m) ∧ w'.cell? ⟨w.heap.size, 4, none⟩ = some (.int .i64 s) ∧ w'.cell? ⟨w.heap.size, 5, none⟩ = some (.int .i64 2) ∧ w'.cell? ⟨w.heap.size, 6, none⟩ = some (.int .i64 0) ∧ w'.cell? ⟨w.heap.size, 7, none⟩ = some (.int .i64 0) ∧ w'.cell? ⟨w.heap.size, 8, none⟩ = some (.int .i64 0) ∧ w'.cell? ⟨w.heap.size, 9, none⟩ = some (.int .i64 0) ∧ w'.cell? ⟨w.heap.size, 10, none⟩ = some (.int .i64 ex) ∧ w'.cell? ⟨w.heap.size, 11, none⟩ = some (.int .i64 fi) ∧ w'.cell? ⟨w.heap.size, 12, none⟩ = some (.int .i64 la) ∧ w'.cell? ⟨w.heap.size, 13, none⟩ = some (.int .i64 po) ∧ w'.cell? ⟨w.heap.size + 1, 6, none⟩ = some (.int .i64 0) ∧ w'.cell? ⟨w.heap.size + 1, 7, none⟩ = some (.int .i64 0) ∧ w'.cell? ⟨w.heap.size + 1, 8, none⟩ = some (.int .i64 0) ∧ w'.cell? ⟨w.heap.size + 1, 9, none⟩ = some (.int .i64 0))
        ((refine H.out _ ?_; first | (with_reducible assumption) | (with_reducible exact Below.refl _ _) | exact (Below.refl _ _).drew))
        (first
          | (go_at_call 39; (with_reducible refine (cp _).mono ?_); rintro e w4 ⟨rfl, hb⟩; have hB := bthen (w := W1) (by first | (with_reducible assumption) | (with_reducible exact Below.refl _ _) | exact (Below.refl _ _).drew) hb)
          | (go_at_call 62; (with_reducible refine (cw _).mono ?_); rintro e w5 ⟨rfl, rfl⟩))
      all_goals go_wp2
      all_goals
        go_ret
        exact ⟨rfl, bthen B1 hB⟩
    · have hd : (cy == 0) = false := beq_eq_false_iff_ne.2 hc
      simp [hc] at hr
      subst hr
      obtain ⟨_, c0, c1, c2, c3, c4, c5, c6, c7, c8, c9, c10, c11, c12, c13⟩ := P
      dsimp only at *
      clear hc
      go_enter Tryz.func63, Tryz.ntmps63
      go_wp2
      go_quiet (fail)
      go_wp2
      go_ret
      exact ⟨rfl, bdrewN (balloc (balloc (Below.refl _ w) _) _) _⟩
  · rw [decide_eq_false hp] at q hr
    simp at hr
    subst hr
    obtain ⟨_, c0, c1, c2, c3, c4, c5, c6, c7, c8, c9, c10, c11, c12, c13⟩ := P
    dsimp only at *
    clear hp
    go_enter Tryz.func63, Tryz.ntmps63
    go_wp2
    go_quiet (fail)
    go_wp2
    go_ret
    exact ⟨rfl, bdrewN (balloc (balloc (Below.refl _ w) _) _) _⟩

end Go.Proofs.YtnjmokmlnpehdaaGreatDoor.Fp

namespace Go.Proofs.YtnjmokmlnpehdaaGreatDoor.Fp
set_option linter.unusedSimpArgs false
set_option linter.unusedVariables false
open Go.RowKit Go.Proofs.YtnjmokmlnpehdaaGreatDoor.Bn Go.Proofs.YtnjmokmlnpehdaaGreatDoor.Cp Go.Proofs.YtnjmokmlnpehdaaGreatDoor.Am

set_option maxHeartbeats 1000000

theorem box_drew {W : World} {b : Nat} {vs : List Value} (p : Box W b vs) : Box W.drew b vs := ⟨p.lt, p.cell, p.frz⟩
/-- behind the statement that asks whether the pattern, or the cycle, may be -/
def CutMid (W1 : World) (n1 : Nat) (vs : List Value) (bv : Bool) (s : Value) (W : World) : Prop := s = .bool bv ∧ Below n1 W1 W ∧ Box W n1 vs

set_option maxRecDepth 100000 in
theorem Cut_pat (c : CalZ) (r may : Bool) (v pv : Int) (w : World) (h : c.sh = 1) (hv : v = patI c.p0 c.p1 c.p2) (v0 : -1 ≤ v) (v1 : v ≤ 2) (hm : decide (0 < v + 1) = may) (hpv : pv = per c)
    (hr : r = (may && (decide (c.cy = 0) && (decide (1 ≤ c.ex) && decide (c.ex ≤ pv))))) (T : FTab w) :
    Calls Tryz.prog 63 #[.agg #[.string c.nm, .int .i64 c.k, .int .i64 c.d, .int .i64 c.m, .int .i64 c.s, .int .i64 c.sh, .int .i64 c.p0, .int .i64 c.p1, .int .i64 c.p2, .int .i64 c.cy, .int .i64 c.ex, .int .i64 c.fi, .int .i64 c.la, .int .i64 c.po]] w fun e w' => e = .returned (.bool r) ∧ Below w.heap.size w w' := by
  have P := CalIn.new w c 30
  have cp := fun (hh : c.sh = 3 → c.cy = 1 ∨ c.cy = 2 ∨ c.cy = 4) w => periods_any c pv w hpv hh
  have cw := fun w => within_any c.ex 1 pv _ w rfl
  have q := fun w => pat_eql c.p0 c.p1 c.p2 c.p0 c.p1 c.p2 w
  obtain ⟨b, o, cap, g0, b0, gc, gi⟩ := T.pat
  have CN : ∀ W, Below w.heap.size w W → Calls Tryz.prog 79 #[.slice (some ⟨b, o, none⟩) 3 cap, .agg #[.int .i64 c.p0, .int .i64 c.p1, .int .i64 c.p2]] W fun e w' => e = .returned (.int .i64 (v + 1)) ∧ Below W.heap.size W w' := fun W hB =>
    number_pat b o cap _ _ _ v W (fun i u e => (hB.cell (p := ⟨b, o + i, none⟩) b0).trans (gi i u e)) (Nat.lt_of_lt_of_le b0 hB.size) hv v0 v1
  obtain ⟨nm, k, d, m, s, sh, p0, p1, p2, cy, ex, fi, la, po⟩ := c
  dsimp only at *
  subst h
  replace P := P.alloc (.cells #[.string ⟨#[]⟩, .int .i64 0, .int .i64 0, .int .i64 0, .int .i64 0, .int .i64 1, .int .i64 0, .int .i64 0, .int .i64 0, .int .i64 0, .int .i64 0, .int .i64 0, .int .i64 0, .int .i64 0] 30)
  have L := (Box.new (w.alloc (.cells #[.string nm, .int .i64 k, .int .i64 d, .int .i64 m, .int .i64 s, .int .i64 1, .int .i64 p0, .int .i64 p1, .int .i64 p2, .int .i64 cy, .int .i64 ex, .int .i64 fi, .int .i64 la, .int .i64 po] 30)) #[.string ⟨#[]⟩, .int .i64 0, .int .i64 0, .int .i64 0, .int .i64 0, .int .i64 1, .int .i64 0, .int .i64 0, .int .i64 0, .int .i64 0, .int .i64 0, .int .i64 0, .int .i64 0, .int .i64 0] 30)
  have B1 := balloc (balloc (Below.refl _ w) (.cells #[.string nm, .int .i64 k, .int .i64 d, .int .i64 m, .int .i64 s, .int .i64 1, .int .i64 p0, .int .i64 p1, .int .i64 p2, .int .i64 cy, .int .i64 ex, .int .i64 fi, .int .i64 la, .int .i64 po] 30)) (.cells #[.string ⟨#[]⟩, .int .i64 0, .int .i64 0, .int .i64 0, .int .i64 0, .int .i64 1, .int .i64 0, .int .i64 0, .int .i64 0, .int .i64 0, .int .i64 0, .int .i64 0, .int .i64 0, .int .i64 0] 30)
  have z1 : ((w.alloc (.cells #[.string nm, .int .i64 k, .int .i64 d, .int .i64 m, .int .i64 s, .int .i64 1, .int .i64 p0, .int .i64 p1, .int .i64 p2, .int .i64 cy, .int .i64 ex, .int .i64 fi, .int .i64 la, .int .i64 po] 30)).alloc (.cells #[.string ⟨#[]⟩, .int .i64 0, .int .i64 0, .int .i64 0, .int .i64 0, .int .i64 1, .int .i64 0, .int .i64 0, .int .i64 0, .int .i64 0, .int .i64 0, .int .i64 0, .int .i64 0, .int .i64 0] 30)).heap.size = w.heap.size + 2 := by simp
  simp only [World.size_alloc] at L
  go_enter Tryz.func63, Tryz.ntmps63
  go_upto_block 0 with fail
  generalize (w.alloc (.cells #[.string nm, .int .i64 k, .int .i64 d, .int .i64 m, .int .i64 s, .int .i64 1, .int .i64 p0, .int .i64 p1, .int .i64 p2, .int .i64 cy, .int .i64 ex, .int .i64 fi, .int .i64 la, .int .i64 po] 30)).alloc (.cells #[.string ⟨#[]⟩, .int .i64 0, .int .i64 0, .int .i64 0, .int .i64 0, .int .i64 1, .int .i64 0, .int .i64 0, .int .i64 0, .int .i64 0, .int .i64 0, .int .i64 0, .int .i64 0, .int .i64 0] 30) = W1 at *
  have CN1 : ∀ W, Below (w.heap.size + 1) W1 W → Calls Tryz.prog 79 #[.slice (some ⟨b, o, none⟩) 3 cap, .agg #[.int .i64 p0, .int .i64 p1, .int .i64 p2]] W fun e w' => e = .returned (.int .i64 (v + 1)) ∧ Below W.heap.size W w' := fun W hB => CN W (B1.trans (hB.mono (by omega)))
  have H : Hid (∀ W, Below (w.heap.size + 1) W1 W → (Below (w.heap.size + 1) W1 W ∧ W.cell? ⟨w.heap.size, 6, none⟩ = some (.int .i64 p0) ∧ W.cell? ⟨w.heap.size, 7, none⟩ = some (.int .i64 p1) ∧ W.cell? ⟨w.heap.size, 8, none⟩ = some (.int .i64 p2) ∧ W.cell? ⟨6, 0, none⟩ = some (.slice (some ⟨b, o, none⟩) 3 cap))) := Lib.hid (fun W h => by
    have Q := P.upto (w1 := W) (by omega) h (by omega)
    exact ⟨h, Q.c6, Q.c7, Q.c8, (h.cell (p := ⟨6, 0, none⟩) (Nat.lt_succ_of_lt g0)).trans ((B1.cell (p := ⟨6, 0, none⟩) g0).trans gc)⟩)
  clear CN hv v0 v1
  have gc1 := (H.out W1 (Below.refl _ _)).2.2.2.2
  obtain ⟨_, c0, c1, c2, c3, c4, c5, c6, c7, c8, c9, c10, c11, c12, c13⟩ := id P
  dsimp only at *
  have lf6 := L.frz 6 (by decide)
  have ll6 := L.cell 6 _ rfl
  have lf7 := L.frz 7 (by decide)
  have ll7 := L.cell 7 _ rfl
  have lf8 := L.frz 8 (by decide)
  have ll8 := L.cell 8 _ rfl
  go_cut [4] (fun s4 wx => CutMid W1 (w.heap.size + 1) [.string ⟨#[]⟩, .int .i64 0, .int .i64 0, .int .i64 0, .int .i64 0, .int .i64 1, .int .i64 p0, .int .i64 p1, .int .i64 p2, .int .i64 0, .int .i64 0, .int .i64 0, .int .i64 0, .int .i64 0] may s4 wx)
  case first =>
    go_upto_region 5 with fail
    go_region_held3 (fun w' => Below (w.heap.size + 1) W1 w' ∧ w'.cell? ⟨w.heap.size, 6, none⟩ = some (.int .i64 p0) ∧ w'.cell? ⟨w.heap.size, 7, none⟩ = some (.int .i64 p1) ∧ w'.cell? ⟨w.heap.size, 8, none⟩ = some (.int .i64 p2) ∧ w'.cell? ⟨6, 0, none⟩ = some (.slice (some ⟨b, o, none⟩) 3 cap))
      ((refine H.out _ ?_; repeat (first | (with_reducible assumption) | (with_reducible exact Below.refl _ _) | (with_reducible refine Below.drew ?_) | ((with_reducible refine Below.setCell ?_ ?_ _); rotate_left; exact Nat.le_refl _))))
      (first
        | (go_at_call 79; (with_reducible refine (CN1 _ (by repeat (first | (with_reducible assumption) | (with_reducible exact Below.refl _ _) | (with_reducible refine Below.drew ?_) | ((with_reducible refine Below.setCell ?_ ?_ _); rotate_left; exact Nat.le_refl _)))).mono ?_); rintro e w2 ⟨rfl, hb⟩; (first | (have K := Box.kept (by with_reducible exact L) hb) | (have K := Box.kept (by with_reducible exact box_drew L) hb) | (have K := Box.kept (by with_reducible exact ((L.set 6 (by decide) (.int .i64 p0)).set 7 (by decide) (.int .i64 p1)).set 8 (by decide) (.int .i64 p2)) hb) | (have K := Box.kept (by with_reducible exact box_drew (((L.set 6 (by decide) (.int .i64 p0)).set 7 (by decide) (.int .i64 p1)).set 8 (by decide) (.int .i64 p2))) hb)); have hB := Below.trans (B := w.heap.size + 1) (a := W1) (by repeat (first | (with_reducible assumption) | (with_reducible exact Below.refl _ _) | (with_reducible refine Below.drew ?_) | ((with_reducible refine Below.setCell ?_ ?_ _); rotate_left; exact Nat.le_refl _))) (hb.mono (by simp only [World.size_setCell, World.heap_drewN, World.size_drew]; omega)); have kf6 := K.frz 6 (by decide); have kl6 := K.cell 6 _ rfl; have kf7 := K.frz 7 (by decide); have kl7 := K.cell 7 _ rfl; have kf8 := K.frz 8 (by decide); have kl8 := K.cell 8 _ rfl))
    all_goals go_wp2
    all_goals go_meet
    exact ⟨rfl, (((hB.setCell (p := ⟨w.heap.size + 1, 6, none⟩) (Nat.le_refl _) _).setCell (p := ⟨w.heap.size + 1, 7, none⟩) (Nat.le_refl _) _).setCell (p := ⟨w.heap.size + 1, 8, none⟩) (Nat.le_refl _) _), (((K.set 6 (by simp) _).set 7 (by simp) _).set 8 (by simp) _)⟩
  case rest =>
    obtain ⟨rfl, hB, K⟩ := hcut
    rename World => W2
    replace P := P.upto (w1 := W2) (by omega) hB (by omega)
    replace B1 := B1.trans (hB.mono (by omega))
    clear hB gc1 CN1 H z1 c0 c1 c2 c3 c4 c5 c6 c7 c8 c9 c10 c11 c12 c13 lf6 ll6 lf7 ll7 lf8 ll8
    obtain ⟨_, c0, c1, c2, c3, c4, c5, c6, c7, c8, c9, c10, c11, c12, c13⟩ := id P
    have l6 := K.cell 6 _ rfl
    have l7 := K.cell 7 _ rfl
    have l8 := K.cell 8 _ rfl
    have l9 := K.cell 9 _ rfl
    dsimp only at *
    cases may with
    | false =>
      simp at hr
      subst hr
      clear K P cp cw hm hpv
      go_wp2
      go_quiet (fail)
      go_wp2
      go_ret
      exact ⟨rfl, bdrewN B1 _⟩
    | true =>
      replace cp := cp (by intro k; omega)
      rw [decide_eq_true ⟨rfl, rfl, rfl⟩] at q
      by_cases hc : cy = 0
      · subst hc
        obtain ⟨rb, hrb⟩ : ∃ rb, (decide (1 ≤ ex) && decide (ex ≤ pv)) = rb := ⟨_, rfl⟩
        rw [hrb] at cw hr
        simp at hr
        subst hr
        clear hrb hpv
        have H := Lib.hid (fun (W : World) (h : Below W2.heap.size W2 W) => (⟨h, (P.kept h).c0, (P.kept h).c1, (P.kept h).c2, (P.kept h).c3, (P.kept h).c4, (P.kept h).c5, (P.kept h).c6, (P.kept h).c7, (P.kept h).c8, (P.kept h).c9, (P.kept h).c10, (P.kept h).c11, (P.kept h).c12, (P.kept h).c13,
          (K.kept h).cell 6 _ rfl, (K.kept h).cell 7 _ rfl, (K.kept h).cell 8 _ rfl, (K.kept h).cell 9 _ rfl⟩ : Below W2.heap.size W2 W ∧ W.cell? ⟨w.heap.size, 0, none⟩ = some (.string nm) ∧ W.cell? ⟨w.heap.size, 1, none⟩ = some (.int .i64 k) ∧ W.cell? ⟨w.heap.size, 2, none⟩ = some (.int .i64 d) ∧ W.cell? ⟨w.heap.size, 3, none⟩ = some (.int .i64 m) ∧ W.cell? ⟨w.heap.size, 4, none⟩ = some (.int .i64 s) ∧ W.cell? ⟨w.heap.size, 5, none⟩ = some (.int .i64 1) ∧ W.cell? ⟨w.heap.size, 6, none⟩ = some (.int .i64 p0) ∧ W.cell? ⟨w.heap.size, 7, none⟩ = some (.int .i64 p1) ∧ W.cell? ⟨w.heap.size, 8, none⟩ = some (.int .i64 p2) ∧ W.cell? ⟨w.heap.size, 9, none⟩ = some (.int .i64 0) ∧ W.cell? ⟨w.heap.size, 10, none⟩ = some (.int .i64 ex) ∧ W.cell? ⟨w.heap.size, 11, none⟩ = some (.int .i64 fi) ∧ W.cell? ⟨w.heap.size, 12, none⟩ = some (.int .i64 la) ∧ W.cell? ⟨w.heap.size, 13, none⟩ = some (.int .i64 po) ∧ W.cell? ⟨w.heap.size + 1, 6, none⟩ = some (.int .i64 p0) ∧ W.cell? ⟨w.heap.size + 1, 7, none⟩ = some (.int .i64 p1) ∧ W.cell? ⟨w.heap.size + 1, 8, none⟩ = some (.int .i64 p2) ∧ W.cell? ⟨w.heap.size + 1, 9, none⟩ = some (.int .i64 0)))
        clear K P
        go_wp2
        go_region_held3 (fun w' => Below W2.heap.size W2 w' ∧ w'.cell? ⟨w.heap.size, 0, none⟩ = some (.string nm) ∧ w'.cell? ⟨w.heap.size, 1, none⟩ = some (.int .i64 k) ∧ w'.cell? ⟨w.heap.size, 2, none⟩ = some (.int .i64 d) ∧ w'.cell? ⟨w.heap.size, 3, none⟩ = some (.int .i64 m) ∧ w'.cell? ⟨w.heap.size, 4, none⟩ = some (.int .i64 s) ∧ w'.cell? ⟨w.heap.size, 5, none⟩ = some (.int .i64 1) ∧ w'.cell? ⟨w.heap.size, 6, none⟩ = some (.int .i64 p0) ∧ w'.cell? ⟨w.heap.size, 7, none⟩ = some (.int .i64 p1) ∧ w'.cell? ⟨w.heap.size, 8, none⟩ = some (.int .i64 p2) ∧ w'.cell? ⟨w.heap.size, 9, none⟩ = some (.int .i64 0) ∧ w'.cell? ⟨w.heap.size, 10, none⟩ = some (.int .i64 ex) ∧ w'.cell? ⟨w.heap.size, 11, none⟩ = some (.int .i64 fi) ∧ w'.cell? ⟨w.heap.size, 12, none⟩ = some (.int .i64 la) ∧ w'.cell? ⟨w.heap.size, 13, none⟩ = some (.int .i64 po) ∧ w'.cell? ⟨w.heap.size + 1, 6, none⟩ = some (.int .i64 p0) ∧ w'.cell? ⟨w.heap.size + 1, 7, none⟩ = some (.int .i64 p1) ∧ w'.cell? ⟨w.heap.size + 1, 8, none⟩ = some (.int .i64 p2) ∧ w'.cell? ⟨w.heap.size + 1, 9, none⟩ = some (.int .i64 0))
          ((refine H.out _ ?_; first | (with_reducible assumption) | (with_reducible exact Below.refl _ _) | exact (Below.refl _ _).drew))
          (first
            | (go_at_call 39; (with_reducible refine (cp _).mono ?_); rintro e w4 ⟨rfl, hb⟩; have hB := bthen (w := W2) (by first | (with_reducible assumption) | (with_reducible exact Below.refl _ _) | exact (Below.refl _ _).drew) hb)
            | (go_at_call 62; (with_reducible refine (cw _).mono ?_); rintro e w5 ⟨rfl, rfl⟩))
        all_goals go_wp2
        all_goals
          go_ret
          exact ⟨rfl, bthen B1 hB⟩
      · have hd : (cy == 0) = false := beq_eq_false_iff_ne.2 hc
        simp [hc] at hr
        subst hr
        clear hc K P cp cw hm hpv
        go_wp2
        go_quiet (fail)
        go_wp2
        go_ret
        exact ⟨rfl, bdrewN B1 _⟩

set_option maxRecDepth 100000 in
theorem Cut_cyc (c : CalZ) (r may : Bool) (v pv : Int) (w : World) (h : c.sh = 3) (hv : v = cycI c.cy) (v0 : -1 ≤ v) (v1 : v ≤ 2) (hcy : Hid (may = true → c.cy = 1 ∨ c.cy = 2 ∨ c.cy = 4)) (hm : decide (0 < v + 1) = may) (hpv : pv = per c)
    (hr : r = (may && (decide (c.p0 = 0 ∧ c.p1 = 0 ∧ c.p2 = 0) && (decide (1 ≤ c.ex) && decide (c.ex ≤ pv))))) (T : FTab w) :
    Calls Tryz.prog 63 #[.agg #[.string c.nm, .int .i64 c.k, .int .i64 c.d, .int .i64 c.m, .int .i64 c.s, .int .i64 c.sh, .int .i64 c.p0, .int .i64 c.p1, .int .i64 c.p2, .int .i64 c.cy, .int .i64 c.ex, .int .i64 c.fi, .int .i64 c.la, .int .i64 c.po]] w fun e w' => e = .returned (.bool r) ∧ Below w.heap.size w w' := by
  have P := CalIn.new w c 30
  have cp := fun (hh : c.sh = 3 → c.cy = 1 ∨ c.cy = 2 ∨ c.cy = 4) w => periods_any c pv w hpv hh
  have cw := fun w => within_any c.ex 1 pv _ w rfl
  have q := fun w => pat_eql c.p0 c.p1 c.p2 0 0 0 w
  obtain ⟨b, o, cap, g0, b0, gc, gi⟩ := T.cyc
  have CN : ∀ W, Below w.heap.size w W → Calls Tryz.prog 80 #[.slice (some ⟨b, o, none⟩) 3 cap, .int .i64 c.cy] W fun e w' => e = .returned (.int .i64 (v + 1)) ∧ Below W.heap.size W w' := fun W hB =>
    (number_int b o cap _ v W (fun i u e => (hB.cell (p := ⟨b, o + i, none⟩) b0).trans (gi i u e)) hv v0 v1).mono fun e w1 ⟨h1, h2⟩ => ⟨h1, h2 ▸ Below.refl _ _⟩
  obtain ⟨nm, k, d, m, s, sh, p0, p1, p2, cy, ex, fi, la, po⟩ := c
  dsimp only at *
  subst h
  replace P := P.alloc (.cells #[.string ⟨#[]⟩, .int .i64 0, .int .i64 0, .int .i64 0, .int .i64 0, .int .i64 3, .int .i64 0, .int .i64 0, .int .i64 0, .int .i64 0, .int .i64 0, .int .i64 0, .int .i64 0, .int .i64 0] 30)
  have L := (Box.new (w.alloc (.cells #[.string nm, .int .i64 k, .int .i64 d, .int .i64 m, .int .i64 s, .int .i64 3, .int .i64 p0, .int .i64 p1, .int .i64 p2, .int .i64 cy, .int .i64 ex, .int .i64 fi, .int .i64 la, .int .i64 po] 30)) #[.string ⟨#[]⟩, .int .i64 0, .int .i64 0, .int .i64 0, .int .i64 0, .int .i64 3, .int .i64 0, .int .i64 0, .int .i64 0, .int .i64 0, .int .i64 0, .int .i64 0, .int .i64 0, .int .i64 0] 30)
  have B1 := balloc (balloc (Below.refl _ w) (.cells #[.string nm, .int .i64 k, .int .i64 d, .int .i64 m, .int .i64 s, .int .i64 3, .int .i64 p0, .int .i64 p1, .int .i64 p2, .int .i64 cy, .int .i64 ex, .int .i64 fi, .int .i64 la, .int .i64 po] 30)) (.cells #[.string ⟨#[]⟩, .int .i64 0, .int .i64 0, .int .i64 0, .int .i64 0, .int .i64 3, .int .i64 0, .int .i64 0, .int .i64 0, .int .i64 0, .int .i64 0, .int .i64 0, .int .i64 0, .int .i64 0] 30)
  have z1 : ((w.alloc (.cells #[.string nm, .int .i64 k, .int .i64 d, .int .i64 m, .int .i64 s, .int .i64 3, .int .i64 p0, .int .i64 p1, .int .i64 p2, .int .i64 cy, .int .i64 ex, .int .i64 fi, .int .i64 la, .int .i64 po] 30)).alloc (.cells #[.string ⟨#[]⟩, .int .i64 0, .int .i64 0, .int .i64 0, .int .i64 0, .int .i64 3, .int .i64 0, .int .i64 0, .int .i64 0, .int .i64 0, .int .i64 0, .int .i64 0, .int .i64 0, .int .i64 0] 30)).heap.size = w.heap.size + 2 := by simp
  simp only [World.size_alloc] at L
  go_enter Tryz.func63, Tryz.ntmps63
  go_upto_block 0 with fail
  generalize (w.alloc (.cells #[.string nm, .int .i64 k, .int .i64 d, .int .i64 m, .int .i64 s, .int .i64 3, .int .i64 p0, .int .i64 p1, .int .i64 p2, .int .i64 cy, .int .i64 ex, .int .i64 fi, .int .i64 la, .int .i64 po] 30)).alloc (.cells #[.string ⟨#[]⟩, .int .i64 0, .int .i64 0, .int .i64 0, .int .i64 0, .int .i64 3, .int .i64 0, .int .i64 0, .int .i64 0, .int .i64 0, .int .i64 0, .int .i64 0, .int .i64 0, .int .i64 0] 30) = W1 at *
  have CN1 : ∀ W, Below (w.heap.size + 1) W1 W → Calls Tryz.prog 80 #[.slice (some ⟨b, o, none⟩) 3 cap, .int .i64 cy] W fun e w' => e = .returned (.int .i64 (v + 1)) ∧ Below W.heap.size W w' := fun W hB => CN W (B1.trans (hB.mono (by omega)))
  have H : Hid (∀ W, Below (w.heap.size + 1) W1 W → (Below (w.heap.size + 1) W1 W ∧ W.cell? ⟨w.heap.size, 9, none⟩ = some (.int .i64 cy) ∧ W.cell? ⟨7, 0, none⟩ = some (.slice (some ⟨b, o, none⟩) 3 cap))) := Lib.hid (fun W h => by
    have Q := P.upto (w1 := W) (by omega) h (by omega)
    exact ⟨h, Q.c9, (h.cell (p := ⟨7, 0, none⟩) (Nat.lt_succ_of_lt g0)).trans ((B1.cell (p := ⟨7, 0, none⟩) g0).trans gc)⟩)
  clear CN hv v0 v1
  have gc1 := (H.out W1 (Below.refl _ _)).2.2
  obtain ⟨_, c0, c1, c2, c3, c4, c5, c6, c7, c8, c9, c10, c11, c12, c13⟩ := id P
  dsimp only at *
  have lf9 := L.frz 9 (by decide)
  have ll9 := L.cell 9 _ rfl
  go_cut [4] (fun s4 wx => CutMid W1 (w.heap.size + 1) [.string ⟨#[]⟩, .int .i64 0, .int .i64 0, .int .i64 0, .int .i64 0, .int .i64 3, .int .i64 0, .int .i64 0, .int .i64 0, .int .i64 cy, .int .i64 0, .int .i64 0, .int .i64 0, .int .i64 0] may s4 wx)
  case first =>
    go_upto_region 9 with fail
    go_region_held3 (fun w' => Below (w.heap.size + 1) W1 w' ∧ w'.cell? ⟨w.heap.size, 9, none⟩ = some (.int .i64 cy) ∧ w'.cell? ⟨7, 0, none⟩ = some (.slice (some ⟨b, o, none⟩) 3 cap))
      ((refine H.out _ ?_; repeat (first | (with_reducible assumption) | (with_reducible exact Below.refl _ _) | (with_reducible refine Below.drew ?_) | ((with_reducible refine Below.setCell ?_ ?_ _); rotate_left; exact Nat.le_refl _))))
      (first
        | (go_at_call 80; (with_reducible refine (CN1 _ (by repeat (first | (with_reducible assumption) | (with_reducible exact Below.refl _ _) | (with_reducible refine Below.drew ?_) | ((with_reducible refine Below.setCell ?_ ?_ _); rotate_left; exact Nat.le_refl _)))).mono ?_); rintro e w2 ⟨rfl, hb⟩; (first | (have K := Box.kept (by with_reducible exact L) hb) | (have K := Box.kept (by with_reducible exact box_drew L) hb) | (have K := Box.kept (by with_reducible exact L.set 9 (by decide) (.int .i64 cy)) hb) | (have K := Box.kept (by with_reducible exact box_drew (L.set 9 (by decide) (.int .i64 cy))) hb)); have hB := Below.trans (B := w.heap.size + 1) (a := W1) (by repeat (first | (with_reducible assumption) | (with_reducible exact Below.refl _ _) | (with_reducible refine Below.drew ?_) | ((with_reducible refine Below.setCell ?_ ?_ _); rotate_left; exact Nat.le_refl _))) (hb.mono (by simp only [World.size_setCell, World.heap_drewN, World.size_drew]; omega)); have kf9 := K.frz 9 (by decide); have kl9 := K.cell 9 _ rfl))
    all_goals go_wp2
    all_goals go_meet
    exact ⟨rfl, (hB.setCell (p := ⟨w.heap.size + 1, 9, none⟩) (Nat.le_refl _) _), (K.set 9 (by simp) _)⟩
  case rest =>
    obtain ⟨rfl, hB, K⟩ := hcut
    rename World => W2
    replace P := P.upto (w1 := W2) (by omega) hB (by omega)
    replace B1 := B1.trans (hB.mono (by omega))
    clear hB gc1 CN1 H z1 c0 c1 c2 c3 c4 c5 c6 c7 c8 c9 c10 c11 c12 c13 lf9 ll9
    obtain ⟨_, c0, c1, c2, c3, c4, c5, c6, c7, c8, c9, c10, c11, c12, c13⟩ := id P
    have l6 := K.cell 6 _ rfl
    have l7 := K.cell 7 _ rfl
    have l8 := K.cell 8 _ rfl
    have l9 := K.cell 9 _ rfl
    dsimp only at *
    cases may with
    | false =>
      simp at hr
      subst hr
      clear K P cp cw hm hpv
      go_wp2
      go_quiet (fail)
      go_wp2
      go_ret
      exact ⟨rfl, bdrewN B1 _⟩
    | true =>
      replace cp := cp (fun _ => hcy.out rfl)
      by_cases hp : p0 = 0 ∧ p1 = 0 ∧ p2 = 0
      · obtain ⟨rfl, rfl, rfl⟩ := hp
        rw [decide_eq_true ⟨rfl, rfl, rfl⟩] at q hr
        obtain ⟨rb, hrb⟩ : ∃ rb, (decide (1 ≤ ex) && decide (ex ≤ pv)) = rb := ⟨_, rfl⟩
        rw [hrb] at cw hr
        simp at hr
        subst hr
        clear hrb hpv
        have H := Lib.hid (fun (W : World) (h : Below W2.heap.size W2 W) => (⟨h, (P.kept h).c0, (P.kept h).c1, (P.kept h).c2, (P.kept h).c3, (P.kept h).c4, (P.kept h).c5, (P.kept h).c6, (P.kept h).c7, (P.kept h).c8, (P.kept h).c9, (P.kept h).c10, (P.kept h).c11, (P.kept h).c12, (P.kept h).c13,
          (K.kept h).cell 6 _ rfl, (K.kept h).cell 7 _ rfl, (K.kept h).cell 8 _ rfl, (K.kept h).cell 9 _ rfl⟩ : Below W2.heap.size W2 W ∧ W.cell? ⟨w.heap.size, 0, none⟩ = some (.string nm) ∧ W.cell? ⟨w.heap.size, 1, none⟩ = some (.int .i64 k) ∧ W.cell? ⟨w.heap.size, 2, none⟩ = some (.int .i64 d) ∧ W.cell? ⟨w.heap.size, 3, none⟩ = some (.int .i64 m) ∧ W.cell? ⟨w.heap.size, 4, none⟩ = some (.int .i64 s) ∧ W.cell? ⟨w.heap.size, 5, none⟩ = some (.int .i64 3) ∧ W.cell? ⟨w.heap.size, 6, none⟩ = some (.int .i64 0) ∧ W.cell? ⟨w.heap.size, 7, none⟩ = some (.int .i64 0) ∧ W.cell? ⟨w.heap.size, 8, none⟩ = some (.int .i64 0) ∧ W.cell? ⟨w.heap.size, 9, none⟩ = some (.int .i64 cy) ∧ W.cell? ⟨w.heap.size, 10, none⟩ = some (.int .i64 ex) ∧ W.cell? ⟨w.heap.size, 11, none⟩ = some (.int .i64 fi) ∧ W.cell? ⟨w.heap.size, 12, none⟩ = some (.int .i64 la) ∧ W.cell? ⟨w.heap.size, 13, none⟩ = some (.int .i64 po) ∧ W.cell? ⟨w.heap.size + 1, 6, none⟩ = some (.int .i64 0) ∧ W.cell? ⟨w.heap.size + 1, 7, none⟩ = some (.int .i64 0) ∧ W.cell? ⟨w.heap.size + 1, 8, none⟩ = some (.int .i64 0) ∧ W.cell? ⟨w.heap.size + 1, 9, none⟩ = some (.int .i64 cy)))
        clear K P
        go_wp2
        go_region_held3 (fun w' => Below W2.heap.size W2 w' ∧ w'.cell? ⟨w.heap.size, 0, none⟩ = some (.string nm) ∧ w'.cell? ⟨w.heap.size, 1, none⟩ = some (.int .i64 k) ∧ w'.cell? ⟨w.heap.size, 2, none⟩ = some (.int .i64 d) ∧ w'.cell? ⟨w.heap.size, 3, none⟩ = some (.int .i64 m) ∧ w'.cell? ⟨w.heap.size, 4, none⟩ = some (.int .i64 s) ∧ w'.cell? ⟨w.heap.size, 5, none⟩ = some (.int .i64 3) ∧ w'.cell? ⟨w.heap.size, 6, none⟩ = some (.int .i64 0) ∧ w'.cell? ⟨w.heap.size, 7, none⟩ = some (.int .i64 0) ∧ w'.cell? ⟨w.heap.size, 8, none⟩ = some (.int .i64 0) ∧ w'.cell? ⟨w.heap.size, 9, none⟩ = some (.int .i64 cy) ∧ w'.cell? ⟨w.heap.size, 10, none⟩ = some (.int .i64 ex) ∧ w'.cell? ⟨w.heap.size, 11, none⟩ = some (.int .i64 fi) ∧ w'.cell? ⟨w.heap.size, 12, none⟩ = some (.int .i64 la) ∧ w'.cell? ⟨w.heap.size, 13, none⟩ = some (.int .i64 po) ∧ w'.cell? ⟨w.heap.size + 1, 6, none⟩ = some (.int .i64 0) ∧ w'.cell? ⟨w.heap.size + 1, 7, none⟩ = some (.int .i64 0) ∧ w'.cell? ⟨w.heap.size + 1, 8, none⟩ = some (.int .i64 0) ∧ w'.cell? ⟨w.heap.size + 1, 9, none⟩ = some (.int .i64 cy))
          ((refine H.out _ ?_; first | (with_reducible assumption) | (with_reducible exact Below.refl _ _) | exact (Below.refl _ _).drew))
          (first
            | (go_at_call 39; (with_reducible refine (cp _).mono ?_); rintro e w4 ⟨rfl, hb⟩; have hB := bthen (w := W2) (by first | (with_reducible assumption) | (with_reducible exact Below.refl _ _) | exact (Below.refl _ _).drew) hb)
            | (go_at_call 62; (with_reducible refine (cw _).mono ?_); rintro e w5 ⟨rfl, rfl⟩))
        all_goals go_wp2
        all_goals
          go_ret
          exact ⟨rfl, bthen B1 hB⟩
      · rw [decide_eq_false hp] at q hr
        simp at hr
        subst hr
        clear hp K P cp cw hm hpv
        go_wp2
        go_quiet (fail)
        go_wp2
        go_ret
        exact ⟨rfl, bdrewN B1 _⟩

end Go.Proofs.YtnjmokmlnpehdaaGreatDoor.Fp

namespace Go.Proofs.YtnjmokmlnpehdaaGreatDoor.Fp
set_option linter.unusedSimpArgs false
set_option linter.unusedVariables false
open Go.RowKit Go.Proofs.YtnjmokmlnpehdaaGreatDoor.Bn Go.Proofs.YtnjmokmlnpehdaaGreatDoor.Cp Go.Proofs.YtnjmokmlnpehdaaGreatDoor.Am Go.Proofs.YtnjmokmlnpehdaaGreatDoor.Fs

set_option maxHeartbeats 1000000

theorem tell_drew {W : World} {b : Nat} {vs : List Value} (p : Box W b vs) : Box W.drew b vs := ⟨p.lt, p.cell, p.frz⟩

/-- what the end says by itself is put into the calendar at block b -/
def TellPost (b : Nat) (c : CalZ) (w : World) (e : Ending) (w' : World) : Prop := e = .returned (.tuple #[]) ∧ Below b w w' ∧ Box w' b (calL c)

set_option maxRecDepth 100000 in
theorem tell_tttt (x c : CalZ) (b : Nat) (w : World) (L : Box w b (calL c)) :
    Calls Tryz.prog 61 #[.agg #[.string x.nm, .int .i64 x.k, .int .i64 x.d, .int .i64 x.m, .int .i64 x.s, .int .i64 x.sh, .int .i64 x.p0, .int .i64 x.p1, .int .i64 x.p2, .int .i64 x.cy, .int .i64 x.ex, .int .i64 x.fi, .int .i64 x.la, .int .i64 x.po, .bool true, .bool true, .bool true, .bool true], .pointer (some ⟨b, 0, none⟩)] w (TellPost b ⟨c.nm, x.k, c.d, c.m, c.s, c.sh, c.p0, c.p1, c.p2, c.cy, c.ex, c.fi, c.la, c.po⟩ w) := by
  have hlt := L.lt
  have P := Box.new w #[.string x.nm, .int .i64 x.k, .int .i64 x.d, .int .i64 x.m, .int .i64 x.s, .int .i64 x.sh, .int .i64 x.p0, .int .i64 x.p1, .int .i64 x.p2, .int .i64 x.cy, .int .i64 x.ex, .int .i64 x.fi, .int .i64 x.la, .int .i64 x.po, .bool true, .bool true, .bool true, .bool true] 68
  replace L := L.alloc (.cells #[.string x.nm, .int .i64 x.k, .int .i64 x.d, .int .i64 x.m, .int .i64 x.s, .int .i64 x.sh, .int .i64 x.p0, .int .i64 x.p1, .int .i64 x.p2, .int .i64 x.cy, .int .i64 x.ex, .int .i64 x.fi, .int .i64 x.la, .int .i64 x.po, .bool true, .bool true, .bool true, .bool true] 68)
  have B : Below b w (w.alloc (.cells #[.string x.nm, .int .i64 x.k, .int .i64 x.d, .int .i64 x.m, .int .i64 x.s, .int .i64 x.sh, .int .i64 x.p0, .int .i64 x.p1, .int .i64 x.p2, .int .i64 x.cy, .int .i64 x.ex, .int .i64 x.fi, .int .i64 x.la, .int .i64 x.po, .bool true, .bool true, .bool true, .bool true] 68)) := (Below.refl _ w).alloc (by omega) _
  have hne : ¬ b = w.heap.size := by omega
  have hne2 : ¬ w.heap.size = b := by omega
  obtain ⟨W, hW⟩ : ∃ W, w.alloc (.cells #[.string x.nm, .int .i64 x.k, .int .i64 x.d, .int .i64 x.m, .int .i64 x.s, .int .i64 x.sh, .int .i64 x.p0, .int .i64 x.p1, .int .i64 x.p2, .int .i64 x.cy, .int .i64 x.ex, .int .i64 x.fi, .int .i64 x.la, .int .i64 x.po, .bool true, .bool true, .bool true, .bool true] 68) = W := ⟨_, rfl⟩
  rw [hW] at P L B
  have p0 := P.cell 0 _ rfl
  have p1 := P.cell 1 _ rfl
  have p2 := P.cell 2 _ rfl
  have p3 := P.cell 3 _ rfl
  have p4 := P.cell 4 _ rfl
  have p5 := P.cell 5 _ rfl
  have p6 := P.cell 6 _ rfl
  have p7 := P.cell 7 _ rfl
  have p8 := P.cell 8 _ rfl
  have p9 := P.cell 9 _ rfl
  have p10 := P.cell 10 _ rfl
  have p11 := P.cell 11 _ rfl
  have p12 := P.cell 12 _ rfl
  have p13 := P.cell 13 _ rfl
  have p14 := P.cell 14 _ rfl
  have p15 := P.cell 15 _ rfl
  have p16 := P.cell 16 _ rfl
  have p17 := P.cell 17 _ rfl
  have l1 := L.cell 1 _ rfl
  have f1 := L.frz 1 (by simp [calL])
  go_enter Tryz.func61, Tryz.ntmps61
  go_wp2
  exact bodyPost_end (v := .tuple #[]) (by simp [results, Tryz.results61, go_sem]) rfl ⟨rfl, (B.setCell (p := ⟨b, 1, none⟩) (Nat.le_refl _) _), (L.set 1 (by simp [calL]) _)⟩

set_option maxRecDepth 100000 in
theorem tell_ffft (x c : CalZ) (b : Nat) (w : World) (L : Box w b (calL c)) :
    Calls Tryz.prog 61 #[.agg #[.string x.nm, .int .i64 x.k, .int .i64 x.d, .int .i64 x.m, .int .i64 x.s, .int .i64 x.sh, .int .i64 x.p0, .int .i64 x.p1, .int .i64 x.p2, .int .i64 x.cy, .int .i64 x.ex, .int .i64 x.fi, .int .i64 x.la, .int .i64 x.po, .bool false, .bool false, .bool false, .bool true], .pointer (some ⟨b, 0, none⟩)] w (TellPost b ⟨c.nm, x.k, x.d, x.m, x.s, c.sh, c.p0, c.p1, c.p2, c.cy, c.ex, c.fi, c.la, c.po⟩ w) := by
  have hlt := L.lt
  have P := Box.new w #[.string x.nm, .int .i64 x.k, .int .i64 x.d, .int .i64 x.m, .int .i64 x.s, .int .i64 x.sh, .int .i64 x.p0, .int .i64 x.p1, .int .i64 x.p2, .int .i64 x.cy, .int .i64 x.ex, .int .i64 x.fi, .int .i64 x.la, .int .i64 x.po, .bool false, .bool false, .bool false, .bool true] 68
  replace L := L.alloc (.cells #[.string x.nm, .int .i64 x.k, .int .i64 x.d, .int .i64 x.m, .int .i64 x.s, .int .i64 x.sh, .int .i64 x.p0, .int .i64 x.p1, .int .i64 x.p2, .int .i64 x.cy, .int .i64 x.ex, .int .i64 x.fi, .int .i64 x.la, .int .i64 x.po, .bool false, .bool false, .bool false, .bool true] 68)
  have B : Below b w (w.alloc (.cells #[.string x.nm, .int .i64 x.k, .int .i64 x.d, .int .i64 x.m, .int .i64 x.s, .int .i64 x.sh, .int .i64 x.p0, .int .i64 x.p1, .int .i64 x.p2, .int .i64 x.cy, .int .i64 x.ex, .int .i64 x.fi, .int .i64 x.la, .int .i64 x.po, .bool false, .bool false, .bool false, .bool true] 68)) := (Below.refl _ w).alloc (by omega) _
  have hne : ¬ b = w.heap.size := by omega
  have hne2 : ¬ w.heap.size = b := by omega
  obtain ⟨W, hW⟩ : ∃ W, w.alloc (.cells #[.string x.nm, .int .i64 x.k, .int .i64 x.d, .int .i64 x.m, .int .i64 x.s, .int .i64 x.sh, .int .i64 x.p0, .int .i64 x.p1, .int .i64 x.p2, .int .i64 x.cy, .int .i64 x.ex, .int .i64 x.fi, .int .i64 x.la, .int .i64 x.po, .bool false, .bool false, .bool false, .bool true] 68) = W := ⟨_, rfl⟩
  rw [hW] at P L B
  have p0 := P.cell 0 _ rfl
  have p1 := P.cell 1 _ rfl
  have p2 := P.cell 2 _ rfl
  have p3 := P.cell 3 _ rfl
  have p4 := P.cell 4 _ rfl
  have p5 := P.cell 5 _ rfl
  have p6 := P.cell 6 _ rfl
  have p7 := P.cell 7 _ rfl
  have p8 := P.cell 8 _ rfl
  have p9 := P.cell 9 _ rfl
  have p10 := P.cell 10 _ rfl
  have p11 := P.cell 11 _ rfl
  have p12 := P.cell 12 _ rfl
  have p13 := P.cell 13 _ rfl
  have p14 := P.cell 14 _ rfl
  have p15 := P.cell 15 _ rfl
  have p16 := P.cell 16 _ rfl
  have p17 := P.cell 17 _ rfl
  have l1 := L.cell 1 _ rfl
  have f1 := L.frz 1 (by simp [calL])
  have l2 := L.cell 2 _ rfl
  have f2 := L.frz 2 (by simp [calL])
  have l3 := L.cell 3 _ rfl
  have f3 := L.frz 3 (by simp [calL])
  have l4 := L.cell 4 _ rfl
  have f4 := L.frz 4 (by simp [calL])
  go_enter Tryz.func61, Tryz.ntmps61
  go_wp2
  exact bodyPost_end (v := .tuple #[]) (by simp [results, Tryz.results61, go_sem]) rfl ⟨rfl, ((((B.setCell (p := ⟨b, 1, none⟩) (Nat.le_refl _) _).setCell (p := ⟨b, 2, none⟩) (Nat.le_refl _) _).setCell (p := ⟨b, 3, none⟩) (Nat.le_refl _) _).setCell (p := ⟨b, 4, none⟩) (Nat.le_refl _) _), ((((L.set 1 (by simp [calL]) _).set 2 (by simp [calL]) _).set 3 (by simp [calL]) _).set 4 (by simp [calL]) _)⟩

set_option maxRecDepth 100000 in
theorem tell_ffff (x c : CalZ) (b : Nat) (w : World) (L : Box w b (calL c)) :
    Calls Tryz.prog 61 #[.agg #[.string x.nm, .int .i64 x.k, .int .i64 x.d, .int .i64 x.m, .int .i64 x.s, .int .i64 x.sh, .int .i64 x.p0, .int .i64 x.p1, .int .i64 x.p2, .int .i64 x.cy, .int .i64 x.ex, .int .i64 x.fi, .int .i64 x.la, .int .i64 x.po, .bool false, .bool false, .bool false, .bool false], .pointer (some ⟨b, 0, none⟩)] w (TellPost b ⟨c.nm, x.k, x.d, x.m, x.s, x.sh, x.p0, x.p1, x.p2, x.cy, x.ex, c.fi, c.la, c.po⟩ w) := by
  have hlt := L.lt
  have P := Box.new w #[.string x.nm, .int .i64 x.k, .int .i64 x.d, .int .i64 x.m, .int .i64 x.s, .int .i64 x.sh, .int .i64 x.p0, .int .i64 x.p1, .int .i64 x.p2, .int .i64 x.cy, .int .i64 x.ex, .int .i64 x.fi, .int .i64 x.la, .int .i64 x.po, .bool false, .bool false, .bool false, .bool false] 68
  replace L := L.alloc (.cells #[.string x.nm, .int .i64 x.k, .int .i64 x.d, .int .i64 x.m, .int .i64 x.s, .int .i64 x.sh, .int .i64 x.p0, .int .i64 x.p1, .int .i64 x.p2, .int .i64 x.cy, .int .i64 x.ex, .int .i64 x.fi, .int .i64 x.la, .int .i64 x.po, .bool false, .bool false, .bool false, .bool false] 68)
  have B : Below b w (w.alloc (.cells #[.string x.nm, .int .i64 x.k, .int .i64 x.d, .int .i64 x.m, .int .i64 x.s, .int .i64 x.sh, .int .i64 x.p0, .int .i64 x.p1, .int .i64 x.p2, .int .i64 x.cy, .int .i64 x.ex, .int .i64 x.fi, .int .i64 x.la, .int .i64 x.po, .bool false, .bool false, .bool false, .bool false] 68)) := (Below.refl _ w).alloc (by omega) _
  have hne : ¬ b = w.heap.size := by omega
  have hne2 : ¬ w.heap.size = b := by omega
  obtain ⟨W, hW⟩ : ∃ W, w.alloc (.cells #[.string x.nm, .int .i64 x.k, .int .i64 x.d, .int .i64 x.m, .int .i64 x.s, .int .i64 x.sh, .int .i64 x.p0, .int .i64 x.p1, .int .i64 x.p2, .int .i64 x.cy, .int .i64 x.ex, .int .i64 x.fi, .int .i64 x.la, .int .i64 x.po, .bool false, .bool false, .bool false, .bool false] 68) = W := ⟨_, rfl⟩
  rw [hW] at P L B
  have p0 := P.cell 0 _ rfl
  have p1 := P.cell 1 _ rfl
  have p2 := P.cell 2 _ rfl
  have p3 := P.cell 3 _ rfl
  have p4 := P.cell 4 _ rfl
  have p5 := P.cell 5 _ rfl
  have p6 := P.cell 6 _ rfl
  have p7 := P.cell 7 _ rfl
  have p8 := P.cell 8 _ rfl
  have p9 := P.cell 9 _ rfl
  have p10 := P.cell 10 _ rfl
  have p11 := P.cell 11 _ rfl
  have p12 := P.cell 12 _ rfl
  have p13 := P.cell 13 _ rfl
  have p14 := P.cell 14 _ rfl
  have p15 := P.cell 15 _ rfl
  have p16 := P.cell 16 _ rfl
  have p17 := P.cell 17 _ rfl
  have l1 := L.cell 1 _ rfl
  have f1 := L.frz 1 (by simp [calL])
  have l2 := L.cell 2 _ rfl
  have f2 := L.frz 2 (by simp [calL])
  have l3 := L.cell 3 _ rfl
  have f3 := L.frz 3 (by simp [calL])
  have l4 := L.cell 4 _ rfl
  have f4 := L.frz 4 (by simp [calL])
  have l5 := L.cell 5 _ rfl
  have f5 := L.frz 5 (by simp [calL])
  have l6 := L.cell 6 _ rfl
  have f6 := L.frz 6 (by simp [calL])
  have l7 := L.cell 7 _ rfl
  have f7 := L.frz 7 (by simp [calL])
  have l8 := L.cell 8 _ rfl
  have f8 := L.frz 8 (by simp [calL])
  have l9 := L.cell 9 _ rfl
  have f9 := L.frz 9 (by simp [calL])
  have l10 := L.cell 10 _ rfl
  have f10 := L.frz 10 (by simp [calL])
  go_enter Tryz.func61, Tryz.ntmps61
  go_wp2
  replace P := ((((P.other 1 (.int .i64 x.k) hne2).other 2 (.int .i64 x.d) hne2).other 3 (.int .i64 x.m) hne2).other 4 (.int .i64 x.s) hne2)
  replace B := ((((B.setCell (p := ⟨b, 1, none⟩) (Nat.le_refl _) (.int .i64 x.k)).setCell (p := ⟨b, 2, none⟩) (Nat.le_refl _) (.int .i64 x.d)).setCell (p := ⟨b, 3, none⟩) (Nat.le_refl _) (.int .i64 x.m)).setCell (p := ⟨b, 4, none⟩) (Nat.le_refl _) (.int .i64 x.s))
  replace L := ((((L.set 1 (by simp [calL]) (.int .i64 x.k)).set 2 (by simp [calL]) (.int .i64 x.d)).set 3 (by simp [calL]) (.int .i64 x.m)).set 4 (by simp [calL]) (.int .i64 x.s))
  generalize ((((W.setCell ⟨b, 1, none⟩ (.int .i64 x.k)).setCell ⟨b, 2, none⟩ (.int .i64 x.d)).setCell ⟨b, 3, none⟩ (.int .i64 x.m)).setCell ⟨b, 4, none⟩ (.int .i64 x.s)) = V at *
  clear p0 p1 p2 p3 p4 p5 p6 p7 p8 p9 p10 p11 p12 p13 p14 p15 p16 p17 l1 f1 l2 f2 l3 f3 l4 f4 l5 f5 l6 f6 l7 f7 l8 f8 l9 f9 l10 f10 
  have p0 := P.cell 0 _ rfl
  have p1 := P.cell 1 _ rfl
  have p2 := P.cell 2 _ rfl
  have p3 := P.cell 3 _ rfl
  have p4 := P.cell 4 _ rfl
  have p5 := P.cell 5 _ rfl
  have p6 := P.cell 6 _ rfl
  have p7 := P.cell 7 _ rfl
  have p8 := P.cell 8 _ rfl
  have p9 := P.cell 9 _ rfl
  have p10 := P.cell 10 _ rfl
  have p11 := P.cell 11 _ rfl
  have p12 := P.cell 12 _ rfl
  have p13 := P.cell 13 _ rfl
  have p14 := P.cell 14 _ rfl
  have p15 := P.cell 15 _ rfl
  have p16 := P.cell 16 _ rfl
  have p17 := P.cell 17 _ rfl
  have l5 := L.cell 5 _ rfl
  have f5 := L.frz 5 (by simp [calL])
  have l6 := L.cell 6 _ rfl
  have f6 := L.frz 6 (by simp [calL])
  have l7 := L.cell 7 _ rfl
  have f7 := L.frz 7 (by simp [calL])
  have l8 := L.cell 8 _ rfl
  have f8 := L.frz 8 (by simp [calL])
  have l9 := L.cell 9 _ rfl
  have f9 := L.frz 9 (by simp [calL])
  have l10 := L.cell 10 _ rfl
  have f10 := L.frz 10 (by simp [calL])
  go_region
  exact bodyPost_end (v := .tuple #[]) (by simp [results, Tryz.results61, go_sem]) rfl ⟨rfl, Below.drew ((((((B.setCell (p := ⟨b, 5, none⟩) (Nat.le_refl _) _).setCell (p := ⟨b, 6, none⟩) (Nat.le_refl _) _).setCell (p := ⟨b, 7, none⟩) (Nat.le_refl _) _).setCell (p := ⟨b, 8, none⟩) (Nat.le_refl _) _).setCell (p := ⟨b, 9, none⟩) (Nat.le_refl _) _).setCell (p := ⟨b, 10, none⟩) (Nat.le_refl _) _), tell_drew ((((((L.set 5 (by simp [calL]) _).set 6 (by simp [calL]) _).set 7 (by simp [calL]) _).set 8 (by simp [calL]) _).set 9 (by simp [calL]) _).set 10 (by simp [calL]) _)⟩

set_option maxRecDepth 100000 in
theorem tell_fttf (x c : CalZ) (b : Nat) (w : World) (L : Box w b (calL c)) :
    Calls Tryz.prog 61 #[.agg #[.string x.nm, .int .i64 x.k, .int .i64 x.d, .int .i64 x.m, .int .i64 x.s, .int .i64 x.sh, .int .i64 x.p0, .int .i64 x.p1, .int .i64 x.p2, .int .i64 x.cy, .int .i64 x.ex, .int .i64 x.fi, .int .i64 x.la, .int .i64 x.po, .bool false, .bool true, .bool true, .bool false], .pointer (some ⟨b, 0, none⟩)] w (TellPost b ⟨c.nm, x.k, x.d, c.m, c.s, x.sh, x.p0, x.p1, x.p2, x.cy, x.ex, c.fi, c.la, c.po⟩ w) := by
  have hlt := L.lt
  have P := Box.new w #[.string x.nm, .int .i64 x.k, .int .i64 x.d, .int .i64 x.m, .int .i64 x.s, .int .i64 x.sh, .int .i64 x.p0, .int .i64 x.p1, .int .i64 x.p2, .int .i64 x.cy, .int .i64 x.ex, .int .i64 x.fi, .int .i64 x.la, .int .i64 x.po, .bool false, .bool true, .bool true, .bool false] 68
  replace L := L.alloc (.cells #[.string x.nm, .int .i64 x.k, .int .i64 x.d, .int .i64 x.m, .int .i64 x.s, .int .i64 x.sh, .int .i64 x.p0, .int .i64 x.p1, .int .i64 x.p2, .int .i64 x.cy, .int .i64 x.ex, .int .i64 x.fi, .int .i64 x.la, .int .i64 x.po, .bool false, .bool true, .bool true, .bool false] 68)
  have B : Below b w (w.alloc (.cells #[.string x.nm, .int .i64 x.k, .int .i64 x.d, .int .i64 x.m, .int .i64 x.s, .int .i64 x.sh, .int .i64 x.p0, .int .i64 x.p1, .int .i64 x.p2, .int .i64 x.cy, .int .i64 x.ex, .int .i64 x.fi, .int .i64 x.la, .int .i64 x.po, .bool false, .bool true, .bool true, .bool false] 68)) := (Below.refl _ w).alloc (by omega) _
  have hne : ¬ b = w.heap.size := by omega
  have hne2 : ¬ w.heap.size = b := by omega
  obtain ⟨W, hW⟩ : ∃ W, w.alloc (.cells #[.string x.nm, .int .i64 x.k, .int .i64 x.d, .int .i64 x.m, .int .i64 x.s, .int .i64 x.sh, .int .i64 x.p0, .int .i64 x.p1, .int .i64 x.p2, .int .i64 x.cy, .int .i64 x.ex, .int .i64 x.fi, .int .i64 x.la, .int .i64 x.po, .bool false, .bool true, .bool true, .bool false] 68) = W := ⟨_, rfl⟩
  rw [hW] at P L B
  have p0 := P.cell 0 _ rfl
  have p1 := P.cell 1 _ rfl
  have p2 := P.cell 2 _ rfl
  have p3 := P.cell 3 _ rfl
  have p4 := P.cell 4 _ rfl
  have p5 := P.cell 5 _ rfl
  have p6 := P.cell 6 _ rfl
  have p7 := P.cell 7 _ rfl
  have p8 := P.cell 8 _ rfl
  have p9 := P.cell 9 _ rfl
  have p10 := P.cell 10 _ rfl
  have p11 := P.cell 11 _ rfl
  have p12 := P.cell 12 _ rfl
  have p13 := P.cell 13 _ rfl
  have p14 := P.cell 14 _ rfl
  have p15 := P.cell 15 _ rfl
  have p16 := P.cell 16 _ rfl
  have p17 := P.cell 17 _ rfl
  have l1 := L.cell 1 _ rfl
  have f1 := L.frz 1 (by simp [calL])
  have l2 := L.cell 2 _ rfl
  have f2 := L.frz 2 (by simp [calL])
  have l5 := L.cell 5 _ rfl
  have f5 := L.frz 5 (by simp [calL])
  have l6 := L.cell 6 _ rfl
  have f6 := L.frz 6 (by simp [calL])
  have l7 := L.cell 7 _ rfl
  have f7 := L.frz 7 (by simp [calL])
  have l8 := L.cell 8 _ rfl
  have f8 := L.frz 8 (by simp [calL])
  have l9 := L.cell 9 _ rfl
  have f9 := L.frz 9 (by simp [calL])
  have l10 := L.cell 10 _ rfl
  have f10 := L.frz 10 (by simp [calL])
  go_enter Tryz.func61, Tryz.ntmps61
  go_wp2
  replace P := ((P.other 1 (.int .i64 x.k) hne2).other 2 (.int .i64 x.d) hne2)
  replace B := ((B.setCell (p := ⟨b, 1, none⟩) (Nat.le_refl _) (.int .i64 x.k)).setCell (p := ⟨b, 2, none⟩) (Nat.le_refl _) (.int .i64 x.d))
  replace L := ((L.set 1 (by simp [calL]) (.int .i64 x.k)).set 2 (by simp [calL]) (.int .i64 x.d))
  generalize ((W.setCell ⟨b, 1, none⟩ (.int .i64 x.k)).setCell ⟨b, 2, none⟩ (.int .i64 x.d)) = V at *
  clear p0 p1 p2 p3 p4 p5 p6 p7 p8 p9 p10 p11 p12 p13 p14 p15 p16 p17 l1 f1 l2 f2 l5 f5 l6 f6 l7 f7 l8 f8 l9 f9 l10 f10 
  have p0 := P.cell 0 _ rfl
  have p1 := P.cell 1 _ rfl
  have p2 := P.cell 2 _ rfl
  have p3 := P.cell 3 _ rfl
  have p4 := P.cell 4 _ rfl
  have p5 := P.cell 5 _ rfl
  have p6 := P.cell 6 _ rfl
  have p7 := P.cell 7 _ rfl
  have p8 := P.cell 8 _ rfl
  have p9 := P.cell 9 _ rfl
  have p10 := P.cell 10 _ rfl
  have p11 := P.cell 11 _ rfl
  have p12 := P.cell 12 _ rfl
  have p13 := P.cell 13 _ rfl
  have p14 := P.cell 14 _ rfl
  have p15 := P.cell 15 _ rfl
  have p16 := P.cell 16 _ rfl
  have p17 := P.cell 17 _ rfl
  have l5 := L.cell 5 _ rfl
  have f5 := L.frz 5 (by simp [calL])
  have l6 := L.cell 6 _ rfl
  have f6 := L.frz 6 (by simp [calL])
  have l7 := L.cell 7 _ rfl
  have f7 := L.frz 7 (by simp [calL])
  have l8 := L.cell 8 _ rfl
  have f8 := L.frz 8 (by simp [calL])
  have l9 := L.cell 9 _ rfl
  have f9 := L.frz 9 (by simp [calL])
  have l10 := L.cell 10 _ rfl
  have f10 := L.frz 10 (by simp [calL])
  go_region
  exact bodyPost_end (v := .tuple #[]) (by simp [results, Tryz.results61, go_sem]) rfl ⟨rfl, Below.drew ((((((B.setCell (p := ⟨b, 5, none⟩) (Nat.le_refl _) _).setCell (p := ⟨b, 6, none⟩) (Nat.le_refl _) _).setCell (p := ⟨b, 7, none⟩) (Nat.le_refl _) _).setCell (p := ⟨b, 8, none⟩) (Nat.le_refl _) _).setCell (p := ⟨b, 9, none⟩) (Nat.le_refl _) _).setCell (p := ⟨b, 10, none⟩) (Nat.le_refl _) _), tell_drew ((((((L.set 5 (by simp [calL]) _).set 6 (by simp [calL]) _).set 7 (by simp [calL]) _).set 8 (by simp [calL]) _).set 9 (by simp [calL]) _).set 10 (by simp [calL]) _)⟩

end Go.Proofs.YtnjmokmlnpehdaaGreatDoor.Fp

namespace Go.Proofs.YtnjmokmlnpehdaaGreatDoor.Fp
set_option linter.unusedSimpArgs false
set_option linter.unusedVariables false
open Go.RowKit Go.Proofs.YtnjmokmlnpehdaaGreatDoor.Bn Go.Proofs.YtnjmokmlnpehdaaGreatDoor.Cp Go.Proofs.YtnjmokmlnpehdaaGreatDoor.Am Go.Proofs.YtnjmokmlnpehdaaGreatDoor.Fs

set_option maxHeartbeats 1000000

/-- two calendars are the same but for their names -/
def CalSame (a c : CalZ) : Prop := a.k = c.k ∧ a.d = c.d ∧ a.m = c.m ∧ a.s = c.s ∧ a.sh = c.sh ∧ a.p0 = c.p0 ∧ a.p1 = c.p1 ∧ a.p2 = c.p2 ∧ a.cy = c.cy ∧ a.ex = c.ex ∧ a.fi = c.fi ∧ a.la = c.la ∧ a.po = c.po
instance (a c : CalZ) : Decidable (CalSame a c) := by unfold CalSame; exact inferInstance

theorem box_upto {W w1 : World} {b n : Nat} {vs : List Value} (p : Box W b vs) (h : b < n) (hb : Below n W w1) : Box w1 b vs :=
  ⟨Nat.lt_of_lt_of_le p.lt hb.size, fun i v e => (hb.cell (p := ⟨b, i, none⟩) h).trans (p.cell i v e), fun i e => (hb.frozen (p := ⟨b, i, none⟩) h).trans (p.frz i e)⟩
theorem box_range {W : World} {b : Nat} {vs : List Value} (p : Box W b vs) : W.rangeAt b 0 vs := fun j v h => by rw [Nat.zero_add]; exact p.cell j v h
theorem infoEndA : (Tryz.prog.info? 68).map (·.size) = some 18 := by kernel_rfl
theorem infoCal : (Tryz.prog.info? 30).map (·.size) = some 14 := by kernel_rfl

theorem cal_eql (a c : CalZ) (hn : a.nm = c.nm) (w : World) :
    (binOp .eql 30 (.agg #[.string a.nm, .int .i64 a.k, .int .i64 a.d, .int .i64 a.m, .int .i64 a.s, .int .i64 a.sh, .int .i64 a.p0, .int .i64 a.p1, .int .i64 a.p2, .int .i64 a.cy, .int .i64 a.ex, .int .i64 a.fi, .int .i64 a.la, .int .i64 a.po]) (.agg #[.string c.nm, .int .i64 c.k, .int .i64 c.d, .int .i64 c.m, .int .i64 c.s, .int .i64 c.sh, .int .i64 c.p0, .int .i64 c.p1, .int .i64 c.p2, .int .i64 c.cy, .int .i64 c.ex, .int .i64 c.fi, .int .i64 c.la, .int .i64 c.po])).run Tryz.prog w = .ok (.bool (decide (CalSame a c))) w := by
  have hS : Tryz.prog.underlying 30 = some (.struct (Tryz.prog.fieldsOf 30)) := by kernel_rfl
  have hp : Tryz.prog.stoodInHeld 30 = false := by kernel_rfl
  have u3 := Tryz.underlying3
  have hq := fun w => pat_eqIn 9997 a.p0 a.p1 a.p2 c.p0 c.p1 c.p2 w
  rw [run_eql_struct, show (10000 : Nat) = 9999 + 1 from rfl, run_equalIn_agg w 9999 30 _ _ hS hp]
  simp only [Program.fieldsOf, Tryz.underlying30]
  go_simp
  unfold CalSame
  repeat' split
  all_goals simp_all

theorem Cut_any (c : CalZ) (r : Bool) (w : World) (h : r = decide (CutOk c)) (T : FTab w) :
    Calls Tryz.prog 63 #[.agg #[.string c.nm, .int .i64 c.k, .int .i64 c.d, .int .i64 c.m, .int .i64 c.s, .int .i64 c.sh, .int .i64 c.p0, .int .i64 c.p1, .int .i64 c.p2, .int .i64 c.cy, .int .i64 c.ex, .int .i64 c.fi, .int .i64 c.la, .int .i64 c.po]] w fun e w' => e = .returned (.bool r) ∧ Below w.heap.size w w' := by
  by_cases h1 : c.sh = 1
  · obtain ⟨v, hv, v0, v1, hm⟩ := pat_num (x := c.p0) (y := c.p1) (z := c.p2)
    refine Cut_pat c r _ v 12 w h1 hv v0 v1 hm (by simp [per, h1]) ?_ T
    rw [h, Bool.eq_iff_iff]
    simp [CutOk, h1]
  · by_cases h2 : c.sh = 2
    · refine Cut_four c r w h2 ?_
      rw [h, Bool.eq_iff_iff]
      simp [CutOk, h2]
      try omega
    · by_cases h3 : c.sh = 3
      · obtain ⟨v, hv, v0, v1, hm⟩ := cyc_num (x := c.cy)
        refine Cut_cyc c r _ v (per c) w h3 hv v0 v1 (Lib.hid (fun k => by simpa using k)) hm rfl ?_ T
        rw [h, Bool.eq_iff_iff]
        by_cases y1 : c.cy = 1
        · simp [CutOk, per, h3, y1]; try omega
        · by_cases y2 : c.cy = 2
          · simp [CutOk, per, h3, y2]; try omega
          · by_cases y4 : c.cy = 4
            · simp [CutOk, per, h3, y4]; try omega
            · simp [CutOk, per, h3, y1, y2, y4]
      · have e : r = false := by rw [h]; simp [CutOk, h1, h2, h3]
        subst e
        exact Cut_other c w h1 h2 h3

set_option maxRecDepth 100000 in
theorem allows_tttt (x c : CalZ) (r : Bool) (w : World) (hk : Hid (x.k = c.k)) (hr : r = ((decide (1 ≤ c.d) && decide (c.d ≤ 7)) && ((decide (1 ≤ c.m) && decide (c.m ≤ 12)) && ((decide (0 ≤ c.s) && decide (c.s ≤ 1)) && decide (CutOk c))))) (T : FTab w) :
    Calls Tryz.prog 42 #[.agg #[.string x.nm, .int .i64 x.k, .int .i64 x.d, .int .i64 x.m, .int .i64 x.s, .int .i64 x.sh, .int .i64 x.p0, .int .i64 x.p1, .int .i64 x.p2, .int .i64 x.cy, .int .i64 x.ex, .int .i64 x.fi, .int .i64 x.la, .int .i64 x.po, .bool true, .bool true, .bool true, .bool true], .agg #[.string c.nm, .int .i64 c.k, .int .i64 c.d, .int .i64 c.m, .int .i64 c.s, .int .i64 c.sh, .int .i64 c.p0, .int .i64 c.p1, .int .i64 c.p2, .int .i64 c.cy, .int .i64 c.ex, .int .i64 c.fi, .int .i64 c.la, .int .i64 c.po]] w fun e w' => e = .returned (.bool r) ∧ Below w.heap.size w w' := by
  have P := ((Box.new w #[.string x.nm, .int .i64 x.k, .int .i64 x.d, .int .i64 x.m, .int .i64 x.s, .int .i64 x.sh, .int .i64 x.p0, .int .i64 x.p1, .int .i64 x.p2, .int .i64 x.cy, .int .i64 x.ex, .int .i64 x.fi, .int .i64 x.la, .int .i64 x.po, .bool true, .bool true, .bool true, .bool true] 68).alloc (.cells #[.string c.nm, .int .i64 c.k, .int .i64 c.d, .int .i64 c.m, .int .i64 c.s, .int .i64 c.sh, .int .i64 c.p0, .int .i64 c.p1, .int .i64 c.p2, .int .i64 c.cy, .int .i64 c.ex, .int .i64 c.fi, .int .i64 c.la, .int .i64 c.po] 30)).alloc (.cells #[.string c.nm, .int .i64 c.k, .int .i64 c.d, .int .i64 c.m, .int .i64 c.s, .int .i64 c.sh, .int .i64 c.p0, .int .i64 c.p1, .int .i64 c.p2, .int .i64 c.cy, .int .i64 c.ex, .int .i64 c.fi, .int .i64 c.la, .int .i64 c.po] 30)
  have C0 := CalIn.new (w.alloc (.cells #[.string x.nm, .int .i64 x.k, .int .i64 x.d, .int .i64 x.m, .int .i64 x.s, .int .i64 x.sh, .int .i64 x.p0, .int .i64 x.p1, .int .i64 x.p2, .int .i64 x.cy, .int .i64 x.ex, .int .i64 x.fi, .int .i64 x.la, .int .i64 x.po, .bool true, .bool true, .bool true, .bool true] 68)) c 30
  have C := C0.alloc (.cells #[.string c.nm, .int .i64 c.k, .int .i64 c.d, .int .i64 c.m, .int .i64 c.s, .int .i64 c.sh, .int .i64 c.p0, .int .i64 c.p1, .int .i64 c.p2, .int .i64 c.cy, .int .i64 c.ex, .int .i64 c.fi, .int .i64 c.la, .int .i64 c.po] 30)
  have L := Box.new ((w.alloc (.cells #[.string x.nm, .int .i64 x.k, .int .i64 x.d, .int .i64 x.m, .int .i64 x.s, .int .i64 x.sh, .int .i64 x.p0, .int .i64 x.p1, .int .i64 x.p2, .int .i64 x.cy, .int .i64 x.ex, .int .i64 x.fi, .int .i64 x.la, .int .i64 x.po, .bool true, .bool true, .bool true, .bool true] 68)).alloc (.cells #[.string c.nm, .int .i64 c.k, .int .i64 c.d, .int .i64 c.m, .int .i64 c.s, .int .i64 c.sh, .int .i64 c.p0, .int .i64 c.p1, .int .i64 c.p2, .int .i64 c.cy, .int .i64 c.ex, .int .i64 c.fi, .int .i64 c.la, .int .i64 c.po] 30)) #[.string c.nm, .int .i64 c.k, .int .i64 c.d, .int .i64 c.m, .int .i64 c.s, .int .i64 c.sh, .int .i64 c.p0, .int .i64 c.p1, .int .i64 c.p2, .int .i64 c.cy, .int .i64 c.ex, .int .i64 c.fi, .int .i64 c.la, .int .i64 c.po] 30
  have B := balloc (balloc (balloc (Below.refl _ w) (.cells #[.string x.nm, .int .i64 x.k, .int .i64 x.d, .int .i64 x.m, .int .i64 x.s, .int .i64 x.sh, .int .i64 x.p0, .int .i64 x.p1, .int .i64 x.p2, .int .i64 x.cy, .int .i64 x.ex, .int .i64 x.fi, .int .i64 x.la, .int .i64 x.po, .bool true, .bool true, .bool true, .bool true] 68)) (.cells #[.string c.nm, .int .i64 c.k, .int .i64 c.d, .int .i64 c.m, .int .i64 c.s, .int .i64 c.sh, .int .i64 c.p0, .int .i64 c.p1, .int .i64 c.p2, .int .i64 c.cy, .int .i64 c.ex, .int .i64 c.fi, .int .i64 c.la, .int .i64 c.po] 30)) (.cells #[.string c.nm, .int .i64 c.k, .int .i64 c.d, .int .i64 c.m, .int .i64 c.s, .int .i64 c.sh, .int .i64 c.p0, .int .i64 c.p1, .int .i64 c.p2, .int .i64 c.cy, .int .i64 c.ex, .int .i64 c.fi, .int .i64 c.la, .int .i64 c.po] 30)
  have LC := box_range (Box.new (w.alloc (.cells #[.string x.nm, .int .i64 x.k, .int .i64 x.d, .int .i64 x.m, .int .i64 x.s, .int .i64 x.sh, .int .i64 x.p0, .int .i64 x.p1, .int .i64 x.p2, .int .i64 x.cy, .int .i64 x.ex, .int .i64 x.fi, .int .i64 x.la, .int .i64 x.po, .bool true, .bool true, .bool true, .bool true] 68)) #[.string c.nm, .int .i64 c.k, .int .i64 c.d, .int .i64 c.m, .int .i64 c.s, .int .i64 c.sh, .int .i64 c.p0, .int .i64 c.p1, .int .i64 c.p2, .int .i64 c.cy, .int .i64 c.ex, .int .i64 c.fi, .int .i64 c.la, .int .i64 c.po] 30)
  have z2 : (((w.alloc (.cells #[.string x.nm, .int .i64 x.k, .int .i64 x.d, .int .i64 x.m, .int .i64 x.s, .int .i64 x.sh, .int .i64 x.p0, .int .i64 x.p1, .int .i64 x.p2, .int .i64 x.cy, .int .i64 x.ex, .int .i64 x.fi, .int .i64 x.la, .int .i64 x.po, .bool true, .bool true, .bool true, .bool true] 68)).alloc (.cells #[.string c.nm, .int .i64 c.k, .int .i64 c.d, .int .i64 c.m, .int .i64 c.s, .int .i64 c.sh, .int .i64 c.p0, .int .i64 c.p1, .int .i64 c.p2, .int .i64 c.cy, .int .i64 c.ex, .int .i64 c.fi, .int .i64 c.la, .int .i64 c.po] 30)).alloc (.cells #[.string c.nm, .int .i64 c.k, .int .i64 c.d, .int .i64 c.m, .int .i64 c.s, .int .i64 c.sh, .int .i64 c.p0, .int .i64 c.p1, .int .i64 c.p2, .int .i64 c.cy, .int .i64 c.ex, .int .i64 c.fi, .int .i64 c.la, .int .i64 c.po] 30)).heap.size = w.heap.size + 3 := by simp
  simp only [World.size_alloc] at P C L LC
  go_enter Tryz.func42, Tryz.ntmps42
  go_upto_region 1 with fail
  apply wp_region_lit
  refine wpList_load_mid rfl _ _ rfl (w.heap.size + 1) 0 rfl _ _ LC Tryz.underlying30 rfl infoCal ?_
  simp only [Act.put]
  refine wpList_plain rfl (fun _ hK => ?_)
  go_simp
  refine hK _ _ ?_
  clear hK
  refine wpList_store_new (w := (w.alloc (.cells #[.string x.nm, .int .i64 x.k, .int .i64 x.d, .int .i64 x.m, .int .i64 x.s, .int .i64 x.sh, .int .i64 x.p0, .int .i64 x.p1, .int .i64 x.p2, .int .i64 x.cy, .int .i64 x.ex, .int .i64 x.fi, .int .i64 x.la, .int .i64 x.po, .bool true, .bool true, .bool true, .bool true] 68)).alloc (.cells #[.string c.nm, .int .i64 c.k, .int .i64 c.d, .int .i64 c.m, .int .i64 c.s, .int .i64 c.sh, .int .i64 c.p0, .int .i64 c.p1, .int .i64 c.p2, .int .i64 c.cy, .int .i64 c.ex, .int .i64 c.fi, .int .i64 c.la, .int .i64 c.po] 30)) rfl _ _ _ rfl _ #[.string c.nm, .int .i64 c.k, .int .i64 c.d, .int .i64 c.m, .int .i64 c.s, .int .i64 c.sh, .int .i64 c.p0, .int .i64 c.p1, .int .i64 c.p2, .int .i64 c.cy, .int .i64 c.ex, .int .i64 c.fi, .int .i64 c.la, .int .i64 c.po] 14 (by show Value.pointer (some (⟨w.heap.size + 1 + 1, 0, none⟩ : Addr)) = _; simp only [World.size_alloc]) rfl infoCal rfl rfl (by simp [Value.oneCell']) ?_
  simp only [Act.put]
  go_upto_region 2 with fail
  generalize ((w.alloc (.cells #[.string x.nm, .int .i64 x.k, .int .i64 x.d, .int .i64 x.m, .int .i64 x.s, .int .i64 x.sh, .int .i64 x.p0, .int .i64 x.p1, .int .i64 x.p2, .int .i64 x.cy, .int .i64 x.ex, .int .i64 x.fi, .int .i64 x.la, .int .i64 x.po, .bool true, .bool true, .bool true, .bool true] 68)).alloc (.cells #[.string c.nm, .int .i64 c.k, .int .i64 c.d, .int .i64 c.m, .int .i64 c.s, .int .i64 c.sh, .int .i64 c.p0, .int .i64 c.p1, .int .i64 c.p2, .int .i64 c.cy, .int .i64 c.ex, .int .i64 c.fi, .int .i64 c.la, .int .i64 c.po] 30)).alloc (.cells #[.string c.nm, .int .i64 c.k, .int .i64 c.d, .int .i64 c.m, .int .i64 c.s, .int .i64 c.sh, .int .i64 c.p0, .int .i64 c.p1, .int .i64 c.p2, .int .i64 c.cy, .int .i64 c.ex, .int .i64 c.fi, .int .i64 c.la, .int .i64 c.po] 30) = W2 at *
  apply wp_region_lit
  refine wpList_load_mid rfl _ _ rfl w.heap.size 0 rfl _ _ (box_range P) Tryz.underlying68 rfl infoEndA ?_
  simp only [Act.put]
  go_wp2_with fail
  refine (tell_tttt x c _ _ L).mono ?_
  rintro e w3 ⟨rfl, hB, L3⟩
  have P3 := box_upto P (by omega) hB
  have C3 := C.upto (by omega) hB (by omega)
  have B3 := B.trans (hB.mono (by omega))
  have T3 := T.kept B3
  clear P C L B LC z2 hB C0 T
  have q := fun w => cal_eql ⟨c.nm, x.k, c.d, c.m, c.s, c.sh, c.p0, c.p1, c.p2, c.cy, c.ex, c.fi, c.la, c.po⟩ c rfl w
  obtain ⟨da, dc, dlt, dg⟩ := T3.day
  obtain ⟨ma, mc, mlt, mg⟩ := T3.mon
  obtain ⟨_, c0, c1, c2, c3, c4, c5, c6, c7, c8, c9, c10, c11, c12, c13⟩ := id C3
  have p14 := P3.cell 14 _ rfl
  have p15 := P3.cell 15 _ rfl
  have p16 := P3.cell 16 _ rfl
  have p17 := P3.cell 17 _ rfl
  have l0 := L3.cell 0 _ rfl
  have l1 := L3.cell 1 _ rfl
  have l2 := L3.cell 2 _ rfl
  have l3 := L3.cell 3 _ rfl
  have l4 := L3.cell 4 _ rfl
  have l5 := L3.cell 5 _ rfl
  have l6 := L3.cell 6 _ rfl
  have l7 := L3.cell 7 _ rfl
  have l8 := L3.cell 8 _ rfl
  have l9 := L3.cell 9 _ rfl
  have l10 := L3.cell 10 _ rfl
  have l11 := L3.cell 11 _ rfl
  have l12 := L3.cell 12 _ rfl
  have l13 := L3.cell 13 _ rfl
  dsimp only at *
  clear dlt mlt P3 C3 L3
  obtain ⟨vd, hvd⟩ : ∃ v, (decide (1 ≤ c.d) && decide (c.d ≤ 7)) = v := ⟨_, rfl⟩
  have cwd := fun w => within_any c.d 1 7 vd w hvd.symm
  rw [hvd] at hr
  obtain ⟨vm, hvm⟩ : ∃ v, (decide (1 ≤ c.m) && decide (c.m ≤ 12)) = v := ⟨_, rfl⟩
  have cwm := fun w => within_any c.m 1 12 vm w hvm.symm
  rw [hvm] at hr
  obtain ⟨vs, hvs⟩ : ∃ v, (decide (0 ≤ c.s) && decide (c.s ≤ 1)) = v := ⟨_, rfl⟩
  have cws := fun w => within_any c.s 0 1 vs w hvs.symm
  rw [hvs] at hr
  obtain ⟨vc, hvc⟩ : ∃ v, decide (CutOk c) = v := ⟨_, rfl⟩
  have cc := fun w T => Cut_any c vc w hvc.symm T
  rw [hvc] at hr
  rw [decide_eq_true (show CalSame ⟨c.nm, x.k, c.d, c.m, c.s, c.sh, c.p0, c.p1, c.p2, c.cy, c.ex, c.fi, c.la, c.po⟩ c from ⟨hk.out, rfl, rfl, rfl, rfl, rfl, rfl, rfl, rfl, rfl, rfl, rfl, rfl⟩)] at q
  clear hvd hvm hvs hvc hk
  cases vd with
  | false =>
    (try simp at hr)
    subst hr
    go_wp2_with fail
    refine (cwd _).mono ?_
    rintro e w5 ⟨rfl, rfl⟩
    go_wp2_with fail
    go_ret
    exact ⟨rfl, B3⟩
  | true =>
    cases vm with
    | false =>
      (try simp at hr)
      subst hr
      go_wp2_with fail
      refine (cwd _).mono ?_
      rintro e w5 ⟨rfl, rfl⟩
      go_wp2_with fail
      refine (cwm _).mono ?_
      rintro e w5 ⟨rfl, rfl⟩
      go_wp2_with fail
      go_ret
      exact ⟨rfl, B3⟩
    | true =>
      cases vs with
      | false =>
        (try simp at hr)
        subst hr
        go_wp2_with fail
        refine (cwd _).mono ?_
        rintro e w5 ⟨rfl, rfl⟩
        go_wp2_with fail
        refine (cwm _).mono ?_
        rintro e w5 ⟨rfl, rfl⟩
        go_wp2_with fail
        refine (cws _).mono ?_
        rintro e w5 ⟨rfl, rfl⟩
        go_wp2_with fail
        go_ret
        exact ⟨rfl, B3⟩
      | true =>
        (try simp at hr)
        subst hr
        go_wp2_with fail
        refine (cwd _).mono ?_
        rintro e w5 ⟨rfl, rfl⟩
        go_wp2_with fail
        refine (cwm _).mono ?_
        rintro e w5 ⟨rfl, rfl⟩
        go_wp2_with fail
        refine (cws _).mono ?_
        rintro e w5 ⟨rfl, rfl⟩
        go_wp2_with fail
        refine (cc _ T3).mono ?_
        rintro e w6 ⟨rfl, hb⟩
        go_wp2
        go_ret
        exact ⟨rfl, bthen B3 hb⟩

set_option maxRecDepth 100000 in
theorem allows_ffft (x c : CalZ) (r : Bool) (w : World) (hr : r = (decide (CalSame ⟨c.nm, x.k, x.d, x.m, x.s, c.sh, c.p0, c.p1, c.p2, c.cy, c.ex, c.fi, c.la, c.po⟩ c) && decide (CutOk c))) (T : FTab w) :
    Calls Tryz.prog 42 #[.agg #[.string x.nm, .int .i64 x.k, .int .i64 x.d, .int .i64 x.m, .int .i64 x.s, .int .i64 x.sh, .int .i64 x.p0, .int .i64 x.p1, .int .i64 x.p2, .int .i64 x.cy, .int .i64 x.ex, .int .i64 x.fi, .int .i64 x.la, .int .i64 x.po, .bool false, .bool false, .bool false, .bool true], .agg #[.string c.nm, .int .i64 c.k, .int .i64 c.d, .int .i64 c.m, .int .i64 c.s, .int .i64 c.sh, .int .i64 c.p0, .int .i64 c.p1, .int .i64 c.p2, .int .i64 c.cy, .int .i64 c.ex, .int .i64 c.fi, .int .i64 c.la, .int .i64 c.po]] w fun e w' => e = .returned (.bool r) ∧ Below w.heap.size w w' := by
  have P := ((Box.new w #[.string x.nm, .int .i64 x.k, .int .i64 x.d, .int .i64 x.m, .int .i64 x.s, .int .i64 x.sh, .int .i64 x.p0, .int .i64 x.p1, .int .i64 x.p2, .int .i64 x.cy, .int .i64 x.ex, .int .i64 x.fi, .int .i64 x.la, .int .i64 x.po, .bool false, .bool false, .bool false, .bool true] 68).alloc (.cells #[.string c.nm, .int .i64 c.k, .int .i64 c.d, .int .i64 c.m, .int .i64 c.s, .int .i64 c.sh, .int .i64 c.p0, .int .i64 c.p1, .int .i64 c.p2, .int .i64 c.cy, .int .i64 c.ex, .int .i64 c.fi, .int .i64 c.la, .int .i64 c.po] 30)).alloc (.cells #[.string c.nm, .int .i64 c.k, .int .i64 c.d, .int .i64 c.m, .int .i64 c.s, .int .i64 c.sh, .int .i64 c.p0, .int .i64 c.p1, .int .i64 c.p2, .int .i64 c.cy, .int .i64 c.ex, .int .i64 c.fi, .int .i64 c.la, .int .i64 c.po] 30)
  have C0 := CalIn.new (w.alloc (.cells #[.string x.nm, .int .i64 x.k, .int .i64 x.d, .int .i64 x.m, .int .i64 x.s, .int .i64 x.sh, .int .i64 x.p0, .int .i64 x.p1, .int .i64 x.p2, .int .i64 x.cy, .int .i64 x.ex, .int .i64 x.fi, .int .i64 x.la, .int .i64 x.po, .bool false, .bool false, .bool false, .bool true] 68)) c 30
  have C := C0.alloc (.cells #[.string c.nm, .int .i64 c.k, .int .i64 c.d, .int .i64 c.m, .int .i64 c.s, .int .i64 c.sh, .int .i64 c.p0, .int .i64 c.p1, .int .i64 c.p2, .int .i64 c.cy, .int .i64 c.ex, .int .i64 c.fi, .int .i64 c.la, .int .i64 c.po] 30)
  have L := Box.new ((w.alloc (.cells #[.string x.nm, .int .i64 x.k, .int .i64 x.d, .int .i64 x.m, .int .i64 x.s, .int .i64 x.sh, .int .i64 x.p0, .int .i64 x.p1, .int .i64 x.p2, .int .i64 x.cy, .int .i64 x.ex, .int .i64 x.fi, .int .i64 x.la, .int .i64 x.po, .bool false, .bool false, .bool false, .bool true] 68)).alloc (.cells #[.string c.nm, .int .i64 c.k, .int .i64 c.d, .int .i64 c.m, .int .i64 c.s, .int .i64 c.sh, .int .i64 c.p0, .int .i64 c.p1, .int .i64 c.p2, .int .i64 c.cy, .int .i64 c.ex, .int .i64 c.fi, .int .i64 c.la, .int .i64 c.po] 30)) #[.string c.nm, .int .i64 c.k, .int .i64 c.d, .int .i64 c.m, .int .i64 c.s, .int .i64 c.sh, .int .i64 c.p0, .int .i64 c.p1, .int .i64 c.p2, .int .i64 c.cy, .int .i64 c.ex, .int .i64 c.fi, .int .i64 c.la, .int .i64 c.po] 30
  have B := balloc (balloc (balloc (Below.refl _ w) (.cells #[.string x.nm, .int .i64 x.k, .int .i64 x.d, .int .i64 x.m, .int .i64 x.s, .int .i64 x.sh, .int .i64 x.p0, .int .i64 x.p1, .int .i64 x.p2, .int .i64 x.cy, .int .i64 x.ex, .int .i64 x.fi, .int .i64 x.la, .int .i64 x.po, .bool false, .bool false, .bool false, .bool true] 68)) (.cells #[.string c.nm, .int .i64 c.k, .int .i64 c.d, .int .i64 c.m, .int .i64 c.s, .int .i64 c.sh, .int .i64 c.p0, .int .i64 c.p1, .int .i64 c.p2, .int .i64 c.cy, .int .i64 c.ex, .int .i64 c.fi, .int .i64 c.la, .int .i64 c.po] 30)) (.cells #[.string c.nm, .int .i64 c.k, .int .i64 c.d, .int .i64 c.m, .int .i64 c.s, .int .i64 c.sh, .int .i64 c.p0, .int .i64 c.p1, .int .i64 c.p2, .int .i64 c.cy, .int .i64 c.ex, .int .i64 c.fi, .int .i64 c.la, .int .i64 c.po] 30)
  have LC := box_range (Box.new (w.alloc (.cells #[.string x.nm, .int .i64 x.k, .int .i64 x.d, .int .i64 x.m, .int .i64 x.s, .int .i64 x.sh, .int .i64 x.p0, .int .i64 x.p1, .int .i64 x.p2, .int .i64 x.cy, .int .i64 x.ex, .int .i64 x.fi, .int .i64 x.la, .int .i64 x.po, .bool false, .bool false, .bool false, .bool true] 68)) #[.string c.nm, .int .i64 c.k, .int .i64 c.d, .int .i64 c.m, .int .i64 c.s, .int .i64 c.sh, .int .i64 c.p0, .int .i64 c.p1, .int .i64 c.p2, .int .i64 c.cy, .int .i64 c.ex, .int .i64 c.fi, .int .i64 c.la, .int .i64 c.po] 30)
  have z2 : (((w.alloc (.cells #[.string x.nm, .int .i64 x.k, .int .i64 x.d, .int .i64 x.m, .int .i64 x.s, .int .i64 x.sh, .int .i64 x.p0, .int .i64 x.p1, .int .i64 x.p2, .int .i64 x.cy, .int .i64 x.ex, .int .i64 x.fi, .int .i64 x.la, .int .i64 x.po, .bool false, .bool false, .bool false, .bool true] 68)).alloc (.cells #[.string c.nm, .int .i64 c.k, .int .i64 c.d, .int .i64 c.m, .int .i64 c.s, .int .i64 c.sh, .int .i64 c.p0, .int .i64 c.p1, .int .i64 c.p2, .int .i64 c.cy, .int .i64 c.ex, .int .i64 c.fi, .int .i64 c.la, .int .i64 c.po] 30)).alloc (.cells #[.string c.nm, .int .i64 c.k, .int .i64 c.d, .int .i64 c.m, .int .i64 c.s, .int .i64 c.sh, .int .i64 c.p0, .int .i64 c.p1, .int .i64 c.p2, .int .i64 c.cy, .int .i64 c.ex, .int .i64 c.fi, .int .i64 c.la, .int .i64 c.po] 30)).heap.size = w.heap.size + 3 := by simp
  simp only [World.size_alloc] at P C L LC
  go_enter Tryz.func42, Tryz.ntmps42
  go_upto_region 1 with fail
  apply wp_region_lit
  refine wpList_load_mid rfl _ _ rfl (w.heap.size + 1) 0 rfl _ _ LC Tryz.underlying30 rfl infoCal ?_
  simp only [Act.put]
  refine wpList_plain rfl (fun _ hK => ?_)
  go_simp
  refine hK _ _ ?_
  clear hK
  refine wpList_store_new (w := (w.alloc (.cells #[.string x.nm, .int .i64 x.k, .int .i64 x.d, .int .i64 x.m, .int .i64 x.s, .int .i64 x.sh, .int .i64 x.p0, .int .i64 x.p1, .int .i64 x.p2, .int .i64 x.cy, .int .i64 x.ex, .int .i64 x.fi, .int .i64 x.la, .int .i64 x.po, .bool false, .bool false, .bool false, .bool true] 68)).alloc (.cells #[.string c.nm, .int .i64 c.k, .int .i64 c.d, .int .i64 c.m, .int .i64 c.s, .int .i64 c.sh, .int .i64 c.p0, .int .i64 c.p1, .int .i64 c.p2, .int .i64 c.cy, .int .i64 c.ex, .int .i64 c.fi, .int .i64 c.la, .int .i64 c.po] 30)) rfl _ _ _ rfl _ #[.string c.nm, .int .i64 c.k, .int .i64 c.d, .int .i64 c.m, .int .i64 c.s, .int .i64 c.sh, .int .i64 c.p0, .int .i64 c.p1, .int .i64 c.p2, .int .i64 c.cy, .int .i64 c.ex, .int .i64 c.fi, .int .i64 c.la, .int .i64 c.po] 14 (by show Value.pointer (some (⟨w.heap.size + 1 + 1, 0, none⟩ : Addr)) = _; simp only [World.size_alloc]) rfl infoCal rfl rfl (by simp [Value.oneCell']) ?_
  simp only [Act.put]
  go_upto_region 2 with fail
  generalize ((w.alloc (.cells #[.string x.nm, .int .i64 x.k, .int .i64 x.d, .int .i64 x.m, .int .i64 x.s, .int .i64 x.sh, .int .i64 x.p0, .int .i64 x.p1, .int .i64 x.p2, .int .i64 x.cy, .int .i64 x.ex, .int .i64 x.fi, .int .i64 x.la, .int .i64 x.po, .bool false, .bool false, .bool false, .bool true] 68)).alloc (.cells #[.string c.nm, .int .i64 c.k, .int .i64 c.d, .int .i64 c.m, .int .i64 c.s, .int .i64 c.sh, .int .i64 c.p0, .int .i64 c.p1, .int .i64 c.p2, .int .i64 c.cy, .int .i64 c.ex, .int .i64 c.fi, .int .i64 c.la, .int .i64 c.po] 30)).alloc (.cells #[.string c.nm, .int .i64 c.k, .int .i64 c.d, .int .i64 c.m, .int .i64 c.s, .int .i64 c.sh, .int .i64 c.p0, .int .i64 c.p1, .int .i64 c.p2, .int .i64 c.cy, .int .i64 c.ex, .int .i64 c.fi, .int .i64 c.la, .int .i64 c.po] 30) = W2 at *
  apply wp_region_lit
  refine wpList_load_mid rfl _ _ rfl w.heap.size 0 rfl _ _ (box_range P) Tryz.underlying68 rfl infoEndA ?_
  simp only [Act.put]
  go_wp2_with fail
  refine (tell_ffft x c _ _ L).mono ?_
  rintro e w3 ⟨rfl, hB, L3⟩
  have P3 := box_upto P (by omega) hB
  have C3 := C.upto (by omega) hB (by omega)
  have B3 := B.trans (hB.mono (by omega))
  have T3 := T.kept B3
  clear P C L B LC z2 hB C0 T
  have q := fun w => cal_eql ⟨c.nm, x.k, x.d, x.m, x.s, c.sh, c.p0, c.p1, c.p2, c.cy, c.ex, c.fi, c.la, c.po⟩ c rfl w
  obtain ⟨da, dc, dlt, dg⟩ := T3.day
  obtain ⟨ma, mc, mlt, mg⟩ := T3.mon
  obtain ⟨_, c0, c1, c2, c3, c4, c5, c6, c7, c8, c9, c10, c11, c12, c13⟩ := id C3
  have p14 := P3.cell 14 _ rfl
  have p15 := P3.cell 15 _ rfl
  have p16 := P3.cell 16 _ rfl
  have p17 := P3.cell 17 _ rfl
  have l0 := L3.cell 0 _ rfl
  have l1 := L3.cell 1 _ rfl
  have l2 := L3.cell 2 _ rfl
  have l3 := L3.cell 3 _ rfl
  have l4 := L3.cell 4 _ rfl
  have l5 := L3.cell 5 _ rfl
  have l6 := L3.cell 6 _ rfl
  have l7 := L3.cell 7 _ rfl
  have l8 := L3.cell 8 _ rfl
  have l9 := L3.cell 9 _ rfl
  have l10 := L3.cell 10 _ rfl
  have l11 := L3.cell 11 _ rfl
  have l12 := L3.cell 12 _ rfl
  have l13 := L3.cell 13 _ rfl
  dsimp only at *
  clear dlt mlt P3 C3 L3
  obtain ⟨vc, hvc⟩ : ∃ v, decide (CutOk c) = v := ⟨_, rfl⟩
  have cc := fun w T => Cut_any c vc w hvc.symm T
  rw [hvc] at hr
  obtain ⟨ve, hve⟩ : ∃ v, decide (CalSame ⟨c.nm, x.k, x.d, x.m, x.s, c.sh, c.p0, c.p1, c.p2, c.cy, c.ex, c.fi, c.la, c.po⟩ c) = v := ⟨_, rfl⟩
  rw [hve] at hr q
  clear hvc hve
  cases ve with
  | false =>
    (try simp at hr)
    subst hr
    go_wp2_with fail
    go_ret
    exact ⟨rfl, B3⟩
  | true =>
    (try simp at hr)
    subst hr
    go_wp2_with fail
    refine (cc _ T3).mono ?_
    rintro e w6 ⟨rfl, hb⟩
    go_wp2
    go_ret
    exact ⟨rfl, bthen B3 hb⟩

set_option maxRecDepth 100000 in
theorem allows_ffff (x c : CalZ) (r : Bool) (w : World) (hr : r = decide (CalSame ⟨c.nm, x.k, x.d, x.m, x.s, x.sh, x.p0, x.p1, x.p2, x.cy, x.ex, c.fi, c.la, c.po⟩ c)) (T : FTab w) :
    Calls Tryz.prog 42 #[.agg #[.string x.nm, .int .i64 x.k, .int .i64 x.d, .int .i64 x.m, .int .i64 x.s, .int .i64 x.sh, .int .i64 x.p0, .int .i64 x.p1, .int .i64 x.p2, .int .i64 x.cy, .int .i64 x.ex, .int .i64 x.fi, .int .i64 x.la, .int .i64 x.po, .bool false, .bool false, .bool false, .bool false], .agg #[.string c.nm, .int .i64 c.k, .int .i64 c.d, .int .i64 c.m, .int .i64 c.s, .int .i64 c.sh, .int .i64 c.p0, .int .i64 c.p1, .int .i64 c.p2, .int .i64 c.cy, .int .i64 c.ex, .int .i64 c.fi, .int .i64 c.la, .int .i64 c.po]] w fun e w' => e = .returned (.bool r) ∧ Below w.heap.size w w' := by
  have P := ((Box.new w #[.string x.nm, .int .i64 x.k, .int .i64 x.d, .int .i64 x.m, .int .i64 x.s, .int .i64 x.sh, .int .i64 x.p0, .int .i64 x.p1, .int .i64 x.p2, .int .i64 x.cy, .int .i64 x.ex, .int .i64 x.fi, .int .i64 x.la, .int .i64 x.po, .bool false, .bool false, .bool false, .bool false] 68).alloc (.cells #[.string c.nm, .int .i64 c.k, .int .i64 c.d, .int .i64 c.m, .int .i64 c.s, .int .i64 c.sh, .int .i64 c.p0, .int .i64 c.p1, .int .i64 c.p2, .int .i64 c.cy, .int .i64 c.ex, .int .i64 c.fi, .int .i64 c.la, .int .i64 c.po] 30)).alloc (.cells #[.string c.nm, .int .i64 c.k, .int .i64 c.d, .int .i64 c.m, .int .i64 c.s, .int .i64 c.sh, .int .i64 c.p0, .int .i64 c.p1, .int .i64 c.p2, .int .i64 c.cy, .int .i64 c.ex, .int .i64 c.fi, .int .i64 c.la, .int .i64 c.po] 30)
  have C0 := CalIn.new (w.alloc (.cells #[.string x.nm, .int .i64 x.k, .int .i64 x.d, .int .i64 x.m, .int .i64 x.s, .int .i64 x.sh, .int .i64 x.p0, .int .i64 x.p1, .int .i64 x.p2, .int .i64 x.cy, .int .i64 x.ex, .int .i64 x.fi, .int .i64 x.la, .int .i64 x.po, .bool false, .bool false, .bool false, .bool false] 68)) c 30
  have C := C0.alloc (.cells #[.string c.nm, .int .i64 c.k, .int .i64 c.d, .int .i64 c.m, .int .i64 c.s, .int .i64 c.sh, .int .i64 c.p0, .int .i64 c.p1, .int .i64 c.p2, .int .i64 c.cy, .int .i64 c.ex, .int .i64 c.fi, .int .i64 c.la, .int .i64 c.po] 30)
  have L := Box.new ((w.alloc (.cells #[.string x.nm, .int .i64 x.k, .int .i64 x.d, .int .i64 x.m, .int .i64 x.s, .int .i64 x.sh, .int .i64 x.p0, .int .i64 x.p1, .int .i64 x.p2, .int .i64 x.cy, .int .i64 x.ex, .int .i64 x.fi, .int .i64 x.la, .int .i64 x.po, .bool false, .bool false, .bool false, .bool false] 68)).alloc (.cells #[.string c.nm, .int .i64 c.k, .int .i64 c.d, .int .i64 c.m, .int .i64 c.s, .int .i64 c.sh, .int .i64 c.p0, .int .i64 c.p1, .int .i64 c.p2, .int .i64 c.cy, .int .i64 c.ex, .int .i64 c.fi, .int .i64 c.la, .int .i64 c.po] 30)) #[.string c.nm, .int .i64 c.k, .int .i64 c.d, .int .i64 c.m, .int .i64 c.s, .int .i64 c.sh, .int .i64 c.p0, .int .i64 c.p1, .int .i64 c.p2, .int .i64 c.cy, .int .i64 c.ex, .int .i64 c.fi, .int .i64 c.la, .int .i64 c.po] 30
  have B := balloc (balloc (balloc (Below.refl _ w) (.cells #[.string x.nm, .int .i64 x.k, .int .i64 x.d, .int .i64 x.m, .int .i64 x.s, .int .i64 x.sh, .int .i64 x.p0, .int .i64 x.p1, .int .i64 x.p2, .int .i64 x.cy, .int .i64 x.ex, .int .i64 x.fi, .int .i64 x.la, .int .i64 x.po, .bool false, .bool false, .bool false, .bool false] 68)) (.cells #[.string c.nm, .int .i64 c.k, .int .i64 c.d, .int .i64 c.m, .int .i64 c.s, .int .i64 c.sh, .int .i64 c.p0, .int .i64 c.p1, .int .i64 c.p2, .int .i64 c.cy, .int .i64 c.ex, .int .i64 c.fi, .int .i64 c.la, .int .i64 c.po] 30)) (.cells #[.string c.nm, .int .i64 c.k, .int .i64 c.d, .int .i64 c.m, .int .i64 c.s, .int .i64 c.sh, .int .i64 c.p0, .int .i64 c.p1, .int .i64 c.p2, .int .i64 c.cy, .int .i64 c.ex, .int .i64 c.fi, .int .i64 c.la, .int .i64 c.po] 30)
  have LC := box_range (Box.new (w.alloc (.cells #[.string x.nm, .int .i64 x.k, .int .i64 x.d, .int .i64 x.m, .int .i64 x.s, .int .i64 x.sh, .int .i64 x.p0, .int .i64 x.p1, .int .i64 x.p2, .int .i64 x.cy, .int .i64 x.ex, .int .i64 x.fi, .int .i64 x.la, .int .i64 x.po, .bool false, .bool false, .bool false, .bool false] 68)) #[.string c.nm, .int .i64 c.k, .int .i64 c.d, .int .i64 c.m, .int .i64 c.s, .int .i64 c.sh, .int .i64 c.p0, .int .i64 c.p1, .int .i64 c.p2, .int .i64 c.cy, .int .i64 c.ex, .int .i64 c.fi, .int .i64 c.la, .int .i64 c.po] 30)
  have z2 : (((w.alloc (.cells #[.string x.nm, .int .i64 x.k, .int .i64 x.d, .int .i64 x.m, .int .i64 x.s, .int .i64 x.sh, .int .i64 x.p0, .int .i64 x.p1, .int .i64 x.p2, .int .i64 x.cy, .int .i64 x.ex, .int .i64 x.fi, .int .i64 x.la, .int .i64 x.po, .bool false, .bool false, .bool false, .bool false] 68)).alloc (.cells #[.string c.nm, .int .i64 c.k, .int .i64 c.d, .int .i64 c.m, .int .i64 c.s, .int .i64 c.sh, .int .i64 c.p0, .int .i64 c.p1, .int .i64 c.p2, .int .i64 c.cy, .int .i64 c.ex, .int .i64 c.fi, .int .i64 c.la, .int .i64 c.po] 30)).alloc (.cells #[.string c.nm, .int .i64 c.k, .int .i64 c.d, .int .i64 c.m, .int .i64 c.s, .int .i64 c.sh, .int .i64 c.p0, .int .i64 c.p1, .int .i64 c.p2, .int .i64 c.cy, .int .i64 c.ex, .int .i64 c.fi, .int .i64 c.la, .int .i64 c.po] 30)).heap.size = w.heap.size + 3 := by simp
  simp only [World.size_alloc] at P C L LC
  go_enter Tryz.func42, Tryz.ntmps42
  go_upto_region 1 with fail
  apply wp_region_lit
  refine wpList_load_mid rfl _ _ rfl (w.heap.size + 1) 0 rfl _ _ LC Tryz.underlying30 rfl infoCal ?_
  simp only [Act.put]
  refine wpList_plain rfl (fun _ hK => ?_)
  go_simp
  refine hK _ _ ?_
  clear hK
  refine wpList_store_new (w := (w.alloc (.cells #[.string x.nm, .int .i64 x.k, .int .i64 x.d, .int .i64 x.m, .int .i64 x.s, .int .i64 x.sh, .int .i64 x.p0, .int .i64 x.p1, .int .i64 x.p2, .int .i64 x.cy, .int .i64 x.ex, .int .i64 x.fi, .int .i64 x.la, .int .i64 x.po, .bool false, .bool false, .bool false, .bool false] 68)).alloc (.cells #[.string c.nm, .int .i64 c.k, .int .i64 c.d, .int .i64 c.m, .int .i64 c.s, .int .i64 c.sh, .int .i64 c.p0, .int .i64 c.p1, .int .i64 c.p2, .int .i64 c.cy, .int .i64 c.ex, .int .i64 c.fi, .int .i64 c.la, .int .i64 c.po] 30)) rfl _ _ _ rfl _ #[.string c.nm, .int .i64 c.k, .int .i64 c.d, .int .i64 c.m, .int .i64 c.s, .int .i64 c.sh, .int .i64 c.p0, .int .i64 c.p1, .int .i64 c.p2, .int .i64 c.cy, .int .i64 c.ex, .int .i64 c.fi, .int .i64 c.la, .int .i64 c.po] 14 (by show Value.pointer (some (⟨w.heap.size + 1 + 1, 0, none⟩ : Addr)) = _; simp only [World.size_alloc]) rfl infoCal rfl rfl (by simp [Value.oneCell']) ?_
  simp only [Act.put]
  go_upto_region 2 with fail
  generalize ((w.alloc (.cells #[.string x.nm, .int .i64 x.k, .int .i64 x.d, .int .i64 x.m, .int .i64 x.s, .int .i64 x.sh, .int .i64 x.p0, .int .i64 x.p1, .int .i64 x.p2, .int .i64 x.cy, .int .i64 x.ex, .int .i64 x.fi, .int .i64 x.la, .int .i64 x.po, .bool false, .bool false, .bool false, .bool false] 68)).alloc (.cells #[.string c.nm, .int .i64 c.k, .int .i64 c.d, .int .i64 c.m, .int .i64 c.s, .int .i64 c.sh, .int .i64 c.p0, .int .i64 c.p1, .int .i64 c.p2, .int .i64 c.cy, .int .i64 c.ex, .int .i64 c.fi, .int .i64 c.la, .int .i64 c.po] 30)).alloc (.cells #[.string c.nm, .int .i64 c.k, .int .i64 c.d, .int .i64 c.m, .int .i64 c.s, .int .i64 c.sh, .int .i64 c.p0, .int .i64 c.p1, .int .i64 c.p2, .int .i64 c.cy, .int .i64 c.ex, .int .i64 c.fi, .int .i64 c.la, .int .i64 c.po] 30) = W2 at *
  apply wp_region_lit
  refine wpList_load_mid rfl _ _ rfl w.heap.size 0 rfl _ _ (box_range P) Tryz.underlying68 rfl infoEndA ?_
  simp only [Act.put]
  go_wp2_with fail
  refine (tell_ffff x c _ _ L).mono ?_
  rintro e w3 ⟨rfl, hB, L3⟩
  have P3 := box_upto P (by omega) hB
  have C3 := C.upto (by omega) hB (by omega)
  have B3 := B.trans (hB.mono (by omega))
  have T3 := T.kept B3
  clear P C L B LC z2 hB C0 T
  have q := fun w => cal_eql ⟨c.nm, x.k, x.d, x.m, x.s, x.sh, x.p0, x.p1, x.p2, x.cy, x.ex, c.fi, c.la, c.po⟩ c rfl w
  obtain ⟨da, dc, dlt, dg⟩ := T3.day
  obtain ⟨ma, mc, mlt, mg⟩ := T3.mon
  obtain ⟨_, c0, c1, c2, c3, c4, c5, c6, c7, c8, c9, c10, c11, c12, c13⟩ := id C3
  have p14 := P3.cell 14 _ rfl
  have p15 := P3.cell 15 _ rfl
  have p16 := P3.cell 16 _ rfl
  have p17 := P3.cell 17 _ rfl
  have l0 := L3.cell 0 _ rfl
  have l1 := L3.cell 1 _ rfl
  have l2 := L3.cell 2 _ rfl
  have l3 := L3.cell 3 _ rfl
  have l4 := L3.cell 4 _ rfl
  have l5 := L3.cell 5 _ rfl
  have l6 := L3.cell 6 _ rfl
  have l7 := L3.cell 7 _ rfl
  have l8 := L3.cell 8 _ rfl
  have l9 := L3.cell 9 _ rfl
  have l10 := L3.cell 10 _ rfl
  have l11 := L3.cell 11 _ rfl
  have l12 := L3.cell 12 _ rfl
  have l13 := L3.cell 13 _ rfl
  dsimp only at *
  clear dlt mlt P3 C3 L3
  obtain ⟨ve, hve⟩ : ∃ v, decide (CalSame ⟨c.nm, x.k, x.d, x.m, x.s, x.sh, x.p0, x.p1, x.p2, x.cy, x.ex, c.fi, c.la, c.po⟩ c) = v := ⟨_, rfl⟩
  rw [hve] at hr q
  clear hve
  cases ve with
  | false =>
    (try simp at hr)
    subst hr
    go_wp2_with fail
    go_ret
    exact ⟨rfl, B3⟩
  | true =>
    (try simp at hr)
    subst hr
    go_wp2_with fail
    go_ret
    exact ⟨rfl, B3⟩

set_option maxRecDepth 100000 in
theorem allows_fttf (x c : CalZ) (r : Bool) (w : World) (hr : r = (decide (CalSame ⟨c.nm, x.k, x.d, c.m, c.s, x.sh, x.p0, x.p1, x.p2, x.cy, x.ex, c.fi, c.la, c.po⟩ c) && ((decide (1 ≤ c.m) && decide (c.m ≤ 12)) && (decide (0 ≤ c.s) && decide (c.s ≤ 1))))) (T : FTab w) :
    Calls Tryz.prog 42 #[.agg #[.string x.nm, .int .i64 x.k, .int .i64 x.d, .int .i64 x.m, .int .i64 x.s, .int .i64 x.sh, .int .i64 x.p0, .int .i64 x.p1, .int .i64 x.p2, .int .i64 x.cy, .int .i64 x.ex, .int .i64 x.fi, .int .i64 x.la, .int .i64 x.po, .bool false, .bool true, .bool true, .bool false], .agg #[.string c.nm, .int .i64 c.k, .int .i64 c.d, .int .i64 c.m, .int .i64 c.s, .int .i64 c.sh, .int .i64 c.p0, .int .i64 c.p1, .int .i64 c.p2, .int .i64 c.cy, .int .i64 c.ex, .int .i64 c.fi, .int .i64 c.la, .int .i64 c.po]] w fun e w' => e = .returned (.bool r) ∧ Below w.heap.size w w' := by
  have P := ((Box.new w #[.string x.nm, .int .i64 x.k, .int .i64 x.d, .int .i64 x.m, .int .i64 x.s, .int .i64 x.sh, .int .i64 x.p0, .int .i64 x.p1, .int .i64 x.p2, .int .i64 x.cy, .int .i64 x.ex, .int .i64 x.fi, .int .i64 x.la, .int .i64 x.po, .bool false, .bool true, .bool true, .bool false] 68).alloc (.cells #[.string c.nm, .int .i64 c.k, .int .i64 c.d, .int .i64 c.m, .int .i64 c.s, .int .i64 c.sh, .int .i64 c.p0, .int .i64 c.p1, .int .i64 c.p2, .int .i64 c.cy, .int .i64 c.ex, .int .i64 c.fi, .int .i64 c.la, .int .i64 c.po] 30)).alloc (.cells #[.string c.nm, .int .i64 c.k, .int .i64 c.d, .int .i64 c.m, .int .i64 c.s, .int .i64 c.sh, .int .i64 c.p0, .int .i64 c.p1, .int .i64 c.p2, .int .i64 c.cy, .int .i64 c.ex, .int .i64 c.fi, .int .i64 c.la, .int .i64 c.po] 30)
  have C0 := CalIn.new (w.alloc (.cells #[.string x.nm, .int .i64 x.k, .int .i64 x.d, .int .i64 x.m, .int .i64 x.s, .int .i64 x.sh, .int .i64 x.p0, .int .i64 x.p1, .int .i64 x.p2, .int .i64 x.cy, .int .i64 x.ex, .int .i64 x.fi, .int .i64 x.la, .int .i64 x.po, .bool false, .bool true, .bool true, .bool false] 68)) c 30
  have C := C0.alloc (.cells #[.string c.nm, .int .i64 c.k, .int .i64 c.d, .int .i64 c.m, .int .i64 c.s, .int .i64 c.sh, .int .i64 c.p0, .int .i64 c.p1, .int .i64 c.p2, .int .i64 c.cy, .int .i64 c.ex, .int .i64 c.fi, .int .i64 c.la, .int .i64 c.po] 30)
  have L := Box.new ((w.alloc (.cells #[.string x.nm, .int .i64 x.k, .int .i64 x.d, .int .i64 x.m, .int .i64 x.s, .int .i64 x.sh, .int .i64 x.p0, .int .i64 x.p1, .int .i64 x.p2, .int .i64 x.cy, .int .i64 x.ex, .int .i64 x.fi, .int .i64 x.la, .int .i64 x.po, .bool false, .bool true, .bool true, .bool false] 68)).alloc (.cells #[.string c.nm, .int .i64 c.k, .int .i64 c.d, .int .i64 c.m, .int .i64 c.s, .int .i64 c.sh, .int .i64 c.p0, .int .i64 c.p1, .int .i64 c.p2, .int .i64 c.cy, .int .i64 c.ex, .int .i64 c.fi, .int .i64 c.la, .int .i64 c.po] 30)) #[.string c.nm, .int .i64 c.k, .int .i64 c.d, .int .i64 c.m, .int .i64 c.s, .int .i64 c.sh, .int .i64 c.p0, .int .i64 c.p1, .int .i64 c.p2, .int .i64 c.cy, .int .i64 c.ex, .int .i64 c.fi, .int .i64 c.la, .int .i64 c.po] 30
  have B := balloc (balloc (balloc (Below.refl _ w) (.cells #[.string x.nm, .int .i64 x.k, .int .i64 x.d, .int .i64 x.m, .int .i64 x.s, .int .i64 x.sh, .int .i64 x.p0, .int .i64 x.p1, .int .i64 x.p2, .int .i64 x.cy, .int .i64 x.ex, .int .i64 x.fi, .int .i64 x.la, .int .i64 x.po, .bool false, .bool true, .bool true, .bool false] 68)) (.cells #[.string c.nm, .int .i64 c.k, .int .i64 c.d, .int .i64 c.m, .int .i64 c.s, .int .i64 c.sh, .int .i64 c.p0, .int .i64 c.p1, .int .i64 c.p2, .int .i64 c.cy, .int .i64 c.ex, .int .i64 c.fi, .int .i64 c.la, .int .i64 c.po] 30)) (.cells #[.string c.nm, .int .i64 c.k, .int .i64 c.d, .int .i64 c.m, .int .i64 c.s, .int .i64 c.sh, .int .i64 c.p0, .int .i64 c.p1, .int .i64 c.p2, .int .i64 c.cy, .int .i64 c.ex, .int .i64 c.fi, .int .i64 c.la, .int .i64 c.po] 30)
  have LC := box_range (Box.new (w.alloc (.cells #[.string x.nm, .int .i64 x.k, .int .i64 x.d, .int .i64 x.m, .int .i64 x.s, .int .i64 x.sh, .int .i64 x.p0, .int .i64 x.p1, .int .i64 x.p2, .int .i64 x.cy, .int .i64 x.ex, .int .i64 x.fi, .int .i64 x.la, .int .i64 x.po, .bool false, .bool true, .bool true, .bool false] 68)) #[.string c.nm, .int .i64 c.k, .int .i64 c.d, .int .i64 c.m, .int .i64 c.s, .int .i64 c.sh, .int .i64 c.p0, .int .i64 c.p1, .int .i64 c.p2, .int .i64 c.cy, .int .i64 c.ex, .int .i64 c.fi, .int .i64 c.la, .int .i64 c.po] 30)
  have z2 : (((w.alloc (.cells #[.string x.nm, .int .i64 x.k, .int .i64 x.d, .int .i64 x.m, .int .i64 x.s, .int .i64 x.sh, .int .i64 x.p0, .int .i64 x.p1, .int .i64 x.p2, .int .i64 x.cy, .int .i64 x.ex, .int .i64 x.fi, .int .i64 x.la, .int .i64 x.po, .bool false, .bool true, .bool true, .bool false] 68)).alloc (.cells #[.string c.nm, .int .i64 c.k, .int .i64 c.d, .int .i64 c.m, .int .i64 c.s, .int .i64 c.sh, .int .i64 c.p0, .int .i64 c.p1, .int .i64 c.p2, .int .i64 c.cy, .int .i64 c.ex, .int .i64 c.fi, .int .i64 c.la, .int .i64 c.po] 30)).alloc (.cells #[.string c.nm, .int .i64 c.k, .int .i64 c.d, .int .i64 c.m, .int .i64 c.s, .int .i64 c.sh, .int .i64 c.p0, .int .i64 c.p1, .int .i64 c.p2, .int .i64 c.cy, .int .i64 c.ex, .int .i64 c.fi, .int .i64 c.la, .int .i64 c.po] 30)).heap.size = w.heap.size + 3 := by simp
  simp only [World.size_alloc] at P C L LC
  go_enter Tryz.func42, Tryz.ntmps42
  go_upto_region 1 with fail
  apply wp_region_lit
  refine wpList_load_mid rfl _ _ rfl (w.heap.size + 1) 0 rfl _ _ LC Tryz.underlying30 rfl infoCal ?_
  simp only [Act.put]
  refine wpList_plain rfl (fun _ hK => ?_)
  go_simp
  refine hK _ _ ?_
  clear hK
  refine wpList_store_new (w := (w.alloc (.cells #[.string x.nm, .int .i64 x.k, .int .i64 x.d, .int .i64 x.m, .int .i64 x.s, .int .i64 x.sh, .int .i64 x.p0, .int .i64 x.p1, .int .i64 x.p2, .int .i64 x.cy, .int .i64 x.ex, .int .i64 x.fi, .int .i64 x.la, .int .i64 x.po, .bool false, .bool true, .bool true, .bool false] 68)).alloc (.cells #[.string c.nm, .int .i64 c.k, .int .i64 c.d, .int .i64 c.m, .int .i64 c.s, .int .i64 c.sh, .int .i64 c.p0, .int .i64 c.p1, .int .i64 c.p2, .int .i64 c.cy, .int .i64 c.ex, .int .i64 c.fi, .int .i64 c.la, .int .i64 c.po] 30)) rfl _ _ _ rfl _ #[.string c.nm, .int .i64 c.k, .int .i64 c.d, .int .i64 c.m, .int .i64 c.s, .int .i64 c.sh, .int .i64 c.p0, .int .i64 c.p1, .int .i64 c.p2, .int .i64 c.cy, .int .i64 c.ex, .int .i64 c.fi, .int .i64 c.la, .int .i64 c.po] 14 (by show Value.pointer (some (⟨w.heap.size + 1 + 1, 0, none⟩ : Addr)) = _; simp only [World.size_alloc]) rfl infoCal rfl rfl (by simp [Value.oneCell']) ?_
  simp only [Act.put]
  go_upto_region 2 with fail
  generalize ((w.alloc (.cells #[.string x.nm, .int .i64 x.k, .int .i64 x.d, .int .i64 x.m, .int .i64 x.s, .int .i64 x.sh, .int .i64 x.p0, .int .i64 x.p1, .int .i64 x.p2, .int .i64 x.cy, .int .i64 x.ex, .int .i64 x.fi, .int .i64 x.la, .int .i64 x.po, .bool false, .bool true, .bool true, .bool false] 68)).alloc (.cells #[.string c.nm, .int .i64 c.k, .int .i64 c.d, .int .i64 c.m, .int .i64 c.s, .int .i64 c.sh, .int .i64 c.p0, .int .i64 c.p1, .int .i64 c.p2, .int .i64 c.cy, .int .i64 c.ex, .int .i64 c.fi, .int .i64 c.la, .int .i64 c.po] 30)).alloc (.cells #[.string c.nm, .int .i64 c.k, .int .i64 c.d, .int .i64 c.m, .int .i64 c.s, .int .i64 c.sh, .int .i64 c.p0, .int .i64 c.p1, .int .i64 c.p2, .int .i64 c.cy, .int .i64 c.ex, .int .i64 c.fi, .int .i64 c.la, .int .i64 c.po] 30) = W2 at *
  apply wp_region_lit
  refine wpList_load_mid rfl _ _ rfl w.heap.size 0 rfl _ _ (box_range P) Tryz.underlying68 rfl infoEndA ?_
  simp only [Act.put]
  go_wp2_with fail
  refine (tell_fttf x c _ _ L).mono ?_
  rintro e w3 ⟨rfl, hB, L3⟩
  have P3 := box_upto P (by omega) hB
  have C3 := C.upto (by omega) hB (by omega)
  have B3 := B.trans (hB.mono (by omega))
  have T3 := T.kept B3
  clear P C L B LC z2 hB C0 T
  have q := fun w => cal_eql ⟨c.nm, x.k, x.d, c.m, c.s, x.sh, x.p0, x.p1, x.p2, x.cy, x.ex, c.fi, c.la, c.po⟩ c rfl w
  obtain ⟨da, dc, dlt, dg⟩ := T3.day
  obtain ⟨ma, mc, mlt, mg⟩ := T3.mon
  obtain ⟨_, c0, c1, c2, c3, c4, c5, c6, c7, c8, c9, c10, c11, c12, c13⟩ := id C3
  have p14 := P3.cell 14 _ rfl
  have p15 := P3.cell 15 _ rfl
  have p16 := P3.cell 16 _ rfl
  have p17 := P3.cell 17 _ rfl
  have l0 := L3.cell 0 _ rfl
  have l1 := L3.cell 1 _ rfl
  have l2 := L3.cell 2 _ rfl
  have l3 := L3.cell 3 _ rfl
  have l4 := L3.cell 4 _ rfl
  have l5 := L3.cell 5 _ rfl
  have l6 := L3.cell 6 _ rfl
  have l7 := L3.cell 7 _ rfl
  have l8 := L3.cell 8 _ rfl
  have l9 := L3.cell 9 _ rfl
  have l10 := L3.cell 10 _ rfl
  have l11 := L3.cell 11 _ rfl
  have l12 := L3.cell 12 _ rfl
  have l13 := L3.cell 13 _ rfl
  dsimp only at *
  clear dlt mlt P3 C3 L3
  obtain ⟨vm, hvm⟩ : ∃ v, (decide (1 ≤ c.m) && decide (c.m ≤ 12)) = v := ⟨_, rfl⟩
  have cwm := fun w => within_any c.m 1 12 vm w hvm.symm
  rw [hvm] at hr
  obtain ⟨vs, hvs⟩ : ∃ v, (decide (0 ≤ c.s) && decide (c.s ≤ 1)) = v := ⟨_, rfl⟩
  have cws := fun w => within_any c.s 0 1 vs w hvs.symm
  rw [hvs] at hr
  obtain ⟨ve, hve⟩ : ∃ v, decide (CalSame ⟨c.nm, x.k, x.d, c.m, c.s, x.sh, x.p0, x.p1, x.p2, x.cy, x.ex, c.fi, c.la, c.po⟩ c) = v := ⟨_, rfl⟩
  rw [hve] at hr q
  clear hvm hvs hve
  cases ve with
  | false =>
    (try simp at hr)
    subst hr
    go_wp2_with fail
    go_ret
    exact ⟨rfl, B3⟩
  | true =>
    cases vm with
    | false =>
      (try simp at hr)
      subst hr
      go_wp2_with fail
      refine (cwm _).mono ?_
      rintro e w5 ⟨rfl, rfl⟩
      go_wp2_with fail
      go_ret
      exact ⟨rfl, B3⟩
    | true =>
      cases vs with
      | false =>
        (try simp at hr)
        subst hr
        go_wp2_with fail
        refine (cwm _).mono ?_
        rintro e w5 ⟨rfl, rfl⟩
        go_wp2_with fail
        refine (cws _).mono ?_
        rintro e w5 ⟨rfl, rfl⟩
        go_wp2_with fail
        go_ret
        exact ⟨rfl, B3⟩
      | true =>
        (try simp at hr)
        subst hr
        go_wp2_with fail
        refine (cwm _).mono ?_
        rintro e w5 ⟨rfl, rfl⟩
        go_wp2_with fail
        refine (cws _).mono ?_
        rintro e w5 ⟨rfl, rfl⟩
        go_wp2_with fail
        go_ret
        exact ⟨rfl, B3⟩

end Go.Proofs.YtnjmokmlnpehdaaGreatDoor.Fp

namespace Go.Proofs.YtnjmokmlnpehdaaGreatDoor.Fp
set_option linter.unusedSimpArgs false
set_option linter.unusedVariables false
open Go.RowKit Go.Proofs.YtnjmokmlnpehdaaGreatDoor.Bn Go.Proofs.YtnjmokmlnpehdaaGreatDoor.Cp Go.Proofs.YtnjmokmlnpehdaaGreatDoor.Am Go.Proofs.YtnjmokmlnpehdaaGreatDoor.Fs

set_option maxHeartbeats 1000000

theorem infoEnd : (Tryz.prog.info? 68).map (·.size) = some 18 := by kernel_rfl

set_option maxRecDepth 100000 in
theorem endOf_1 (w : World) : Calls Tryz.prog 41 #[.int .i64 1] w fun e w' => e = .returned (.tuple #[.agg #[.string ⟨#[]⟩, .int .i64 1, .int .i64 0, .int .i64 0, .int .i64 0, .int .i64 0, .int .i64 0, .int .i64 0, .int .i64 0, .int .i64 0, .int .i64 0, .int .i64 0, .int .i64 0, .int .i64 0, .bool true, .bool true, .bool true, .bool true], .bool true]) ∧ Below w.heap.size w w' := by
  have P := Box.new w #[.string ⟨#[]⟩, .int .i64 1, .int .i64 0, .int .i64 0, .int .i64 0, .int .i64 0, .int .i64 0, .int .i64 0, .int .i64 0, .int .i64 0, .int .i64 0, .int .i64 0, .int .i64 0, .int .i64 0, .bool true, .bool true, .bool true, .bool true] 68
  have B := balloc (Below.refl _ w) (.cells #[.string ⟨#[]⟩, .int .i64 1, .int .i64 0, .int .i64 0, .int .i64 0, .int .i64 0, .int .i64 0, .int .i64 0, .int .i64 0, .int .i64 0, .int .i64 0, .int .i64 0, .int .i64 0, .int .i64 0, .bool true, .bool true, .bool true, .bool true] 68)
  go_enter Tryz.func41, Tryz.ntmps41
  go_upto_region 4 with fail
  apply wp_region_lit
  refine wpList_plain rfl (fun _ hK => ?_)
  go_simp
  refine hK _ _ ?_
  clear hK
  refine wpList_plain rfl (fun _ hK => ?_)
  go_simp
  refine hK _ _ ?_
  clear hK
  refine wpList_plain rfl (fun _ hK => ?_)
  go_simp
  refine hK _ _ ?_
  clear hK
  refine wpList_store_new rfl _ _ _ rfl _ _ 18 rfl rfl infoEnd rfl rfl (by simp [Value.oneCell']) ?_
  simp only [Act.put]
  go_wp2
  refine bodyPost_ret (results_cell2 (t := 2) (ty := 68) rfl _ _ _ w.heap.size 0 ([.string ⟨#[]⟩, .int .i64 1, .int .i64 0, .int .i64 0, .int .i64 0, .int .i64 0, .int .i64 0, .int .i64 0, .int .i64 0, .int .i64 0, .int .i64 0, .int .i64 0, .int .i64 0, .int .i64 0, .bool true, .bool true, .bool true, .bool true] : List Value) _ 18 rfl (fun j v hj => ?_) Tryz.underlying68 rfl infoEnd rfl) rfl ⟨rfl, B⟩
  rw [Nat.zero_add]
  exact P.cell j v hj

set_option maxRecDepth 100000 in
theorem endOf_2 (w : World) : Calls Tryz.prog 41 #[.int .i64 2] w fun e w' => e = .returned (.tuple #[.agg #[.string ⟨#[]⟩, .int .i64 2, .int .i64 0, .int .i64 0, .int .i64 0, .int .i64 0, .int .i64 0, .int .i64 0, .int .i64 0, .int .i64 0, .int .i64 0, .int .i64 0, .int .i64 0, .int .i64 0, .bool true, .bool true, .bool true, .bool true], .bool true]) ∧ Below w.heap.size w w' := by
  have P := Box.new w #[.string ⟨#[]⟩, .int .i64 2, .int .i64 0, .int .i64 0, .int .i64 0, .int .i64 0, .int .i64 0, .int .i64 0, .int .i64 0, .int .i64 0, .int .i64 0, .int .i64 0, .int .i64 0, .int .i64 0, .bool true, .bool true, .bool true, .bool true] 68
  have B := balloc (Below.refl _ w) (.cells #[.string ⟨#[]⟩, .int .i64 2, .int .i64 0, .int .i64 0, .int .i64 0, .int .i64 0, .int .i64 0, .int .i64 0, .int .i64 0, .int .i64 0, .int .i64 0, .int .i64 0, .int .i64 0, .int .i64 0, .bool true, .bool true, .bool true, .bool true] 68)
  go_enter Tryz.func41, Tryz.ntmps41
  go_upto_region 4 with fail
  apply wp_region_lit
  refine wpList_plain rfl (fun _ hK => ?_)
  go_simp
  refine hK _ _ ?_
  clear hK
  refine wpList_plain rfl (fun _ hK => ?_)
  go_simp
  refine hK _ _ ?_
  clear hK
  refine wpList_plain rfl (fun _ hK => ?_)
  go_simp
  refine hK _ _ ?_
  clear hK
  refine wpList_store_new rfl _ _ _ rfl _ _ 18 rfl rfl infoEnd rfl rfl (by simp [Value.oneCell']) ?_
  simp only [Act.put]
  go_wp2
  refine bodyPost_ret (results_cell2 (t := 2) (ty := 68) rfl _ _ _ w.heap.size 0 ([.string ⟨#[]⟩, .int .i64 2, .int .i64 0, .int .i64 0, .int .i64 0, .int .i64 0, .int .i64 0, .int .i64 0, .int .i64 0, .int .i64 0, .int .i64 0, .int .i64 0, .int .i64 0, .int .i64 0, .bool true, .bool true, .bool true, .bool true] : List Value) _ 18 rfl (fun j v hj => ?_) Tryz.underlying68 rfl infoEnd rfl) rfl ⟨rfl, B⟩
  rw [Nat.zero_add]
  exact P.cell j v hj

set_option maxRecDepth 100000 in
theorem endOf_3 (w : World) : Calls Tryz.prog 41 #[.int .i64 3] w fun e w' => e = .returned (.tuple #[.agg #[.string ⟨#[]⟩, .int .i64 3, .int .i64 6, .int .i64 1, .int .i64 1, .int .i64 1, .int .i64 4, .int .i64 5, .int .i64 4, .int .i64 0, .int .i64 12, .int .i64 0, .int .i64 0, .int .i64 0, .bool false, .bool false, .bool false, .bool false], .bool true]) ∧ Below w.heap.size w w' := by
  have P := Box.new w #[.string ⟨#[]⟩, .int .i64 3, .int .i64 6, .int .i64 1, .int .i64 1, .int .i64 1, .int .i64 4, .int .i64 5, .int .i64 4, .int .i64 0, .int .i64 12, .int .i64 0, .int .i64 0, .int .i64 0, .bool false, .bool false, .bool false, .bool false] 68
  have B := balloc (Below.refl _ w) (.cells #[.string ⟨#[]⟩, .int .i64 3, .int .i64 6, .int .i64 1, .int .i64 1, .int .i64 1, .int .i64 4, .int .i64 5, .int .i64 4, .int .i64 0, .int .i64 12, .int .i64 0, .int .i64 0, .int .i64 0, .bool false, .bool false, .bool false, .bool false] 68)
  go_enter Tryz.func41, Tryz.ntmps41
  go_upto_region 6 with fail
  apply wp_region_lit
  refine wpList_plain rfl (fun _ hK => ?_)
  go_simp
  refine hK _ _ ?_
  clear hK
  refine wpList_plain rfl (fun _ hK => ?_)
  go_simp
  refine hK _ _ ?_
  clear hK
  refine wpList_plain rfl (fun _ hK => ?_)
  go_simp
  refine hK _ _ ?_
  clear hK
  refine wpList_plain rfl (fun _ hK => ?_)
  go_simp
  refine hK _ _ ?_
  clear hK
  refine wpList_store_new rfl _ _ _ rfl _ _ 18 rfl rfl infoEnd rfl rfl (by simp [Value.oneCell']) ?_
  simp only [Act.put]
  go_wp2
  refine bodyPost_ret (results_cell2 (t := 2) (ty := 68) rfl _ _ _ w.heap.size 0 ([.string ⟨#[]⟩, .int .i64 3, .int .i64 6, .int .i64 1, .int .i64 1, .int .i64 1, .int .i64 4, .int .i64 5, .int .i64 4, .int .i64 0, .int .i64 12, .int .i64 0, .int .i64 0, .int .i64 0, .bool false, .bool false, .bool false, .bool false] : List Value) _ 18 rfl (fun j v hj => ?_) Tryz.underlying68 rfl infoEnd rfl) rfl ⟨rfl, B⟩
  rw [Nat.zero_add]
  exact P.cell j v hj

set_option maxRecDepth 100000 in
theorem endOf_4 (w : World) : Calls Tryz.prog 41 #[.int .i64 4] w fun e w' => e = .returned (.tuple #[.agg #[.string ⟨#[]⟩, .int .i64 4, .int .i64 7, .int .i64 12, .int .i64 0, .int .i64 4, .int .i64 0, .int .i64 0, .int .i64 0, .int .i64 0, .int .i64 12, .int .i64 0, .int .i64 0, .int .i64 0, .bool false, .bool false, .bool false, .bool false], .bool true]) ∧ Below w.heap.size w w' := by
  have P := Box.new w #[.string ⟨#[]⟩, .int .i64 4, .int .i64 7, .int .i64 12, .int .i64 0, .int .i64 4, .int .i64 0, .int .i64 0, .int .i64 0, .int .i64 0, .int .i64 12, .int .i64 0, .int .i64 0, .int .i64 0, .bool false, .bool false, .bool false, .bool false] 68
  have B := balloc (Below.refl _ w) (.cells #[.string ⟨#[]⟩, .int .i64 4, .int .i64 7, .int .i64 12, .int .i64 0, .int .i64 4, .int .i64 0, .int .i64 0, .int .i64 0, .int .i64 0, .int .i64 12, .int .i64 0, .int .i64 0, .int .i64 0, .bool false, .bool false, .bool false, .bool false] 68)
  go_enter Tryz.func41, Tryz.ntmps41
  go_upto_region 8 with fail
  apply wp_region_lit
  refine wpList_plain rfl (fun _ hK => ?_)
  go_simp
  refine hK _ _ ?_
  clear hK
  refine wpList_plain rfl (fun _ hK => ?_)
  go_simp
  refine hK _ _ ?_
  clear hK
  refine wpList_plain rfl (fun _ hK => ?_)
  go_simp
  refine hK _ _ ?_
  clear hK
  refine wpList_store_new rfl _ _ _ rfl _ _ 18 rfl rfl infoEnd rfl rfl (by simp [Value.oneCell']) ?_
  simp only [Act.put]
  go_wp2
  refine bodyPost_ret (results_cell2 (t := 2) (ty := 68) rfl _ _ _ w.heap.size 0 ([.string ⟨#[]⟩, .int .i64 4, .int .i64 7, .int .i64 12, .int .i64 0, .int .i64 4, .int .i64 0, .int .i64 0, .int .i64 0, .int .i64 0, .int .i64 12, .int .i64 0, .int .i64 0, .int .i64 0, .bool false, .bool false, .bool false, .bool false] : List Value) _ 18 rfl (fun j v hj => ?_) Tryz.underlying68 rfl infoEnd rfl) rfl ⟨rfl, B⟩
  rw [Nat.zero_add]
  exact P.cell j v hj

set_option maxRecDepth 100000 in
theorem endOf_5 (w : World) : Calls Tryz.prog 41 #[.int .i64 5] w fun e w' => e = .returned (.tuple #[.agg #[.string ⟨#[]⟩, .int .i64 5, .int .i64 7, .int .i64 12, .int .i64 0, .int .i64 0, .int .i64 0, .int .i64 0, .int .i64 0, .int .i64 0, .int .i64 0, .int .i64 0, .int .i64 0, .int .i64 0, .bool false, .bool false, .bool false, .bool true], .bool true]) ∧ Below w.heap.size w w' := by
  have P := Box.new w #[.string ⟨#[]⟩, .int .i64 5, .int .i64 7, .int .i64 12, .int .i64 0, .int .i64 0, .int .i64 0, .int .i64 0, .int .i64 0, .int .i64 0, .int .i64 0, .int .i64 0, .int .i64 0, .int .i64 0, .bool false, .bool false, .bool false, .bool true] 68
  have B := balloc (Below.refl _ w) (.cells #[.string ⟨#[]⟩, .int .i64 5, .int .i64 7, .int .i64 12, .int .i64 0, .int .i64 0, .int .i64 0, .int .i64 0, .int .i64 0, .int .i64 0, .int .i64 0, .int .i64 0, .int .i64 0, .int .i64 0, .bool false, .bool false, .bool false, .bool true] 68)
  go_enter Tryz.func41, Tryz.ntmps41
  go_upto_region 10 with fail
  apply wp_region_lit
  refine wpList_plain rfl (fun _ hK => ?_)
  go_simp
  refine hK _ _ ?_
  clear hK
  refine wpList_plain rfl (fun _ hK => ?_)
  go_simp
  refine hK _ _ ?_
  clear hK
  refine wpList_plain rfl (fun _ hK => ?_)
  go_simp
  refine hK _ _ ?_
  clear hK
  refine wpList_store_new rfl _ _ _ rfl _ _ 18 rfl rfl infoEnd rfl rfl (by simp [Value.oneCell']) ?_
  simp only [Act.put]
  go_wp2
  refine bodyPost_ret (results_cell2 (t := 2) (ty := 68) rfl _ _ _ w.heap.size 0 ([.string ⟨#[]⟩, .int .i64 5, .int .i64 7, .int .i64 12, .int .i64 0, .int .i64 0, .int .i64 0, .int .i64 0, .int .i64 0, .int .i64 0, .int .i64 0, .int .i64 0, .int .i64 0, .int .i64 0, .bool false, .bool false, .bool false, .bool true] : List Value) _ 18 rfl (fun j v hj => ?_) Tryz.underlying68 rfl infoEnd rfl) rfl ⟨rfl, B⟩
  rw [Nat.zero_add]
  exact P.cell j v hj

set_option maxRecDepth 100000 in
theorem endOf_6 (w : World) : Calls Tryz.prog 41 #[.int .i64 6] w fun e w' => e = .returned (.tuple #[.agg #[.string ⟨#[]⟩, .int .i64 6, .int .i64 0, .int .i64 0, .int .i64 0, .int .i64 5, .int .i64 0, .int .i64 0, .int .i64 0, .int .i64 0, .int .i64 0, .int .i64 0, .int .i64 0, .int .i64 0, .bool false, .bool true, .bool true, .bool false], .bool true]) ∧ Below w.heap.size w w' := by
  have P := Box.new w #[.string ⟨#[]⟩, .int .i64 6, .int .i64 0, .int .i64 0, .int .i64 0, .int .i64 5, .int .i64 0, .int .i64 0, .int .i64 0, .int .i64 0, .int .i64 0, .int .i64 0, .int .i64 0, .int .i64 0, .bool false, .bool true, .bool true, .bool false] 68
  have B := balloc (Below.refl _ w) (.cells #[.string ⟨#[]⟩, .int .i64 6, .int .i64 0, .int .i64 0, .int .i64 0, .int .i64 5, .int .i64 0, .int .i64 0, .int .i64 0, .int .i64 0, .int .i64 0, .int .i64 0, .int .i64 0, .int .i64 0, .bool false, .bool true, .bool true, .bool false] 68)
  go_enter Tryz.func41, Tryz.ntmps41
  go_upto_region 12 with fail
  apply wp_region_lit
  refine wpList_plain rfl (fun _ hK => ?_)
  go_simp
  refine hK _ _ ?_
  clear hK
  refine wpList_plain rfl (fun _ hK => ?_)
  go_simp
  refine hK _ _ ?_
  clear hK
  refine wpList_plain rfl (fun _ hK => ?_)
  go_simp
  refine hK _ _ ?_
  clear hK
  refine wpList_store_new rfl _ _ _ rfl _ _ 18 rfl rfl infoEnd rfl rfl (by simp [Value.oneCell']) ?_
  simp only [Act.put]
  go_wp2
  refine bodyPost_ret (results_cell2 (t := 2) (ty := 68) rfl _ _ _ w.heap.size 0 ([.string ⟨#[]⟩, .int .i64 6, .int .i64 0, .int .i64 0, .int .i64 0, .int .i64 5, .int .i64 0, .int .i64 0, .int .i64 0, .int .i64 0, .int .i64 0, .int .i64 0, .int .i64 0, .int .i64 0, .bool false, .bool true, .bool true, .bool false] : List Value) _ 18 rfl (fun j v hj => ?_) Tryz.underlying68 rfl infoEnd rfl) rfl ⟨rfl, B⟩
  rw [Nat.zero_add]
  exact P.cell j v hj

set_option maxRecDepth 100000 in
theorem endOf_no (k : Int) (h1 : k ≠ 1) (h2 : k ≠ 2) (h3 : k ≠ 3) (h4 : k ≠ 4) (h5 : k ≠ 5) (h6 : k ≠ 6) (w : World) : Calls Tryz.prog 41 #[.int .i64 k] w fun e w' => e = .returned (.tuple #[.agg #[.string ⟨#[]⟩, .int .i64 0, .int .i64 0, .int .i64 0, .int .i64 0, .int .i64 0, .int .i64 0, .int .i64 0, .int .i64 0, .int .i64 0, .int .i64 0, .int .i64 0, .int .i64 0, .int .i64 0, .bool false, .bool false, .bool false, .bool false], .bool false]) ∧ Below w.heap.size w w' := by
  have P := Box.new w #[.string ⟨#[]⟩, .int .i64 0, .int .i64 0, .int .i64 0, .int .i64 0, .int .i64 0, .int .i64 0, .int .i64 0, .int .i64 0, .int .i64 0, .int .i64 0, .int .i64 0, .int .i64 0, .int .i64 0, .bool false, .bool false, .bool false, .bool false] 68
  have B := balloc (Below.refl _ w) (.cells #[.string ⟨#[]⟩, .int .i64 0, .int .i64 0, .int .i64 0, .int .i64 0, .int .i64 0, .int .i64 0, .int .i64 0, .int .i64 0, .int .i64 0, .int .i64 0, .int .i64 0, .int .i64 0, .int .i64 0, .bool false, .bool false, .bool false, .bool false] 68)
  go_enter Tryz.func41, Tryz.ntmps41
  go_upto_region 13 with fail
  apply wp_region_lit
  refine wpList_plain rfl (fun _ hK => ?_)
  go_simp
  refine hK _ _ ?_
  clear hK
  refine wpList_store_new rfl _ _ _ rfl _ _ 18 rfl rfl infoEnd rfl rfl (by simp [Value.oneCell']) ?_
  simp only [Act.put]
  go_wp2
  refine bodyPost_ret (results_cell2 (t := 2) (ty := 68) rfl _ _ _ w.heap.size 0 ([.string ⟨#[]⟩, .int .i64 0, .int .i64 0, .int .i64 0, .int .i64 0, .int .i64 0, .int .i64 0, .int .i64 0, .int .i64 0, .int .i64 0, .int .i64 0, .int .i64 0, .int .i64 0, .int .i64 0, .bool false, .bool false, .bool false, .bool false] : List Value) _ 18 rfl (fun j v hj => ?_) Tryz.underlying68 rfl infoEnd rfl) rfl ⟨rfl, B⟩
  rw [Nat.zero_add]
  exact P.cell j v hj

end Go.Proofs.YtnjmokmlnpehdaaGreatDoor.Fp

namespace Go.Proofs.YtnjmokmlnpehdaaGreatDoor.Fp
set_option linter.unusedSimpArgs false
set_option linter.unusedVariables false
open Go.RowKit Go.Proofs.YtnjmokmlnpehdaaGreatDoor.Bn Go.Proofs.YtnjmokmlnpehdaaGreatDoor.Cp Go.Proofs.YtnjmokmlnpehdaaGreatDoor.Am Go.Proofs.YtnjmokmlnpehdaaGreatDoor.Fs

set_option maxHeartbeats 1000000

set_option maxRecDepth 100000 in
theorem Check_walk (c x : CalZ) (b1 b2 b3 b4 th na al yr po : Bool) (er : Int) (w : World)
    (cE : ∀ w, Calls Tryz.prog 41 #[.int .i64 c.k] w fun e w' => e = .returned (.tuple #[.agg #[.string x.nm, .int .i64 x.k, .int .i64 x.d, .int .i64 x.m, .int .i64 x.s, .int .i64 x.sh, .int .i64 x.p0, .int .i64 x.p1, .int .i64 x.p2, .int .i64 x.cy, .int .i64 x.ex, .int .i64 x.fi, .int .i64 x.la, .int .i64 x.po, .bool b1, .bool b2, .bool b3, .bool b4], .bool th]) ∧ Below w.heap.size w w')
    (cN : ∀ w, Calls Tryz.prog 24 #[.string c.nm] w fun e w' => e = .returned (.bool na) ∧ w = w')
    (cA : ∀ w, FTab w → Calls Tryz.prog 42 #[.agg #[.string x.nm, .int .i64 x.k, .int .i64 x.d, .int .i64 x.m, .int .i64 x.s, .int .i64 x.sh, .int .i64 x.p0, .int .i64 x.p1, .int .i64 x.p2, .int .i64 x.cy, .int .i64 x.ex, .int .i64 x.fi, .int .i64 x.la, .int .i64 x.po, .bool b1, .bool b2, .bool b3, .bool b4], .agg #[.string c.nm, .int .i64 c.k, .int .i64 c.d, .int .i64 c.m, .int .i64 c.s, .int .i64 c.sh, .int .i64 c.p0, .int .i64 c.p1, .int .i64 c.p2, .int .i64 c.cy, .int .i64 c.ex, .int .i64 c.fi, .int .i64 c.la, .int .i64 c.po]] w fun e w' => e = .returned (.bool al) ∧ Below w.heap.size w w')
    (cY : ∀ w, Calls Tryz.prog 43 #[.agg #[.string c.nm, .int .i64 c.k, .int .i64 c.d, .int .i64 c.m, .int .i64 c.s, .int .i64 c.sh, .int .i64 c.p0, .int .i64 c.p1, .int .i64 c.p2, .int .i64 c.cy, .int .i64 c.ex, .int .i64 c.fi, .int .i64 c.la, .int .i64 c.po]] w fun e w' => e = .returned (.bool yr) ∧ Below w.heap.size w w')
    (cP : ∀ w, FTab w → Calls Tryz.prog 44 #[.agg #[.string c.nm, .int .i64 c.k, .int .i64 c.d, .int .i64 c.m, .int .i64 c.s, .int .i64 c.sh, .int .i64 c.p0, .int .i64 c.p1, .int .i64 c.p2, .int .i64 c.cy, .int .i64 c.ex, .int .i64 c.fi, .int .i64 c.la, .int .i64 c.po]] w fun e w' => e = .returned (.bool po) ∧ Below w.heap.size w w')
    (hr : er = if (th && (na && (al && (yr && po)))) = true then 0 else 1) (T : FTab w) :
    Calls Tryz.prog 20 #[.agg #[.string c.nm, .int .i64 c.k, .int .i64 c.d, .int .i64 c.m, .int .i64 c.s, .int .i64 c.sh, .int .i64 c.p0, .int .i64 c.p1, .int .i64 c.p2, .int .i64 c.cy, .int .i64 c.ex, .int .i64 c.fi, .int .i64 c.la, .int .i64 c.po]] w fun e w' => e = .returned (.int .i64 er) ∧ Below w.heap.size w w' := by
  have C := CalIn.new w c 30
  have B := balloc (Below.refl _ w) (.cells #[.string c.nm, .int .i64 c.k, .int .i64 c.d, .int .i64 c.m, .int .i64 c.s, .int .i64 c.sh, .int .i64 c.p0, .int .i64 c.p1, .int .i64 c.p2, .int .i64 c.cy, .int .i64 c.ex, .int .i64 c.fi, .int .i64 c.la, .int .i64 c.po] 30)
  go_enter Tryz.func20, Tryz.ntmps20
  go_upto_region 1 with fail
  generalize w.alloc (.cells #[.string c.nm, .int .i64 c.k, .int .i64 c.d, .int .i64 c.m, .int .i64 c.s, .int .i64 c.sh, .int .i64 c.p0, .int .i64 c.p1, .int .i64 c.p2, .int .i64 c.cy, .int .i64 c.ex, .int .i64 c.fi, .int .i64 c.la, .int .i64 c.po] 30) = W0 at *
  obtain ⟨_, c0, c1, c2, c3, c4, c5, c6, c7, c8, c9, c10, c11, c12, c13⟩ := id C
  go_wp2_with fail
  refine (cE _).mono ?_
  rintro e w1 ⟨rfl, hb⟩
  have C1 := (C.kept hb).alloc (.cells #[.string x.nm, .int .i64 x.k, .int .i64 x.d, .int .i64 x.m, .int .i64 x.s, .int .i64 x.sh, .int .i64 x.p0, .int .i64 x.p1, .int .i64 x.p2, .int .i64 x.cy, .int .i64 x.ex, .int .i64 x.fi, .int .i64 x.la, .int .i64 x.po, .bool b1, .bool b2, .bool b3, .bool b4] 68)
  have P1 := Box.new w1 #[.string x.nm, .int .i64 x.k, .int .i64 x.d, .int .i64 x.m, .int .i64 x.s, .int .i64 x.sh, .int .i64 x.p0, .int .i64 x.p1, .int .i64 x.p2, .int .i64 x.cy, .int .i64 x.ex, .int .i64 x.fi, .int .i64 x.la, .int .i64 x.po, .bool b1, .bool b2, .bool b3, .bool b4] 68
  have B1 := balloc (bthen B hb) (.cells #[.string x.nm, .int .i64 x.k, .int .i64 x.d, .int .i64 x.m, .int .i64 x.s, .int .i64 x.sh, .int .i64 x.p0, .int .i64 x.p1, .int .i64 x.p2, .int .i64 x.cy, .int .i64 x.ex, .int .i64 x.fi, .int .i64 x.la, .int .i64 x.po, .bool b1, .bool b2, .bool b3, .bool b4] 68)
  clear C B hb cE c0 c1 c2 c3 c4 c5 c6 c7 c8 c9 c10 c11 c12 c13
  apply_assumption
  iterate 4
    refine wpList_plain rfl (fun _ hK => ?_)
    go_simp
    refine hK _ _ ?_
    clear hK
  refine wpList_store_new rfl _ _ _ rfl _ _ 18 rfl rfl infoEnd rfl rfl (by simp [Value.oneCell']) ?_
  simp only [Act.put]
  go_upto_region 2 with fail
  generalize w1.alloc (.cells #[.string x.nm, .int .i64 x.k, .int .i64 x.d, .int .i64 x.m, .int .i64 x.s, .int .i64 x.sh, .int .i64 x.p0, .int .i64 x.p1, .int .i64 x.p2, .int .i64 x.cy, .int .i64 x.ex, .int .i64 x.fi, .int .i64 x.la, .int .i64 x.po, .bool b1, .bool b2, .bool b3, .bool b4] 68) = W1 at *
  have T1 := T.kept B1
  have LP := box_range P1
  obtain ⟨_, c0, c1, c2, c3, c4, c5, c6, c7, c8, c9, c10, c11, c12, c13⟩ := id C1
  clear P1
  cases th with
  | false =>
    simp at hr
    subst hr
    go_wp2
    go_ret
    exact ⟨rfl, B1⟩
  | true =>
  cases na with
  | false =>
    simp at hr
    subst hr
    go_wp2_with fail
    refine (cN _).mono ?_
    rintro e w2 ⟨rfl, rfl⟩
    go_wp2
    go_ret
    exact ⟨rfl, B1⟩
  | true =>
  go_wp2_with fail
  refine (cN _).mono ?_
  rintro e w2 ⟨rfl, rfl⟩
  apply_assumption
  iterate 3
    refine wpList_step (fun _ hK => ?_)
    go_simp
    refine hK _ _ ?_
    clear hK
  refine wpList_load_midG (by go_simp) _ _ rfl w1.heap.size 0 rfl _ _ LP Tryz.underlying68 rfl infoEndA ?_
  simp only [Act.put]
  clear LP
  go_wp2_with fail
  refine (cA _ T1).mono ?_
  rintro e w3 ⟨rfl, hb⟩
  have C2 := C1.kept hb
  have T2 := T1.kept hb
  have B2 := bthen B1 hb
  clear hb c0 c1 c2 c3 c4 c5 c6 c7 c8 c9 c10 c11 c12 c13 B1 T1 C1
  obtain ⟨_, c0, c1, c2, c3, c4, c5, c6, c7, c8, c9, c10, c11, c12, c13⟩ := id C2
  cases al with
  | false =>
    simp at hr
    subst hr
    go_wp2
    go_ret
    exact ⟨rfl, B2⟩
  | true =>
  go_wp2_with fail
  refine (cY _).mono ?_
  rintro e w4 ⟨rfl, hb⟩
  have C3 := C2.kept hb
  have T3 := T2.kept hb
  have B3 := bthen B2 hb
  clear hb c0 c1 c2 c3 c4 c5 c6 c7 c8 c9 c10 c11 c12 c13 B2 T2 C2
  obtain ⟨_, c0, c1, c2, c3, c4, c5, c6, c7, c8, c9, c10, c11, c12, c13⟩ := id C3
  cases yr with
  | false =>
    simp at hr
    subst hr
    go_wp2
    go_ret
    exact ⟨rfl, B3⟩
  | true =>
  go_wp2_with fail
  refine (cP _ T3).mono ?_
  rintro e w5 ⟨rfl, hb⟩
  have B4 := bthen B3 hb
  cases po with
  | false =>
    simp at hr
    subst hr
    go_wp2
    go_ret
    exact ⟨rfl, B4⟩
  | true =>
    simp at hr
    subst hr
    go_wp2
    go_ret
    exact ⟨rfl, B4⟩

end Go.Proofs.YtnjmokmlnpehdaaGreatDoor.Fp

namespace Go.Proofs.YtnjmokmlnpehdaaGreatDoor.Fp
set_option linter.unusedSimpArgs false
set_option linter.unusedVariables false
open Go.RowKit Go.Proofs.YtnjmokmlnpehdaaGreatDoor.Bn Go.Proofs.YtnjmokmlnpehdaaGreatDoor.Cp Go.Proofs.YtnjmokmlnpehdaaGreatDoor.Am Go.Proofs.YtnjmokmlnpehdaaGreatDoor.Fs Go.Proofs.YtnjmokmlnpehdaaGreatDoor.Zp
open Go.Proofs.YtnjmokmlnpehdaaGreatDoor.Zm (name)
open Go.Proofs.YtnjmokmlnpehdaaGreatDoor.Zr (by_)

set_option maxHeartbeats 1000000

theorem Check_any (c : CalZ) (er : Int) (w : World) (R : ChkA c er) (hm : c.nm.size ≤ maxLen) (T : FTab w) :
    Calls Tryz.prog 20 #[.agg #[.string c.nm, .int .i64 c.k, .int .i64 c.d, .int .i64 c.m, .int .i64 c.s, .int .i64 c.sh, .int .i64 c.p0, .int .i64 c.p1, .int .i64 c.p2, .int .i64 c.cy, .int .i64 c.ex, .int .i64 c.fi, .int .i64 c.la, .int .i64 c.po]] w fun e w' => e = .returned (.int .i64 er) ∧ Below w.heap.size w w' := by
  have go : ∀ (x : CalZ) (b1 b2 b3 b4 th al : Bool), (∀ w, Calls Tryz.prog 41 #[.int .i64 c.k] w fun e w' => e = .returned (.tuple #[.agg #[.string x.nm, .int .i64 x.k, .int .i64 x.d, .int .i64 x.m, .int .i64 x.s, .int .i64 x.sh, .int .i64 x.p0, .int .i64 x.p1, .int .i64 x.p2, .int .i64 x.cy, .int .i64 x.ex, .int .i64 x.fi, .int .i64 x.la, .int .i64 x.po, .bool b1, .bool b2, .bool b3, .bool b4], .bool th]) ∧ Below w.heap.size w w') →
      (∀ w, FTab w → Calls Tryz.prog 42 #[.agg #[.string x.nm, .int .i64 x.k, .int .i64 x.d, .int .i64 x.m, .int .i64 x.s, .int .i64 x.sh, .int .i64 x.p0, .int .i64 x.p1, .int .i64 x.p2, .int .i64 x.cy, .int .i64 x.ex, .int .i64 x.fi, .int .i64 x.la, .int .i64 x.po, .bool b1, .bool b2, .bool b3, .bool b4], .agg #[.string c.nm, .int .i64 c.k, .int .i64 c.d, .int .i64 c.m, .int .i64 c.s, .int .i64 c.sh, .int .i64 c.p0, .int .i64 c.p1, .int .i64 c.p2, .int .i64 c.cy, .int .i64 c.ex, .int .i64 c.fi, .int .i64 c.la, .int .i64 c.po]] w fun e w' => e = .returned (.bool al) ∧ Below w.heap.size w w') →
      (KindOk c ↔ (th && al) = true) → Calls Tryz.prog 20 #[.agg #[.string c.nm, .int .i64 c.k, .int .i64 c.d, .int .i64 c.m, .int .i64 c.s, .int .i64 c.sh, .int .i64 c.p0, .int .i64 c.p1, .int .i64 c.p2, .int .i64 c.cy, .int .i64 c.ex, .int .i64 c.fi, .int .i64 c.la, .int .i64 c.po]] w fun e w' => e = .returned (.int .i64 er) ∧ Below w.heap.size w w' := by
    intro x b1 b2 b3 b4 th al cE cA hK
    refine Check_walk c x b1 b2 b3 b4 th _ al _ _ er w cE (fun w => Name_any c.nm w hm) cA (fun w => Years_any c _ w rfl) (fun w T => Policy_any c _ w rfl T) ?_ T
    have hC : CalOk c ↔ (th && (name (by_ c.nm) && (al && (decide (YearsOk c) && decide (PolOk c))))) = true := by
      unfold CalOk
      rw [hK]
      simp only [Bool.and_eq_true, decide_eq_true_eq]
      constructor
      · rintro ⟨⟨h1, h2⟩, h3, h4, h5⟩; exact ⟨h1, h3, h2, h4, h5⟩
      · rintro ⟨h1, h3, h2, h4, h5⟩; exact ⟨⟨h1, h2⟩, h3, h4, h5⟩
    rcases R with ⟨ok, rfl⟩ | ⟨no, rfl⟩
    · rw [if_pos (hC.1 ok)]
    · rw [if_neg (fun h => no (hC.2 h))]
  by_cases h1 : c.k = 1
  · refine go ⟨⟨#[]⟩, 1, 0, 0, 0, 0, 0, 0, 0, 0, 0, 0, 0, 0⟩ true true true true true _ (fun w => by rw [h1]; exact endOf_1 w) (fun w T => allows_tttt ⟨⟨#[]⟩, 1, 0, 0, 0, 0, 0, 0, 0, 0, 0, 0, 0, 0⟩ c _ w (Lib.hid h1.symm) rfl T) ?_
    by_cases hc : CutOk c
    · simp [KindOk, CalSame, h1, hc]; try omega
    · simp [KindOk, CalSame, h1, hc]; try omega
  by_cases h2 : c.k = 2
  · refine go ⟨⟨#[]⟩, 2, 0, 0, 0, 0, 0, 0, 0, 0, 0, 0, 0, 0⟩ true true true true true _ (fun w => by rw [h2]; exact endOf_2 w) (fun w T => allows_tttt ⟨⟨#[]⟩, 2, 0, 0, 0, 0, 0, 0, 0, 0, 0, 0, 0, 0⟩ c _ w (Lib.hid h2.symm) rfl T) ?_
    by_cases hc : CutOk c
    · simp [KindOk, CalSame, h2, hc]; try omega
    · simp [KindOk, CalSame, h2, hc]; try omega
  by_cases h3 : c.k = 3
  · refine go ⟨⟨#[]⟩, 3, 6, 1, 1, 1, 4, 5, 4, 0, 12, 0, 0, 0⟩ false false false false true _ (fun w => by rw [h3]; exact endOf_3 w) (fun w T => allows_ffff ⟨⟨#[]⟩, 3, 6, 1, 1, 1, 4, 5, 4, 0, 12, 0, 0, 0⟩ c _ w rfl T) ?_
    simp [KindOk, CalSame, h3]; try omega
  by_cases h4 : c.k = 4
  · refine go ⟨⟨#[]⟩, 4, 7, 12, 0, 4, 0, 0, 0, 0, 12, 0, 0, 0⟩ false false false false true _ (fun w => by rw [h4]; exact endOf_4 w) (fun w T => allows_ffff ⟨⟨#[]⟩, 4, 7, 12, 0, 4, 0, 0, 0, 0, 12, 0, 0, 0⟩ c _ w rfl T) ?_
    simp [KindOk, CalSame, h4]; try omega
  by_cases h5 : c.k = 5
  · refine go ⟨⟨#[]⟩, 5, 7, 12, 0, 0, 0, 0, 0, 0, 0, 0, 0, 0⟩ false false false true true _ (fun w => by rw [h5]; exact endOf_5 w) (fun w T => allows_ffft ⟨⟨#[]⟩, 5, 7, 12, 0, 0, 0, 0, 0, 0, 0, 0, 0, 0⟩ c _ w rfl T) ?_
    by_cases hc : CutOk c
    · simp [KindOk, CalSame, h5, hc]; try omega
    · simp [KindOk, CalSame, h5, hc]; try omega
  by_cases h6 : c.k = 6
  · refine go ⟨⟨#[]⟩, 6, 0, 0, 0, 5, 0, 0, 0, 0, 0, 0, 0, 0⟩ false true true false true _ (fun w => by rw [h6]; exact endOf_6 w) (fun w T => allows_fttf ⟨⟨#[]⟩, 6, 0, 0, 0, 5, 0, 0, 0, 0, 0, 0, 0, 0⟩ c _ w rfl T) ?_
    simp [KindOk, CalSame, h6]; try omega
  refine go ⟨⟨#[]⟩, 0, 0, 0, 0, 0, 0, 0, 0, 0, 0, 0, 0, 0⟩ false false false false false _ (fun w => endOf_no c.k h1 h2 h3 h4 h5 h6 w) (fun w T => allows_ffff ⟨⟨#[]⟩, 0, 0, 0, 0, 0, 0, 0, 0, 0, 0, 0, 0, 0⟩ c _ w rfl T) ?_
  simp only [Bool.false_and, KindOk]
  constructor
  · intro h; omega
  · intro h; cases h

end Go.Proofs.YtnjmokmlnpehdaaGreatDoor.Fp
