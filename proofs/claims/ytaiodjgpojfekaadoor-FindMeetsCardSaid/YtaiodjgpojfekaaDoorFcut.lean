/- What rightCut of package field comes to. -/
import Derived.Test.YtaiodjgpojfekaaDoorFcode2
namespace Go.Proofs.YtaiodjgpojfekaaDoor.Fp
set_option linter.unusedSimpArgs false
set_option linter.unusedVariables false
open Go.RowKit Go.Proofs.YtaiodjgpojfekaaDoor.Bn Go.Proofs.YtaiodjgpojfekaaDoor.Cp Go.Proofs.YtaiodjgpojfekaaDoor.Am

set_option maxHeartbeats 1000000

theorem Cut_other (c : CalZ) (w : World) (h1 : c.sh ≠ 1) (h2 : c.sh ≠ 2) (h3 : c.sh ≠ 3) :
    Calls Tryd.prog 63 #[.agg #[.string c.nm, .int .i64 c.k, .int .i64 c.d, .int .i64 c.m, .int .i64 c.s, .int .i64 c.sh, .int .i64 c.p0, .int .i64 c.p1, .int .i64 c.p2, .int .i64 c.cy, .int .i64 c.ex, .int .i64 c.fi, .int .i64 c.la, .int .i64 c.po]] w fun e w' => e = .returned (.bool false) ∧ Below w.heap.size w w' := by
  have P := CalIn.new w c 24
  obtain ⟨nm, k, d, m, s, sh, p0, p1, p2, cy, ex, fi, la, po⟩ := c
  obtain ⟨_, c0, c1, c2, c3, c4, c5, c6, c7, c8, c9, c10, c11, c12, c13⟩ := P
  dsimp only at *
  go_enter Tryd.func63, Tryd.ntmps63
  go_wp2
  go_quiet (fail)
  go_wp2
  go_ret
  exact ⟨rfl, bdrewN (balloc (balloc (Below.refl _ w) _) _) _⟩

theorem Cut_four (c : CalZ) (r : Bool) (w : World) (h : c.sh = 2) (hr : r = (decide (c.p0 = 0 ∧ c.p1 = 0 ∧ c.p2 = 0) && (decide (c.cy = 0) && (decide (1 ≤ c.ex) && decide (c.ex ≤ 13))))) :
    Calls Tryd.prog 63 #[.agg #[.string c.nm, .int .i64 c.k, .int .i64 c.d, .int .i64 c.m, .int .i64 c.s, .int .i64 c.sh, .int .i64 c.p0, .int .i64 c.p1, .int .i64 c.p2, .int .i64 c.cy, .int .i64 c.ex, .int .i64 c.fi, .int .i64 c.la, .int .i64 c.po]] w fun e w' => e = .returned (.bool r) ∧ Below w.heap.size w w' := by
  have P := CalIn.new w c 24
  have cp := fun w => periods_any c 13 w (by unfold per; simp [h]) (by intro k; omega)
  have cw := fun w => within_any c.ex 1 13 _ w rfl
  have q := fun w => pat_eql c.p0 c.p1 c.p2 0 0 0 w
  obtain ⟨nm, k, d, m, s, sh, p0, p1, p2, cy, ex, fi, la, po⟩ := c
  dsimp only at *
  subst h
  by_cases hp : p0 = 0 ∧ p1 = 0 ∧ p2 = 0
  · obtain ⟨rfl, rfl, rfl⟩ := hp
    rw [decide_eq_true ⟨rfl, rfl, rfl⟩] at q hr
    by_cases hc : cy = 0
    · subst hc
      obtain ⟨rb, hrb⟩ : ∃ rb, (decide (1 ≤ ex) && decide (ex ≤ 13)) = rb := ⟨_, rfl⟩
      rw [hrb] at cw hr
      simp at hr
      subst hr
      clear hrb
      replace P := P.alloc (.cells #[.string ⟨#[]⟩, .int .i64 0, .int .i64 0, .int .i64 0, .int .i64 0, .int .i64 2, .int .i64 0, .int .i64 0, .int .i64 0, .int .i64 0, .int .i64 0, .int .i64 0, .int .i64 0, .int .i64 0] 24)
      have L := (Box.new (w.alloc (.cells #[.string nm, .int .i64 k, .int .i64 d, .int .i64 m, .int .i64 s, .int .i64 2, .int .i64 0, .int .i64 0, .int .i64 0, .int .i64 0, .int .i64 ex, .int .i64 fi, .int .i64 la, .int .i64 po] 24)) #[.string ⟨#[]⟩, .int .i64 0, .int .i64 0, .int .i64 0, .int .i64 0, .int .i64 2, .int .i64 0, .int .i64 0, .int .i64 0, .int .i64 0, .int .i64 0, .int .i64 0, .int .i64 0, .int .i64 0] 24)
      have B1 := balloc (balloc (Below.refl _ w) (.cells #[.string nm, .int .i64 k, .int .i64 d, .int .i64 m, .int .i64 s, .int .i64 2, .int .i64 0, .int .i64 0, .int .i64 0, .int .i64 0, .int .i64 ex, .int .i64 fi, .int .i64 la, .int .i64 po] 24)) (.cells #[.string ⟨#[]⟩, .int .i64 0, .int .i64 0, .int .i64 0, .int .i64 0, .int .i64 2, .int .i64 0, .int .i64 0, .int .i64 0, .int .i64 0, .int .i64 0, .int .i64 0, .int .i64 0, .int .i64 0] 24)
      simp only [World.size_alloc] at L
      go_enter Tryd.func63, Tryd.ntmps63
      go_wp2
      generalize (w.alloc (.cells #[.string nm, .int .i64 k, .int .i64 d, .int .i64 m, .int .i64 s, .int .i64 2, .int .i64 0, .int .i64 0, .int .i64 0, .int .i64 0, .int .i64 ex, .int .i64 fi, .int .i64 la, .int .i64 po] 24)).alloc (.cells #[.string ⟨#[]⟩, .int .i64 0, .int .i64 0, .int .i64 0, .int .i64 0, .int .i64 2, .int .i64 0, .int .i64 0, .int .i64 0, .int .i64 0, .int .i64 0, .int .i64 0, .int .i64 0, .int .i64 0] 24) = W1 at *
      have H := Lib.hid (fun (W : World) (h : Below W1.heap.size W1 W) => (⟨h, (P.kept h).c0, (P.kept h).c1, (P.kept h).c2, (P.kept h).c3, (P.kept h).c4, (P.kept h).c5, (P.kept h).c6, (P.kept h).c7, (P.kept h).c8, (P.kept h).c9, (P.kept h).c10, (P.kept h).c11, (P.kept h).c12, (P.kept h).c13,
        (L.kept h).cell 6 _ rfl, (L.kept h).cell 7 _ rfl, (L.kept h).cell 8 _ rfl, (L.kept h).cell 9 _ rfl⟩ : Below W1.heap.size W1 W ∧ W.cell? ⟨w.heap.size, 0, none⟩ = some (.string nm) ∧ W.cell? ⟨w.heap.size, 1, none⟩ = some (.int .i64 k) ∧ W.cell? ⟨w.heap.size, 2, none⟩ = some (.int .i64 d) ∧ W.cell? ⟨w.heap.size, 3, none⟩ = some (.int .i64 m) ∧ W.cell? ⟨w.heap.size, 4, none⟩ = some (.int .i64 s) ∧ W.cell? ⟨w.heap.size, 5, none⟩ = some (.int .i64 2) ∧ W.cell? ⟨w.heap.size, 6, none⟩ = some (.int .i64 0) ∧ W.cell? ⟨w.heap.size, 7, none⟩ = some (.int .i64 0) ∧ W.cell? ⟨w.heap.size, 8, none⟩ = some (.int .i64 0) ∧ W.cell? ⟨w.heap.size, 9, none⟩ = some (.int .i64 0) ∧ W.cell? ⟨w.heap.size, 10, none⟩ = some (.int .i64 ex) ∧ W.cell? ⟨w.heap.size, 11, none⟩ = some (.int .i64 fi) ∧ W.cell? ⟨w.heap.size, 12, none⟩ = some (.int .i64 la) ∧ W.cell? ⟨w.heap.size, 13, none⟩ = some (.int .i64 po) ∧ W.cell? ⟨w.heap.size + 1, 6, none⟩ = some (.int .i64 0) ∧ W.cell? ⟨w.heap.size + 1, 7, none⟩ = some (.int .i64 0) ∧ W.cell? ⟨w.heap.size + 1, 8, none⟩ = some (.int .i64 0) ∧ W.cell? ⟨w.heap.size + 1, 9, none⟩ = some (.int .i64 0)))
      obtain ⟨_, c0, c1, c2, c3, c4, c5, c6, c7, c8, c9, c10, c11, c12, c13⟩ := P
      have l6 := L.cell 6 _ rfl
      have l7 := L.cell 7 _ rfl
      have l8 := L.cell 8 _ rfl
      have l9 := L.cell 9 _ rfl
      clear L
      go_region_held3 (fun w' => Below W1.heap.size W1 w' ∧ w'.cell? ⟨w.heap.size, 0, none⟩ = some (.string nm) ∧ w'.cell? ⟨w.heap.size, 1, none⟩ = some (.int .i64 k) ∧ w'.cell? ⟨w.heap.size, 2, none⟩ = some (.int .i64 d) ∧ w'.cell? ⟨w.heap.size, 3, none⟩ = some (.int .i64 m) ∧ w'.cell? ⟨w.heap.size, 4, none⟩ = some (.int .i64 s) ∧ w'.cell? ⟨w.heap.size, 5, none⟩ = some (.int .i64 2) ∧ w'.cell? ⟨w.heap.size, 6, none⟩ = some (.int .i64 0) ∧ w'.cell? ⟨w.heap.size, 7, none⟩ = some (.int .i64 0) ∧ w'.cell? ⟨w.heap.size, 8, none⟩ = some (.int .i64 0) ∧ w'.cell? ⟨w.heap.size, 9, none⟩ = some (.int .i64 0) ∧ w'.cell? ⟨w.heap.size, 10, none⟩ = some (.int .i64 ex) ∧ w'.cell? ⟨w.heap.size, 11, none⟩ = some (.int .i64 fi) ∧ w'.cell? ⟨w.heap.size, 12, none⟩ = some (.int .i64 la) ∧ w'.cell? ⟨w.heap.size, 13, none⟩ = some (.int .i64 po) ∧ w'.cell? ⟨w.heap.size + 1, 6, none⟩ = some (.int .i64 0) ∧ w'.cell? ⟨w.heap.size + 1, 7, none⟩ = some (.int .i64 0) ∧ w'.cell? ⟨w.heap.size + 1, 8, none⟩ = some (.int .i64 0) ∧ w'.cell? ⟨w.heap.size + 1, 9, none⟩ = some (.int .i64 0))
        ((refine H.out _ ?_; first | (with_reducible assumption) | (with_reducible exact Below.refl _ _) | exact (Below.refl _ _).drew))
        (first
          | (go_at_call 91; (with_reducible refine (cp _).mono ?_); rintro e w4 ⟨rfl, hb⟩; have hB := bthen (w := W1) (by first | (with_reducible assumption) | (with_reducible exact Below.refl _ _) | exact (Below.refl _ _).drew) hb)
          | (go_at_call 62; (with_reducible refine (cw _).mono ?_); rintro e w5 ⟨rfl, rfl⟩))
      all_goals go_wp2
      all_goals
        go_ret
        exact ⟨rfl, bthen B1 hB⟩
    · have hd : (cy == 0) = false := beq_eq_false_iff_ne.2 hc
      simp [hc] at hr
      subst hr
      obtain ⟨_, c0, c1, c2, c3, c4, c5, c6, c7, c8, c9, c10, c11, c12, c13⟩ := P
      dsimp only at *
      clear hc
      go_enter Tryd.func63, Tryd.ntmps63
      go_wp2
      go_quiet (fail)
      go_wp2
      go_ret
      exact ⟨rfl, bdrewN (balloc (balloc (Below.refl _ w) _) _) _⟩
  · rw [decide_eq_false hp] at q hr
    simp at hr
    subst hr
    obtain ⟨_, c0, c1, c2, c3, c4, c5, c6, c7, c8, c9, c10, c11, c12, c13⟩ := P
    dsimp only at *
    clear hp
    go_enter Tryd.func63, Tryd.ntmps63
    go_wp2
    go_quiet (fail)
    go_wp2
    go_ret
    exact ⟨rfl, bdrewN (balloc (balloc (Below.refl _ w) _) _) _⟩

end Go.Proofs.YtaiodjgpojfekaaDoor.Fp
