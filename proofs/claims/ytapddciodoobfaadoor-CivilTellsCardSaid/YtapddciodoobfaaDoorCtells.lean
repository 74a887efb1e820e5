/- CivilTells' walk: the program and the reference come to the same. -/
import Derived.Test.YtapddciodoobfaaDoorClive
import Derived.Deep.RegionHeld3
namespace Go.Proofs.YtapddciodoobfaaDoor.Cl
set_option linter.unusedSimpArgs false
set_option linter.unusedVariables false
open Go.RowKit Go.Proofs.YtapddciodoobfaaDoor.Bx Go.Proofs.YtapddciodoobfaaDoor.Cm Go.Proofs.YtapddciodoobfaaDoor.Cp Go.Proofs.YtapddciodoobfaaDoor.Cr

set_option maxHeartbeats 1000000

theorem tells_walk (a b y m d : Int) (w : World) (wa : (Lit.int .i64 a).wf = true) (wb : (Lit.int .i64 b).wf = true) (wy : (Lit.int .i64 y).wf = true) (wm : (Lit.int .i64 m).wf = true) (wd : (Lit.int .i64 d).wf = true) (tb : Tab w) :
    Calls Tryd.prog 4 #[.int .i64 a, .int .i64 b, .agg #[.int .i64 y, .int .i64 m, .int .i64 d]] w fun e w' => e = .returned (.bool true) ∧ Below w.heap.size w w' := by
  clear wa wb wy wm wd
  have cl := live_ok
  obtain ⟨v, e, r1⟩ := lenres_ex a b
  obtain ⟨c, r2⟩ := chkres_ex y m d
  obtain ⟨p, hp⟩ : ∃ p, p = leapB a := ⟨_, rfl⟩
  have cn := fun w => Length_b a b v e w r1
  have rn := fun w => rLength_b a b v e w r1
  have ck := fun w => Check_b y m d c w r2
  have rk := fun w => rCheck_any y m d c w r2
  have cp := fun w => Leap_b a p w hp
  have rp := fun w => rLeap_b a p w hp
  clear r1 r2 hp
  go_enter Tryd.func4, Tryd.ntmps4
  go_wp2_with fail
  refine (cl _ (by with_reducible first | exact tb.kept B1 | exact (tb.kept B1).alloc _ | exact ((tb.kept B1).alloc _).alloc _ | exact tb | exact tb.alloc _ | exact (tb.alloc _).alloc _ | exact tb.kept (bthen B1 (by first | assumption | exact Below.refl _ _ | exact (Below.refl _ _).drew)))).mono ?_
  rintro e w1 ⟨rfl, hb⟩
  have P1 := (Tri.new w (.int .i64 y) (.int .i64 m) (.int .i64 d) 23).kept hb
  have B1 := bthen (balloc (Below.refl _ w) _) hb
  try simp only [World.size_alloc] at P1
  clear hb
  obtain ⟨z0, c00, c01, c02, _, _, _⟩ := id P1
  go_wp2_with fail
  refine (cn _ (by with_reducible first | exact tb.kept B1 | exact (tb.kept B1).alloc _ | exact ((tb.kept B1).alloc _).alloc _ | exact tb | exact tb.alloc _ | exact (tb.alloc _).alloc _ | exact tb.kept (bthen B1 (by first | assumption | exact Below.refl _ _ | exact (Below.refl _ _).drew)))).mono ?_
  rintro e w2 ⟨rfl, hb⟩
  replace P1 := (P1).kept hb
  replace B1 := bthen (B1) hb
  clear hb z0 c00 c01 c02
  obtain ⟨z0, c00, c01, c02, _, _, _⟩ := id P1
  go_wp2_with fail
  refine (rn _).mono ?_
  rintro e w3 ⟨rfl, hb⟩
  replace P1 := (P1).kept hb
  replace B1 := bthen (B1) hb
  clear hb z0 c00 c01 c02
  obtain ⟨z0, c00, c01, c02, _, _, _⟩ := id P1
  have H := Lib.hid (fun (W : World) (h : Below w3.heap.size w3 W) => heldT P1 h)
  clear cl cn rn P1
  go_wp2
  go_region_held3 (fun w' => Below w3.heap.size w3 w' ∧ w'.cell? ⟨w.heap.size, 0, none⟩ = some (.int .i64 y) ∧ w'.cell? ⟨w.heap.size, 1, none⟩ = some (.int .i64 m) ∧ w'.cell? ⟨w.heap.size, 2, none⟩ = some (.int .i64 d))
    ((refine H.out _ ?_; first | (with_reducible assumption) | exact (Below.refl _ _).drew))
    (first
      | (go_at_call 19; (with_reducible refine (cp _ (by with_reducible first | exact tb.kept B1 | exact (tb.kept B1).alloc _ | exact ((tb.kept B1).alloc _).alloc _ | exact tb | exact tb.alloc _ | exact (tb.alloc _).alloc _ | exact tb.kept (bthen B1 (by first | assumption | exact Below.refl _ _ | exact (Below.refl _ _).drew)))).mono ?_); rintro e w20 ⟨rfl, hb⟩; have hB := bthen (w := w3) (by first | (with_reducible assumption) | (with_reducible exact Below.refl _ _) | exact (Below.refl _ _).drew) hb)
      | (go_at_call 20; (with_reducible refine (rp _).mono ?_); rintro e w20 ⟨rfl, hb⟩; have hB := bthen (w := w3) (by first | (with_reducible assumption) | (with_reducible exact Below.refl _ _) | exact (Below.refl _ _).drew) hb)
      | (go_at_call 21; (with_reducible refine (ck _ (by with_reducible first | exact tb.kept B1 | exact (tb.kept B1).alloc _ | exact ((tb.kept B1).alloc _).alloc _ | exact tb | exact tb.alloc _ | exact (tb.alloc _).alloc _ | exact tb.kept (bthen B1 (by first | assumption | exact Below.refl _ _ | exact (Below.refl _ _).drew)))).mono ?_); rintro e w20 ⟨rfl, hb⟩; have hB := bthen (w := w3) (by first | (with_reducible assumption) | (with_reducible exact Below.refl _ _) | exact (Below.refl _ _).drew) hb)
      | (go_at_call 22; (with_reducible refine (rk _).mono ?_); rintro e w20 ⟨rfl, hb⟩; have hB := bthen (w := w3) (by first | (with_reducible assumption) | (with_reducible exact Below.refl _ _) | exact (Below.refl _ _).drew) hb))
  all_goals go_wp2
  all_goals
    go_ret
    exact ⟨by simp, bthen B1 hB⟩

end Go.Proofs.YtapddciodoobfaaDoor.Cl
