/- StampParts' walk. -/
import Derived.Test.YtodpmdmfdnbehaaDoorTlive
import Derived.Test.YtodpmdmfdnbehaaDoorTdig
import Derived.Deep.RegionHeld3
namespace Go.Proofs.YtodpmdmfdnbehaaDoor.Tl
set_option linter.unusedSimpArgs false
set_option linter.unusedVariables false
open Go.RowKit Go.Proofs.YtodpmdmfdnbehaaDoor.Bx Go.Proofs.YtodpmdmfdnbehaaDoor.Cm Go.Proofs.YtodpmdmfdnbehaaDoor.Cp Go.Proofs.YtodpmdmfdnbehaaDoor.Em Go.Proofs.YtodpmdmfdnbehaaDoor.Ep Go.Proofs.YtodpmdmfdnbehaaDoor.Tm Go.Proofs.YtodpmdmfdnbehaaDoor.Tp

set_option maxHeartbeats 1000000

set_option maxRecDepth 100000 in
theorem parts_walk (y m d : Int) (w : World) (wy : (Lit.int .u16 y).wf = true) (wm : (Lit.int .u16 m).wf = true) (wd : (Lit.int .u16 d).wf = true) (tb : Tabs w) :
    Calls Tryd.prog 13 #[.int .u16 y, .int .u16 m, .int .u16 d] w fun e w' => e = .returned (.bool true) ∧ Below w.heap.size w w' := by
  have cl := tlive_ok
  have by' : 0 ≤ y ∧ y ≤ 65535 := bounds_u16 wy
  have bm : 0 ≤ m ∧ m ≤ 65535 := bounds_u16 wm
  have bd : 0 ≤ d ∧ d ≤ 65535 := bounds_u16 wd
  clear wy wm wd
  obtain ⟨y0, y1⟩ := by'
  obtain ⟨m0, m1⟩ := bm
  obtain ⟨d0, d1⟩ := bd
  have ty : y.tmod 10000 = y % 10000 := Int.tmod_eq_emod_of_nonneg y0
  have tm : m.tmod 100 = m % 100 := Int.tmod_eq_emod_of_nonneg m0
  have td : d.tmod 100 = d % 100 := Int.tmod_eq_emod_of_nonneg d0
  obtain ⟨Y, hY⟩ : ∃ Y, y % 10000 = Y := ⟨_, rfl⟩
  obtain ⟨M, hM⟩ : ∃ M, m % 100 = M := ⟨_, rfl⟩
  obtain ⟨D, hD⟩ : ∃ D, d % 100 = D := ⟨_, rfl⟩
  obtain ⟨X, hX⟩ : ∃ X, D % 10 = X := ⟨_, rfl⟩
  have Y0 : 0 ≤ Y := by omega
  have Y1 : Y ≤ 9999 := by omega
  have M0 : 0 ≤ M := by omega
  have M1 : M ≤ 99 := by omega
  have D0 : 0 ≤ D := by omega
  have D1 : D ≤ 99 := by omega
  have X0 : 0 ≤ X := by omega
  have X1 : X ≤ 9 := by omega
  obtain ⟨v, g, R⟩ := dayres_ex Y M D
  obtain ⟨u, f, Q⟩ := idayres_ex Y M X
  have cP : ∀ w, Tabs w → Calls Tryd.prog 33 #[.string (s4 Y ++ ⟨#[45]⟩ ++ s2 M ++ ⟨#[45]⟩ ++ s2 D)] w fun e w' => e = .returned (.tuple #[.int .i64 v, .int .i64 g]) ∧ Below w.heap.size w w' :=
    fun w T => by rw [dstr_is]; exact Parse_t _ v g w (by rw [dstr_size]; decide) (.inl ⟨Y, M, D, Y0, Y1, M0, M1, D0, D1, rfl, R⟩) T
  have cI : ∀ w, Tabs w → Calls Tryd.prog 37 #[.string (s4 Y ++ ⟨#[45, 87]⟩ ++ s2 M ++ ⟨#[45]⟩ ++ s1 X)] w fun e w' => e = .returned (.tuple #[.int .i64 u, .int .i64 f]) ∧ Below w.heap.size w w' :=
    fun w T => by rw [istr_is]; exact ParseIso_t _ u f w (by rw [istr_size]; decide) (.inl ⟨Y, M, X, Y0, Y1, M0, M1, X0, X1, rfl, Q⟩) T
  have cD := fun w (T : Tabs w) => Day_b Y M D v g w R T.tab
  have cW := fun w T => IDay_any Y M X u f w Q T
  have cy := fun w => ldig4 Y w Y0 Y1
  have cm := fun w => ldig2 M w M0 M1
  have cd := fun w => ldig2 D w D0 D1
  have cx := fun w => ldig1 X w X0 X1
  have z4 := s4_size Y
  have z2 := s2_size M
  have z3 := s2_size D
  have z1 := s1_size X
  generalize s4 Y = sy at *
  generalize s2 M = sm at *
  generalize s2 D = sd at *
  generalize s1 X = sx at *
  clear R Q
  go_enter Tryd.func13, Tryd.ntmps13
  go_wp2_with fail
  refine (cl _ tb).mono ?_
  rintro e w1 ⟨rfl, hb⟩
  have P := Tri.new w1 (.int .i64 Y) (.int .i64 M) (.int .i64 D) 38
  have B1 := balloc hb (.cells #[.int .i64 Y, .int .i64 M, .int .i64 D] 38)
  have T1 := (tb.kept hb).alloc (.cells #[.int .i64 Y, .int .i64 M, .int .i64 D] 38)
  obtain ⟨W, hW⟩ : ∃ W, w1.alloc (.cells #[.int .i64 Y, .int .i64 M, .int .i64 D] 38) = W := ⟨_, rfl⟩
  rw [hW] at P B1 T1
  clear hb cl tb
  have H := Lib.hid (fun (X : World) (h : Below W.heap.size W X) => heldT P h)
  go_wp2
  clear hW ty tm td hY hM hD
  have HX := Lib.hid hX
  clear hX
  go_region_held3 (fun w' => Below W.heap.size W w' ∧ w'.cell? ⟨w1.heap.size, 0, none⟩ = some (.int .i64 Y) ∧ w'.cell? ⟨w1.heap.size, 1, none⟩ = some (.int .i64 M) ∧ w'.cell? ⟨w1.heap.size, 2, none⟩ = some (.int .i64 D))
    ((refine H.out _ ?_; first | (with_reducible assumption) | exact (Below.refl _ _).drew))
    (first
      | (go_at_call 39; first
        | ((with_reducible refine (cy _).mono ?_); rintro e w20 ⟨rfl, hb⟩; have hB := bthen (w := W) (by first | (with_reducible assumption) | (with_reducible exact Below.refl _ _) | exact (Below.refl _ _).drew) hb)
        | ((with_reducible refine (cm _).mono ?_); rintro e w20 ⟨rfl, hb⟩; have hB := bthen (w := W) (by first | (with_reducible assumption) | (with_reducible exact Below.refl _ _) | exact (Below.refl _ _).drew) hb)
        | ((with_reducible refine (cd _).mono ?_); rintro e w20 ⟨rfl, hb⟩; have hB := bthen (w := W) (by first | (with_reducible assumption) | (with_reducible exact Below.refl _ _) | exact (Below.refl _ _).drew) hb))
      | (go_at_call 33; (with_reducible refine (cP _ (T1.kept (by first | (with_reducible assumption) | (with_reducible exact Below.refl _ _) | exact (Below.refl _ _).drew))).mono ?_); rintro e w20 ⟨rfl, hb⟩; have hB := bthen (w := W) (by first | (with_reducible assumption) | (with_reducible exact Below.refl _ _) | exact (Below.refl _ _).drew) hb))
  all_goals
    replace B1 := bthen B1 (by with_reducible assumption)
    have T2 := T1.kept (by with_reducible assumption)
    have P2 := P.kept (by with_reducible assumption)
    clear H T1 P
    obtain ⟨z, c0, c1, c2, _, _, _⟩ := id P2
    go_wp2_with fail
    refine (cD _ T2).mono ?_
    rintro e w30 ⟨rfl, hb2⟩
    replace P2 := P2.kept hb2
    replace B1 := bthen B1 hb2
    replace T2 := T2.kept hb2
    clear hb2 z c0 c1 c2
    obtain ⟨z, c0, c1, c2, _, _, _⟩ := id P2
    have tX : D.tmod 10 = D % 10 := Int.tmod_eq_emod_of_nonneg D0
    have hX := HX.out
    have P := Tri.new w30 (.int .i64 Y) (.int .i64 M) (.int .i64 X) 23
    have B2 := balloc B1 (.cells #[.int .i64 Y, .int .i64 M, .int .i64 X] 23)
    have T1 := T2.alloc (.cells #[.int .i64 Y, .int .i64 M, .int .i64 X] 23)
    obtain ⟨V, hV⟩ : ∃ V, w30.alloc (.cells #[.int .i64 Y, .int .i64 M, .int .i64 X] 23) = V := ⟨_, rfl⟩
    rw [hV] at P B2 T1
    have H := Lib.hid (fun (X : World) (h : Below V.heap.size V X) => heldT P h)
    clear B1 T2
    go_wp2
    clear hV tX hX z c0 c1 c2
    go_region_held3 (fun w' => Below V.heap.size V w' ∧ w'.cell? ⟨w30.heap.size, 0, none⟩ = some (.int .i64 Y) ∧ w'.cell? ⟨w30.heap.size, 1, none⟩ = some (.int .i64 M) ∧ w'.cell? ⟨w30.heap.size, 2, none⟩ = some (.int .i64 X))
      ((refine H.out _ ?_; first | (with_reducible assumption) | exact (Below.refl _ _).drew))
      (first
        | (go_at_call 39; first
          | ((with_reducible refine (cy _).mono ?_); rintro e w20 ⟨rfl, hb⟩; have hB := bthen (w := V) (by first | (with_reducible assumption) | (with_reducible exact Below.refl _ _) | exact (Below.refl _ _).drew) hb)
          | ((with_reducible refine (cm _).mono ?_); rintro e w20 ⟨rfl, hb⟩; have hB := bthen (w := V) (by first | (with_reducible assumption) | (with_reducible exact Below.refl _ _) | exact (Below.refl _ _).drew) hb)
          | ((with_reducible refine (cx _).mono ?_); rintro e w20 ⟨rfl, hb⟩; have hB := bthen (w := V) (by first | (with_reducible assumption) | (with_reducible exact Below.refl _ _) | exact (Below.refl _ _).drew) hb))
        | (go_at_call 37; (with_reducible refine (cI _ (T1.kept (by first | (with_reducible assumption) | (with_reducible exact Below.refl _ _) | exact (Below.refl _ _).drew))).mono ?_); rintro e w20 ⟨rfl, hb⟩; have hB := bthen (w := V) (by first | (with_reducible assumption) | (with_reducible exact Below.refl _ _) | exact (Below.refl _ _).drew) hb))
  all_goals
    replace B2 := bthen B2 (by with_reducible assumption)
    have T2 := T1.kept (by with_reducible assumption)
    have P2 := P.kept (by with_reducible assumption)
    clear H T1 P
    obtain ⟨z, c0, c1, c2, _, _, _⟩ := id P2
    go_wp2_with fail
    refine (cW _ T2.tab).mono ?_
    rintro e w40 ⟨rfl, hb2⟩
    replace B2 := bthen B2 hb2
    clear hb2 z c0 c1 c2
    go_wp2
    go_ret
    exact ⟨by simp, B2⟩

end Go.Proofs.YtodpmdmfdnbehaaDoor.Tl
