/- What Make, Add, Sub, Mul, Div, Cmp, Floor and Ceil of the reference of layer 3 come to. -/
import Derived.Test.YtmngbhkokglmjaaKlow
import Derived.Test.YtmngbhkokglmjaaKmath
import Derived.Test.YtmngbhkokglmjaaRmul
import Derived.Test.YtmngbhkokglmjaaRneg
import Derived.Test.YtmngbhkokglmjaaRadd
import Derived.Test.YtmngbhkokglmjaaRcompare
import Derived.Deep.RegionHeld3
import Derived.Deep.DeepCutAuto
namespace Go.Proofs.Ytmngbhkokglmjaa.Kc
open Go.RowKit Go.Proofs.Ytmngbhkokglmjaa.Vm Go.Proofs.Ytmngbhkokglmjaa.Vc Go.Proofs.Ytmngbhkokglmjaa.Pr Go.Proofs.Ytmngbhkokglmjaa.Qm

set_option maxHeartbeats 1000000

theorem rAdd_op (a b c d N D er : Int) (w : World) (fa : Fit1 a) (fb : Fit1 b) (fc : Fit1 c) (fd : Fit1 d) (R : OpRes a b c d (a * d + c * b) (b * d) N D er) :
    Calls Try.prog 13 #[.agg #[.int .i64 a, .int .i64 b], .agg #[.int .i64 c, .int .i64 d]] w fun e w' =>
      e = .returned (.tuple #[.agg #[.int .i64 N, .int .i64 D], .int .i64 er]) ∧ Below w.heap.size w w' := by
  rcases R with ⟨h1, h2, R⟩ | ⟨h, rfl, rfl, rfl⟩
  case inr =>
    have m0 := fun w => may_no a b c d w fa fb fc fd h
    clear h fa fb fc fd
    go_enter Try.func13, Try.ntmps13
    go_wp2_with fail
    refine (m0 _).mono ?_
    rintro e w1 ⟨rfl, hb⟩
    have P1 := (((Two.new w (.int .i64 a) (.int .i64 b) 23).alloc (.cells #[.int .i64 c, .int .i64 d] 23)).alloc (.cells #[.int .i64 0, .int .i64 0] 23)).kept hb
    have P2 := ((Two.new (w.alloc (.cells #[.int .i64 a, .int .i64 b] 23)) (.int .i64 c) (.int .i64 d) 23).alloc (.cells #[.int .i64 0, .int .i64 0] 23)).kept hb
    have P3 := (Two.new ((w.alloc (.cells #[.int .i64 a, .int .i64 b] 23)).alloc (.cells #[.int .i64 c, .int .i64 d] 23)) (.int .i64 0) (.int .i64 0) 23).kept hb
    have B1 := bthen (balloc (balloc (balloc (Below.refl _ w) _) _) _) hb
    simp only [World.size_alloc] at P1 P2 P3
    clear hb
    obtain ⟨z, c0, c1, f0, f1⟩ := id P3
    go_wp2
    refine bodyPost_ret (v := .tuple #[.agg #[.int .i64 0, .int .i64 0], .int .i64 1]) (by simp [results, Try.results13, go_sem, c0, c1]) rfl ⟨rfl, ?_⟩
    exact bset (bset B1 (by omega) _ _) (by omega) _ _
  obtain ⟨u1, l1, e1, b1⟩ := words_ex (x := a * d) (by have := prod_fits fa fd; unfold Fits; omega)
  obtain ⟨u2, l2, e2, b2⟩ := words_ex (x := c * b) (by have := prod_fits fc fb; unfold Fits; omega)
  have fs : Fits (a * d + c * b) := by
    have s1 := Qm.prod_small (b := d) fa (by have := h2.1; omega) fd.2
    have s2 := Qm.prod_small (b := b) fc (by have := h1.1; omega) fb.2
    unfold Fits; omega
  obtain ⟨u3, l3, e3, b3⟩ := words_ex fs
  have m1 := fun w => may_yes a b c d w fa fb fc fd h1 h2
  have cm1 := fun w => Vr.rMul_to a d u1 l1 w fa fd b1 e1
  have cm2 := fun w => Vr.rMul_to c b u2 l2 w fc fb b2 e2
  have ca := fun w => Vr.rAdd_any u1 l1 u2 l2 u3 l3 0 w b1 b2 (.inl ⟨rfl, by rw [e1, e2, e3], b3⟩)
  have kl := fun w => klow_any u3 l3 b d N D er w b3 fb fd h1.1 h2.1 (by rw [e3]; exact R)
  clear R h1 h2 e1 e2 e3 b1 b2 b3 fs fa fb fc fd
  go_enter Try.func13, Try.ntmps13
  go_wp2_with fail
  refine (m1 _).mono ?_
  rintro e w1 ⟨rfl, hb⟩
  have P1 := (((Two.new w (.int .i64 a) (.int .i64 b) 23).alloc (.cells #[.int .i64 c, .int .i64 d] 23)).alloc (.cells #[.int .i64 0, .int .i64 0] 23)).kept hb
  have P2 := ((Two.new (w.alloc (.cells #[.int .i64 a, .int .i64 b] 23)) (.int .i64 c) (.int .i64 d) 23).alloc (.cells #[.int .i64 0, .int .i64 0] 23)).kept hb
  have P3 := (Two.new ((w.alloc (.cells #[.int .i64 a, .int .i64 b] 23)).alloc (.cells #[.int .i64 c, .int .i64 d] 23)) (.int .i64 0) (.int .i64 0) 23).kept hb
  have B1 := bthen (balloc (balloc (balloc (Below.refl _ w) _) _) _) hb
  simp only [World.size_alloc] at P1 P2 P3
  clear hb
  obtain ⟨y1, p10, p11, _, _⟩ := id P1
  obtain ⟨y2, p20, p21, _, _⟩ := id P2
  have H := Lib.hid (fun (W : World) (h : Below w1.heap.size w1 W) => held2 P1 P2 h)
  go_upto_region 4 with fail
  go_cut [7] (fun s wx => Mid w1 (.int .i64 u3) (.int .u64 l3) s wx)
  case first =>
    go_region_held3 (fun w' => Below w1.heap.size w1 w' ∧ w'.cell? ⟨w.heap.size, 0, none⟩ = some (.int .i64 a) ∧ w'.cell? ⟨w.heap.size, 1, none⟩ = some (.int .i64 b) ∧ w'.cell? ⟨w.heap.size + 1, 0, none⟩ = some (.int .i64 c) ∧ w'.cell? ⟨w.heap.size + 1, 1, none⟩ = some (.int .i64 d))
      ((refine H.out _ ?_; repeat (first | (with_reducible assumption) | (with_reducible exact Below.refl _ _) | (with_reducible refine Below.drew ?_) | (with_reducible refine balloc ?_ _) | ((with_reducible refine Below.setCell ?_ ?_ _); rotate_left; first | omega | (simp <;> omega)))))
      (first
        | (go_at_call 37; first
            | ((with_reducible refine (cm1 _).mono ?_); rintro e w2 ⟨rfl, hb⟩; have hB := bthen (w := w1) (by repeat (first | (with_reducible assumption) | (with_reducible exact Below.refl _ _) | (with_reducible refine Below.drew ?_) | (with_reducible refine bdrewN ?_ _) | (with_reducible refine balloc ?_ _))) hb; have hz := hB.size; (first | (have K := Two.kept (by with_reducible assumption) hb) | (have K := Two.kept (by with_reducible exact Two.new _ _ _ _) hb) | (have K := Two.kept (by with_reducible exact (Two.new _ _ _ _).drew) hb) | skip); (try simp only [World.size_alloc, World.heap_drewN, World.size_drew] at K); (try obtain ⟨kz, kc0, kc1, kf0, kf1⟩ := id K))
            | ((with_reducible refine (cm2 _).mono ?_); rintro e w2 ⟨rfl, hb⟩; have hB := bthen (w := w1) (by repeat (first | (with_reducible assumption) | (with_reducible exact Below.refl _ _) | (with_reducible refine Below.drew ?_) | (with_reducible refine bdrewN ?_ _) | (with_reducible refine balloc ?_ _))) hb; have hz := hB.size; (first | (have K := Two.kept (by with_reducible assumption) hb) | (have K := Two.kept (by with_reducible exact Two.new _ _ _ _) hb) | (have K := Two.kept (by with_reducible exact (Two.new _ _ _ _).drew) hb) | skip); (try simp only [World.size_alloc, World.heap_drewN, World.size_drew] at K); (try obtain ⟨kz, kc0, kc1, kf0, kf1⟩ := id K)))
        | (go_at_call 44; (with_reducible refine (ca _).mono ?_); rintro e w2 ⟨rfl, hb⟩; have hB := bthen (w := w1) (by repeat (first | (with_reducible assumption) | (with_reducible exact Below.refl _ _) | (with_reducible refine Below.drew ?_) | (with_reducible refine bdrewN ?_ _) | (with_reducible refine balloc ?_ _))) hb; have hz := hB.size; (first | (have K := Two.kept (by with_reducible assumption) hb) | (have K := Two.kept (by with_reducible exact Two.new _ _ _ _) hb) | (have K := Two.kept (by with_reducible exact (Two.new _ _ _ _).drew) hb) | skip); (try simp only [World.size_alloc, World.heap_drewN, World.size_drew] at K); (try obtain ⟨kz, kc0, kc1, kf0, kf1⟩ := id K)))
    all_goals go_wp2_with fail
    all_goals go_meet
    all_goals
      first
        | ((with_reducible refine mid_set K hB ?_); first | omega | (simp <;> omega))
        | (with_reducible exact mid_new hB)
  case rest =>
    obtain ⟨g, rfl, hg, P4, hB⟩ := hcut
    replace P1 := P1.kept hB
    replace P2 := P2.kept hB
    replace P3 := P3.kept hB
    replace B1 := bthen B1 hB
    clear y1 p10 p11 y2 p20 p21 H hB cm1 cm2 ca
    obtain ⟨y1, p10, p11, _, _⟩ := id P1
    obtain ⟨y2, p20, p21, _, _⟩ := id P2
    obtain ⟨y4, p40, p41, _, _⟩ := id P4
    go_wp2_with fail
    refine (kl _).mono ?_
    rintro e w5 ⟨rfl, hb⟩
    replace P3 := P3.kept hb
    replace B1 := bthen B1 hb
    clear y1 p10 p11 y2 p20 p21 y4 p40 p41 hb P1 P2 P4 kl
    obtain ⟨z, c0, c1, f0, f1⟩ := id P3
    go_wp2
    refine bodyPost_ret (v := .tuple #[.agg #[.int .i64 N, .int .i64 D], .int .i64 er]) (by simp [results, Try.results13, go_sem, c0, c1]) rfl ⟨rfl, ?_⟩
    exact bset (bset B1 (by omega) _ _) (by omega) _ _

theorem rSub_op (a b c d N D er : Int) (w : World) (fa : Fit1 a) (fb : Fit1 b) (fc : Fit1 c) (fd : Fit1 d) (R : OpRes a b c d (a * d - c * b) (b * d) N D er) :
    Calls Try.prog 15 #[.agg #[.int .i64 a, .int .i64 b], .agg #[.int .i64 c, .int .i64 d]] w fun e w' =>
      e = .returned (.tuple #[.agg #[.int .i64 N, .int .i64 D], .int .i64 er]) ∧ Below w.heap.size w w' := by
  rcases R with ⟨h1, h2, R⟩ | ⟨h, rfl, rfl, rfl⟩
  case inr =>
    have m0 := fun w => may_no a b c d w fa fb fc fd h
    clear h fa fb fc fd
    go_enter Try.func15, Try.ntmps15
    go_wp2_with fail
    refine (m0 _).mono ?_
    rintro e w1 ⟨rfl, hb⟩
    have P1 := (((Two.new w (.int .i64 a) (.int .i64 b) 23).alloc (.cells #[.int .i64 c, .int .i64 d] 23)).alloc (.cells #[.int .i64 0, .int .i64 0] 23)).kept hb
    have P2 := ((Two.new (w.alloc (.cells #[.int .i64 a, .int .i64 b] 23)) (.int .i64 c) (.int .i64 d) 23).alloc (.cells #[.int .i64 0, .int .i64 0] 23)).kept hb
    have P3 := (Two.new ((w.alloc (.cells #[.int .i64 a, .int .i64 b] 23)).alloc (.cells #[.int .i64 c, .int .i64 d] 23)) (.int .i64 0) (.int .i64 0) 23).kept hb
    have B1 := bthen (balloc (balloc (balloc (Below.refl _ w) _) _) _) hb
    simp only [World.size_alloc] at P1 P2 P3
    clear hb
    obtain ⟨z, c0, c1, f0, f1⟩ := id P3
    go_wp2
    refine bodyPost_ret (v := .tuple #[.agg #[.int .i64 0, .int .i64 0], .int .i64 1]) (by simp [results, Try.results15, go_sem, c0, c1]) rfl ⟨rfl, ?_⟩
    exact bset (bset B1 (by omega) _ _) (by omega) _ _
  obtain ⟨u1, l1, e1, b1⟩ := words_ex (x := a * d) (by have := prod_fits fa fd; unfold Fits; omega)
  obtain ⟨u2, l2, e2, b2⟩ := words_ex (x := c * b) (by have := prod_fits fc fb; unfold Fits; omega)
  have fs : Fits (a * d - c * b) := by
    have s1 := Qm.prod_small (b := d) fa (by have := h2.1; omega) fd.2
    have s2 := Qm.prod_small (b := b) fc (by have := h1.1; omega) fb.2
    unfold Fits; omega
  obtain ⟨u3, l3, e3, b3⟩ := words_ex fs
  obtain ⟨u4, l4, e4, b4⟩ := words_ex (x := -(c * b)) (by have := prod_fits fc fb; unfold Fits; omega)
  have m1 := fun w => may_yes a b c d w fa fb fc fd h1 h2
  have cm1 := fun w => Vr.rMul_to a d u1 l1 w fa fd b1 e1
  have cm2 := fun w => Vr.rMul_to c b u2 l2 w fc fb b2 e2
  have cn := fun w => Vr.rNeg_any u2 l2 u4 l4 0 w b2 (.inl ⟨rfl, by rw [e4, e2], b4⟩)
  have ca := fun w => Vr.rAdd_any u1 l1 u4 l4 u3 l3 0 w b1 b4 (.inl ⟨rfl, by rw [e1, e4, e3]; omega, b3⟩)
  have kl := fun w => klow_any u3 l3 b d N D er w b3 fb fd h1.1 h2.1 (by rw [e3]; exact R)
  clear R h1 h2 e1 e2 e3 e4 b1 b2 b3 b4 fs fa fb fc fd
  go_enter Try.func15, Try.ntmps15
  go_wp2_with fail
  refine (m1 _).mono ?_
  rintro e w1 ⟨rfl, hb⟩
  have P1 := (((Two.new w (.int .i64 a) (.int .i64 b) 23).alloc (.cells #[.int .i64 c, .int .i64 d] 23)).alloc (.cells #[.int .i64 0, .int .i64 0] 23)).kept hb
  have P2 := ((Two.new (w.alloc (.cells #[.int .i64 a, .int .i64 b] 23)) (.int .i64 c) (.int .i64 d) 23).alloc (.cells #[.int .i64 0, .int .i64 0] 23)).kept hb
  have P3 := (Two.new ((w.alloc (.cells #[.int .i64 a, .int .i64 b] 23)).alloc (.cells #[.int .i64 c, .int .i64 d] 23)) (.int .i64 0) (.int .i64 0) 23).kept hb
  have B1 := bthen (balloc (balloc (balloc (Below.refl _ w) _) _) _) hb
  simp only [World.size_alloc] at P1 P2 P3
  clear hb
  obtain ⟨y1, p10, p11, _, _⟩ := id P1
  obtain ⟨y2, p20, p21, _, _⟩ := id P2
  go_wp2_with fail
  refine (cm2 _).mono ?_
  rintro e w2 ⟨rfl, hb⟩
  replace P1 := P1.kept hb
  replace P2 := P2.kept hb
  replace P3 := P3.kept hb
  replace B1 := bthen B1 hb
  clear hb y1 p10 p11 y2 p20 p21 cm2
  go_wp2_with fail
  refine (cn _).mono ?_
  rintro e w3 ⟨rfl, hb⟩
  replace P1 := (P1.kept hb).alloc (.cells #[.int .i64 u4, .int .u64 l4] 40)
  replace P2 := (P2.kept hb).alloc (.cells #[.int .i64 u4, .int .u64 l4] 40)
  replace P3 := (P3.kept hb).alloc (.cells #[.int .i64 u4, .int .u64 l4] 40)
  have P4 := Two.new w3 (.int .i64 u4) (.int .u64 l4) 40
  replace B1 := balloc (bthen B1 hb) (.cells #[.int .i64 u4, .int .u64 l4] 40)
  clear hb cn
  go_upto_region 5 with fail
  generalize w3.alloc (.cells #[.int .i64 u4, .int .u64 l4] 40) = W0 at *
  generalize w3.heap.size = g4 at *
  obtain ⟨y1, p10, p11, _, _⟩ := id P1
  obtain ⟨y2, p20, p21, _, _⟩ := id P2
  obtain ⟨y4, p40, p41, _, _⟩ := id P4
  have H := Lib.hid (fun (W : World) (h : Below W0.heap.size W0 W) => held3 P1 P2 P4 h)
  go_cut [9] (fun s wx => Mid W0 (.int .i64 u3) (.int .u64 l3) s wx)
  case first =>
    go_region_held3 (fun w' => Below W0.heap.size W0 w' ∧ w'.cell? ⟨w.heap.size, 0, none⟩ = some (.int .i64 a) ∧ w'.cell? ⟨w.heap.size, 1, none⟩ = some (.int .i64 b) ∧ w'.cell? ⟨w.heap.size + 1, 0, none⟩ = some (.int .i64 c) ∧ w'.cell? ⟨w.heap.size + 1, 1, none⟩ = some (.int .i64 d) ∧ w'.cell? ⟨g4, 0, none⟩ = some (.int .i64 u4) ∧ w'.cell? ⟨g4, 1, none⟩ = some (.int .u64 l4))
      ((refine H.out _ ?_; repeat (first | (with_reducible assumption) | (with_reducible exact Below.refl _ _) | (with_reducible refine Below.drew ?_) | (with_reducible refine balloc ?_ _) | ((with_reducible refine Below.setCell ?_ ?_ _); rotate_left; first | omega | (simp <;> omega)))))
      (first
        | (go_at_call 37; (with_reducible refine (cm1 _).mono ?_); rintro e w2 ⟨rfl, hb⟩; have hB := bthen (w := W0) (by repeat (first | (with_reducible assumption) | (with_reducible exact Below.refl _ _) | (with_reducible refine Below.drew ?_) | (with_reducible refine bdrewN ?_ _) | (with_reducible refine balloc ?_ _))) hb; have hz := hB.size; (first | (have K := Two.kept (by with_reducible assumption) hb) | (have K := Two.kept (by with_reducible exact Two.new _ _ _ _) hb) | (have K := Two.kept (by with_reducible exact (Two.new _ _ _ _).drew) hb) | skip); (try simp only [World.size_alloc, World.heap_drewN, World.size_drew] at K); (try obtain ⟨kz, kc0, kc1, kf0, kf1⟩ := id K))
        | (go_at_call 44; (with_reducible refine (ca _).mono ?_); rintro e w2 ⟨rfl, hb⟩; have hB := bthen (w := W0) (by repeat (first | (with_reducible assumption) | (with_reducible exact Below.refl _ _) | (with_reducible refine Below.drew ?_) | (with_reducible refine bdrewN ?_ _) | (with_reducible refine balloc ?_ _))) hb; have hz := hB.size; (first | (have K := Two.kept (by with_reducible assumption) hb) | (have K := Two.kept (by with_reducible exact Two.new _ _ _ _) hb) | (have K := Two.kept (by with_reducible exact (Two.new _ _ _ _).drew) hb) | skip); (try simp only [World.size_alloc, World.heap_drewN, World.size_drew] at K); (try obtain ⟨kz, kc0, kc1, kf0, kf1⟩ := id K)))
    all_goals go_wp2_with fail
    all_goals go_meet
    all_goals
      first
        | ((with_reducible refine mid_set K hB ?_); first | omega | (simp <;> omega))
        | (with_reducible exact mid_new hB)
  case rest =>
    obtain ⟨g, rfl, hg, P5, hB⟩ := hcut
    replace P1 := P1.kept hB
    replace P2 := P2.kept hB
    replace P3 := P3.kept hB
    replace B1 := bthen B1 hB
    clear y1 p10 p11 y2 p20 p21 y4 p40 p41 H hB cm1 ca P4
    obtain ⟨y1, p10, p11, _, _⟩ := id P1
    obtain ⟨y2, p20, p21, _, _⟩ := id P2
    obtain ⟨y4, p40, p41, _, _⟩ := id P5
    go_wp2_with fail
    refine (kl _).mono ?_
    rintro e w5 ⟨rfl, hb⟩
    replace P3 := P3.kept hb
    replace B1 := bthen B1 hb
    clear y1 p10 p11 y2 p20 p21 y4 p40 p41 hb P1 P2 P5 kl
    obtain ⟨z, c0, c1, f0, f1⟩ := id P3
    go_wp2
    refine bodyPost_ret (v := .tuple #[.agg #[.int .i64 N, .int .i64 D], .int .i64 er]) (by simp [results, Try.results15, go_sem, c0, c1]) rfl ⟨rfl, ?_⟩
    exact bset (bset B1 (by omega) _ _) (by omega) _ _

/-- two boxes that are read, a third one that is written, and what became of the world -/
structure Trio (w W : World) (a b c d : Int) : Prop where
  below : Below w.heap.size w W
  a : Two W w.heap.size (.int .i64 a) (.int .i64 b)
  b : Two W (w.heap.size + 1) (.int .i64 c) (.int .i64 d)
section
variable {w W w1 : World} {a b c d : Int}
theorem Trio.kept {R : Prop} (x : Trio w W a b c d ∧ R) (hb : Below W.heap.size W w1) : Trio w w1 a b c d := ⟨bthen x.1.below hb, x.1.a.kept hb, x.1.b.kept hb⟩
theorem Trio.drew (x : Trio w W a b c d) : Trio w W.drew a b c d := ⟨x.below.drew, x.a.drew, x.b.drew⟩
theorem Trio.set {R : Prop} {v : Value} {n : Nat} (x : Trio w W a b c d ∧ R) : Trio w (W.setCell ⟨w.heap.size + 1 + 1, n, none⟩ v) a b c d ∧ True :=
  ⟨⟨bset x.1.below (by omega) _ _, x.1.a.other _ _ (by omega), x.1.b.other _ _ (by omega)⟩, trivial⟩
theorem Trio.opened (x : Trio w W a b c d) : Trio w W a b c d ∧ W.cell? ⟨w.heap.size, 0, none⟩ = some (.int .i64 a) ∧ W.cell? ⟨w.heap.size, 1, none⟩ = some (.int .i64 b) ∧ W.cell? ⟨w.heap.size + 1, 0, none⟩ = some (.int .i64 c) ∧ W.cell? ⟨w.heap.size + 1, 1, none⟩ = some (.int .i64 d) :=
  ⟨x, x.a.c0, x.a.c1, x.b.c0, x.b.c1⟩
end

theorem rMul_op (a b c d N D er : Int) (w : World) (fa : Fit1 a) (fb : Fit1 b) (fc : Fit1 c) (fd : Fit1 d) (R : OpRes a b c d (a * c) (b * d) N D er) :
    Calls Try.prog 17 #[.agg #[.int .i64 a, .int .i64 b], .agg #[.int .i64 c, .int .i64 d]] w fun e w' =>
      e = .returned (.tuple #[.agg #[.int .i64 N, .int .i64 D], .int .i64 er]) ∧ Below w.heap.size w w' := by
  rcases R with ⟨h1, h2, R⟩ | ⟨h, rfl, rfl, rfl⟩
  case inr =>
    have m0 := fun w => may_no a b c d w fa fb fc fd h
    clear h fa fb fc fd
    go_enter Try.func17, Try.ntmps17
    go_wp2_with fail
    refine (m0 _).mono ?_
    rintro e w1 ⟨rfl, hb⟩
    have P1 := (((Two.new w (.int .i64 a) (.int .i64 b) 23).alloc (.cells #[.int .i64 c, .int .i64 d] 23)).alloc (.cells #[.int .i64 0, .int .i64 0] 23)).kept hb
    have P2 := ((Two.new (w.alloc (.cells #[.int .i64 a, .int .i64 b] 23)) (.int .i64 c) (.int .i64 d) 23).alloc (.cells #[.int .i64 0, .int .i64 0] 23)).kept hb
    have P3 := (Two.new ((w.alloc (.cells #[.int .i64 a, .int .i64 b] 23)).alloc (.cells #[.int .i64 c, .int .i64 d] 23)) (.int .i64 0) (.int .i64 0) 23).kept hb
    have B1 := bthen (balloc (balloc (balloc (Below.refl _ w) _) _) _) hb
    simp only [World.size_alloc] at P1 P2 P3
    clear hb
    obtain ⟨z, c0, c1, f0, f1⟩ := id P3
    go_wp2
    refine bodyPost_ret (v := .tuple #[.agg #[.int .i64 0, .int .i64 0], .int .i64 1]) (by simp [results, Try.results17, go_sem, c0, c1]) rfl ⟨rfl, ?_⟩
    exact bset (bset B1 (by omega) _ _) (by omega) _ _
  obtain ⟨u3, l3, e3, b3⟩ := words_ex (x := a * c) (by have := prod_fits fa fc; unfold Fits; omega)
  have m1 := fun w => may_yes a b c d w fa fb fc fd h1 h2
  have cm := fun w => Vr.rMul_to a c u3 l3 w fa fc b3 e3
  have kl := fun w => klow_any u3 l3 b d N D er w b3 fb fd h1.1 h2.1 (by rw [e3]; exact R)
  clear R h1 h2 e3 b3 fa fb fc fd
  go_enter Try.func17, Try.ntmps17
  go_wp2_with fail
  refine (m1 _).mono ?_
  rintro e w1 ⟨rfl, hb⟩
  have P1 := (((Two.new w (.int .i64 a) (.int .i64 b) 23).alloc (.cells #[.int .i64 c, .int .i64 d] 23)).alloc (.cells #[.int .i64 0, .int .i64 0] 23)).kept hb
  have P2 := ((Two.new (w.alloc (.cells #[.int .i64 a, .int .i64 b] 23)) (.int .i64 c) (.int .i64 d) 23).alloc (.cells #[.int .i64 0, .int .i64 0] 23)).kept hb
  have P3 := (Two.new ((w.alloc (.cells #[.int .i64 a, .int .i64 b] 23)).alloc (.cells #[.int .i64 c, .int .i64 d] 23)) (.int .i64 0) (.int .i64 0) 23).kept hb
  have B1 := bthen (balloc (balloc (balloc (Below.refl _ w) _) _) _) hb
  simp only [World.size_alloc] at P1 P2 P3
  clear hb
  have X : Trio w w1 a b c d := ⟨B1, P1, P2⟩
  clear P1 P2 B1
  obtain ⟨kz, kc0, kc1, kf0, kf1⟩ := id P3
  go_wp2
  go_region_held3 (fun w' => Trio w w' a b c d ∧ w'.cell? ⟨w.heap.size, 0, none⟩ = some (.int .i64 a) ∧ w'.cell? ⟨w.heap.size, 1, none⟩ = some (.int .i64 b) ∧ w'.cell? ⟨w.heap.size + 1, 0, none⟩ = some (.int .i64 c) ∧ w'.cell? ⟨w.heap.size + 1, 1, none⟩ = some (.int .i64 d))
    (first | exact X.drew.opened | exact X2.opened | exact (Trio.set (Trio.set (by with_reducible assumption))).1.opened)
    (first
      | (go_at_call 37; (with_reducible refine (cm _).mono ?_); rintro e w4 ⟨rfl, hb⟩; have X2 := Trio.kept (by first | (with_reducible assumption) | exact ⟨X.drew, trivial⟩) hb; have K := Two.kept (by first | (with_reducible assumption) | exact P3.drew) hb; obtain ⟨kz, kc0, kc1, kf0, kf1⟩ := id K)
      | (go_at_call 45; (with_reducible refine (kl _).mono ?_); rintro e w4 ⟨rfl, hb⟩; have X2 := Trio.kept (by first | (with_reducible assumption) | exact ⟨X.drew, trivial⟩) hb; have K := Two.kept (by first | (with_reducible assumption) | exact P3.drew) hb; obtain ⟨kz, kc0, kc1, kf0, kf1⟩ := id K))
  go_wp2
  refine bodyPost_ret (v := .tuple #[.agg #[.int .i64 N, .int .i64 D], .int .i64 er]) (by simp [results, Try.results17, go_sem, kc0, kc1]) rfl ⟨rfl, ?_⟩
  exact bset (bset X2.below (by omega) _ _) (by omega) _ _

theorem rDiv_op (a b c d N D er : Int) (w : World) (fa : Fit1 a) (fb : Fit1 b) (fc : Fit1 c) (fd : Fit1 d) (R : DivRes2 a b c d N D er) :
    Calls Try.prog 19 #[.agg #[.int .i64 a, .int .i64 b], .agg #[.int .i64 c, .int .i64 d]] w fun e w' =>
      e = .returned (.tuple #[.agg #[.int .i64 N, .int .i64 D], .int .i64 er]) ∧ Below w.heap.size w w' := by
  rcases R with ⟨h1, h2, R⟩ | ⟨h, rfl, rfl, rfl⟩
  case inr =>
    have m0 := fun w => may_no a b c d w fa fb fc fd h
    clear h fa fb fc fd
    go_enter Try.func19, Try.ntmps19
    go_wp2_with fail
    refine (m0 _).mono ?_
    rintro e w1 ⟨rfl, hb⟩
    have P1 := (((Two.new w (.int .i64 a) (.int .i64 b) 23).alloc (.cells #[.int .i64 c, .int .i64 d] 23)).alloc (.cells #[.int .i64 0, .int .i64 0] 23)).kept hb
    have P2 := ((Two.new (w.alloc (.cells #[.int .i64 a, .int .i64 b] 23)) (.int .i64 c) (.int .i64 d) 23).alloc (.cells #[.int .i64 0, .int .i64 0] 23)).kept hb
    have P3 := (Two.new ((w.alloc (.cells #[.int .i64 a, .int .i64 b] 23)).alloc (.cells #[.int .i64 c, .int .i64 d] 23)) (.int .i64 0) (.int .i64 0) 23).kept hb
    have B1 := bthen (balloc (balloc (balloc (Below.refl _ w) _) _) _) hb
    simp only [World.size_alloc] at P1 P2 P3
    clear hb
    obtain ⟨z, c0, c1, f0, f1⟩ := id P3
    go_wp2
    refine bodyPost_ret (v := .tuple #[.agg #[.int .i64 0, .int .i64 0], .int .i64 1]) (by simp [results, Try.results19, go_sem, c0, c1]) rfl ⟨rfl, ?_⟩
    exact bset (bset B1 (by omega) _ _) (by omega) _ _
  by_cases c0 : c = 0
  · have R' : N = 0 ∧ D = 0 ∧ er = 3 := by
      rcases R with ⟨_, r⟩ | ⟨h, _⟩
      · exact r
      · exact absurd (by rw [c0]; exact Int.mul_zero b) h
    obtain ⟨rfl, rfl, rfl⟩ := R'
    have m1 := fun w => may_yes a b c d w fa fb fc fd h1 h2
    have dc : (c == 0) = true := beq_iff_eq.2 c0
    clear R h1 h2 fa fb fc fd c0
    go_enter Try.func19, Try.ntmps19
    go_wp2_with fail
    refine (m1 _).mono ?_
    rintro e w1 ⟨rfl, hb⟩
    have P1 := (((Two.new w (.int .i64 a) (.int .i64 b) 23).alloc (.cells #[.int .i64 c, .int .i64 d] 23)).alloc (.cells #[.int .i64 0, .int .i64 0] 23)).kept hb
    have P2 := ((Two.new (w.alloc (.cells #[.int .i64 a, .int .i64 b] 23)) (.int .i64 c) (.int .i64 d) 23).alloc (.cells #[.int .i64 0, .int .i64 0] 23)).kept hb
    have P3 := (Two.new ((w.alloc (.cells #[.int .i64 a, .int .i64 b] 23)).alloc (.cells #[.int .i64 c, .int .i64 d] 23)) (.int .i64 0) (.int .i64 0) 23).kept hb
    have B1 := bthen (balloc (balloc (balloc (Below.refl _ w) _) _) _) hb
    simp only [World.size_alloc] at P1 P2 P3
    clear hb
    obtain ⟨y2, p20, p21, _, _⟩ := id P2
    obtain ⟨z, c0, c1, f0, f1⟩ := id P3
    go_wp2
    refine bodyPost_ret (v := .tuple #[.agg #[.int .i64 0, .int .i64 0], .int .i64 3]) (by simp [results, Try.results19, go_sem, c0, c1]) rfl ⟨rfl, ?_⟩
    exact bset (bset B1 (by omega) _ _) (by omega) _ _
  have R' : Rat1 (a * d) (b * c) N D er := by
    rcases R with ⟨h, _⟩ | ⟨_, r⟩
    · exact absurd h (Int.mul_ne_zero (by have := h1.1; omega) c0)
    · exact r
  have dc : (c == 0) = false := beq_eq_false_iff_ne.2 c0
  have m1 := fun w => may_yes a b c d w fa fb fc fd h1 h2
  obtain ⟨u3, l3, e3, b3⟩ := words_ex (x := a * d) (by have := prod_fits fa fd; unfold Fits; omega)
  have cm := fun w => Vr.rMul_to a d u3 l3 w fa fd b3 e3
  by_cases cp : 0 < c
  · have kl := fun w => klow_any u3 l3 b c N D er w b3 fb fc h1.1 cp (by rw [e3]; exact R')
    clear R R' h1 h2 e3 b3 fa fb fc fd c0
    go_enter Try.func19, Try.ntmps19
    go_wp2_with fail
    refine (m1 _).mono ?_
    rintro e w1 ⟨rfl, hb⟩
    have P1 := (((Two.new w (.int .i64 a) (.int .i64 b) 23).alloc (.cells #[.int .i64 c, .int .i64 d] 23)).alloc (.cells #[.int .i64 0, .int .i64 0] 23)).kept hb
    have P2 := ((Two.new (w.alloc (.cells #[.int .i64 a, .int .i64 b] 23)) (.int .i64 c) (.int .i64 d) 23).alloc (.cells #[.int .i64 0, .int .i64 0] 23)).kept hb
    have P3 := (Two.new ((w.alloc (.cells #[.int .i64 a, .int .i64 b] 23)).alloc (.cells #[.int .i64 c, .int .i64 d] 23)) (.int .i64 0) (.int .i64 0) 23).kept hb
    have B1 := bthen (balloc (balloc (balloc (Below.refl _ w) _) _) _) hb
    simp only [World.size_alloc] at P1 P2 P3
    clear hb
    obtain ⟨y1, p10, p11, _, _⟩ := id P1
    obtain ⟨y2, p20, p21, _, _⟩ := id P2
    go_wp2_with fail
    refine (cm _).mono ?_
    rintro e w2 ⟨rfl, hb⟩
    replace P1 := (P1).kept hb
    replace P2 := (P2).kept hb
    replace P3 := (P3).kept hb
    replace B1 := bthen (B1) hb
    clear hb y1 p10 p11 y2 p20 p21 cm
    replace P1 := P1.alloc (.cells #[.int .i64 u3, .int .u64 l3] 40)
    replace P2 := P2.alloc (.cells #[.int .i64 u3, .int .u64 l3] 40)
    replace P3 := P3.alloc (.cells #[.int .i64 u3, .int .u64 l3] 40)
    have P4 := (Two.new w2 (.int .i64 u3) (.int .u64 l3) 40)
    replace B1 := balloc B1 (.cells #[.int .i64 u3, .int .u64 l3] 40)
    obtain ⟨y1, p10, p11, _, _⟩ := id P1
    obtain ⟨y2, p20, p21, _, _⟩ := id P2
    obtain ⟨y4, p40, p41, i40, i41⟩ := id P4
    go_wp2_with fail
    generalize w2.alloc (.cells #[.int .i64 u3, .int .u64 l3] 40) = W0 at *
    refine (kl _).mono ?_
    rintro e w5 ⟨rfl, hb⟩
    replace P3 := P3.kept hb
    replace B1 := bthen B1 hb
    clear hb y1 p10 p11 y2 p20 p21 y4 p40 p41 i40 i41 P1 P2 P4 kl
    obtain ⟨z, c0, c1, f0, f1⟩ := id P3
    go_wp2
    refine bodyPost_ret (v := .tuple #[.agg #[.int .i64 N, .int .i64 D], .int .i64 er]) (by simp [results, Try.results19, go_sem, c0, c1]) rfl ⟨rfl, ?_⟩
    exact bset (bset B1 (by omega) _ _) (by omega) _ _
  obtain ⟨u4, l4, e4, b4⟩ := words_ex (x := -(a * d)) (by have := prod_fits fa fd; unfold Fits; omega)
  have cn := fun w => Vr.rNeg_any u3 l3 u4 l4 0 w b3 (.inl ⟨rfl, by rw [e4, e3], b4⟩)
  have dp : decide (0 < c) = false := decide_eq_false cp
  by_cases cl : c = -9223372036854775808
  · have dl : decide (-9223372036854775808 < c) = false := decide_eq_false (by omega)
    obtain ⟨t, ht⟩ : ∃ t, -(a * d) = t := ⟨_, rfl⟩
    obtain ⟨u5, l5, e5, b5⟩ := words_ex (quot_fits (x := num u4 l4) (c := 2) (bd_fits b4) (by omega))
    have dv := fun w => Vr.rDiv_any u4 l4 2 u5 l5 (t % 2) 0 w b4 (by unfold Fit1; omega) (.inr (.inr ⟨by omega, rfl, b5, by rw [e5, e4, ht]; omega, by omega, by omega⟩))
    by_cases ev : t % 2 = 0
    · have kl := fun w => klow_any u5 l5 b 4611686018427387904 N D er w b5 fb (by unfold Fit1; omega) h1.1 (by omega) (by
        rw [e5, e4, ht]
        refine rat1_same (Int.mul_ne_zero (by have := h1.1; omega) c0) (Int.mul_ne_zero (by have := h1.1; omega) (by omega)) ?_ R'
        have h2 : t = 2 * (t / 2) := by omega
        have h3 : a * d = -(2 * (t / 2)) := by omega
        rw [h3, cl]
        generalize t / 2 = s
        rw [Int.mul_neg, Int.mul_neg, Int.neg_mul]
        congr 1
        have : (9223372036854775808 : Int) = 2 * 4611686018427387904 := by decide
        rw [this]; ac_rfl)
      rw [ev] at dv
      clear R R' h1 h2 e3 b3 e4 b4 e5 b5 fa fb fc fd c0 cp cl ht ev
      go_enter Try.func19, Try.ntmps19
      go_wp2_with fail
      refine (m1 _).mono ?_
      rintro e w1 ⟨rfl, hb⟩
      have P1 := (((Two.new w (.int .i64 a) (.int .i64 b) 23).alloc (.cells #[.int .i64 c, .int .i64 d] 23)).alloc (.cells #[.int .i64 0, .int .i64 0] 23)).kept hb
      have P2 := ((Two.new (w.alloc (.cells #[.int .i64 a, .int .i64 b] 23)) (.int .i64 c) (.int .i64 d) 23).alloc (.cells #[.int .i64 0, .int .i64 0] 23)).kept hb
      have P3 := (Two.new ((w.alloc (.cells #[.int .i64 a, .int .i64 b] 23)).alloc (.cells #[.int .i64 c, .int .i64 d] 23)) (.int .i64 0) (.int .i64 0) 23).kept hb
      have B1 := bthen (balloc (balloc (balloc (Below.refl _ w) _) _) _) hb
      simp only [World.size_alloc] at P1 P2 P3
      clear hb
      obtain ⟨y1, p10, p11, _, _⟩ := id P1
      obtain ⟨y2, p20, p21, _, _⟩ := id P2
      go_wp2_with fail
      refine (cm _).mono ?_
      rintro e w2 ⟨rfl, hb⟩
      replace P1 := (P1).kept hb
      replace P2 := (P2).kept hb
      replace P3 := (P3).kept hb
      replace B1 := bthen (B1) hb
      clear hb y1 p10 p11 y2 p20 p21 cm
      have hg := P3.lt
      have n1 : ¬ w.heap.size = w2.heap.size := by omega
      have n2 : ¬ w.heap.size + 1 = w2.heap.size := by omega
      have n3 : ¬ w.heap.size + 1 + 1 = w2.heap.size := by omega
      have n4 : ¬ w2.heap.size = w.heap.size := by omega
      have n5 : ¬ w2.heap.size = w.heap.size + 1 := by omega
      have n6 : ¬ w2.heap.size = w.heap.size + 1 + 1 := by omega
      have hs : w.heap.size ≤ w2.heap.size := by omega
      replace P1 := P1.alloc (.cells #[.int .i64 u3, .int .u64 l3] 40)
      replace P2 := P2.alloc (.cells #[.int .i64 u3, .int .u64 l3] 40)
      replace P3 := P3.alloc (.cells #[.int .i64 u3, .int .u64 l3] 40)
      have P4 := (Two.new w2 (.int .i64 u3) (.int .u64 l3) 40)
      replace B1 := balloc B1 (.cells #[.int .i64 u3, .int .u64 l3] 40)
      obtain ⟨y1, p10, p11, _, _⟩ := id P1
      obtain ⟨y2, p20, p21, _, _⟩ := id P2
      obtain ⟨y4, p40, p41, i40, i41⟩ := id P4
      go_wp2_with fail
      generalize hW0 : w2.alloc (.cells #[.int .i64 u3, .int .u64 l3] 40) = W0 at *
      generalize w2.heap.size = g4 at *
      refine (cn _).mono ?_
      rintro e w3 ⟨rfl, hb⟩
      replace P1 := P1.kept hb
      replace P2 := P2.kept hb
      replace P3 := P3.kept hb
      replace P4 := P4.kept hb
      replace B1 := bthen B1 hb
      clear hb y1 p10 p11 y2 p20 p21 y4 p40 p41 i40 i41 cn hW0
      obtain ⟨y1, p10, p11, _, _⟩ := id P1
      obtain ⟨y2, p20, p21, _, _⟩ := id P2
      obtain ⟨y4, p40, p41, i40, i41⟩ := id P4
      go_wp2_with fail
      replace P1 := (P1.other (g := g4) 0 (.int .i64 u4) n1).other (g := g4) 1 (.int .u64 l4) n1
      replace P2 := (P2.other (g := g4) 0 (.int .i64 u4) n2).other (g := g4) 1 (.int .u64 l4) n2
      replace P3 := (P3.other (g := g4) 0 (.int .i64 u4) n3).other (g := g4) 1 (.int .u64 l4) n3
      replace P4 := (P4.set0 (.int .i64 u4)).set1 (.int .u64 l4)
      replace B1 := bset (bset B1 hs 0 (.int .i64 u4)) hs 1 (.int .u64 l4)
      generalize (w3.setCell ⟨g4, 0, none⟩ (.int .i64 u4)).setCell ⟨g4, 1, none⟩ (.int .u64 l4) = W3 at *
      clear y1 p10 p11 y2 p20 p21 y4 p40 p41 i40 i41
      refine (dv _).mono ?_
      rintro e w5 ⟨rfl, hb⟩
      replace P1 := (P1.kept hb).alloc (.cells #[.int .i64 u5, .int .u64 l5] 40)
      replace P3 := (P3.kept hb).alloc (.cells #[.int .i64 u5, .int .u64 l5] 40)
      have P5 := Two.new w5 (.int .i64 u5) (.int .u64 l5) 40
      replace B1 := balloc (bthen B1 hb) (.cells #[.int .i64 u5, .int .u64 l5] 40)
      clear hb P2 P4 dv
      obtain ⟨y1, p10, p11, _, _⟩ := id P1
      obtain ⟨y4, p40, p41, _, _⟩ := id P5
      go_wp2_with fail
      generalize w5.alloc (.cells #[.int .i64 u5, .int .u64 l5] 40) = W5 at *
      refine (kl _).mono ?_
      rintro e w6 ⟨rfl, hb⟩
      replace P3 := P3.kept hb
      replace B1 := bthen B1 hb
      clear hb y1 p10 p11 y4 p40 p41 P1 P5 kl n1 n2 n3 n4 n5 n6
      obtain ⟨z, c0, c1, f0, f1⟩ := id P3
      go_wp2
      refine bodyPost_ret (v := .tuple #[.agg #[.int .i64 N, .int .i64 D], .int .i64 er]) (by simp [results, Try.results19, go_sem, c0, c1]) rfl ⟨rfl, ?_⟩
      exact bset (bset B1 (by omega) _ _) (by omega) _ _
    · have O : N = 0 ∧ D = 0 ∧ er = 2 := odd_over (n := t) h1.1 (by omega) (by rw [cl] at R'; rw [← ht, Int.neg_neg]; exact R')
      obtain ⟨rfl, rfl, rfl⟩ := O
      obtain ⟨r, hr⟩ : ∃ r, t % 2 = r := ⟨_, rfl⟩
      rw [hr] at dv ev
      have dr : (r != 0) = true := bne_iff_ne.2 ev
      clear R R' h1 h2 e3 b3 e4 b4 e5 b5 fa fb fc fd c0 cp cl ht ev hr
      go_enter Try.func19, Try.ntmps19
      go_wp2_with fail
      refine (m1 _).mono ?_
      rintro e w1 ⟨rfl, hb⟩
      have P1 := (((Two.new w (.int .i64 a) (.int .i64 b) 23).alloc (.cells #[.int .i64 c, .int .i64 d] 23)).alloc (.cells #[.int .i64 0, .int .i64 0] 23)).kept hb
      have P2 := ((Two.new (w.alloc (.cells #[.int .i64 a, .int .i64 b] 23)) (.int .i64 c) (.int .i64 d) 23).alloc (.cells #[.int .i64 0, .int .i64 0] 23)).kept hb
      have P3 := (Two.new ((w.alloc (.cells #[.int .i64 a, .int .i64 b] 23)).alloc (.cells #[.int .i64 c, .int .i64 d] 23)) (.int .i64 0) (.int .i64 0) 23).kept hb
      have B1 := bthen (balloc (balloc (balloc (Below.refl _ w) _) _) _) hb
      simp only [World.size_alloc] at P1 P2 P3
      clear hb
      obtain ⟨y1, p10, p11, _, _⟩ := id P1
      obtain ⟨y2, p20, p21, _, _⟩ := id P2
      go_wp2_with fail
      refine (cm _).mono ?_
      rintro e w2 ⟨rfl, hb⟩
      replace P1 := (P1).kept hb
      replace P2 := (P2).kept hb
      replace P3 := (P3).kept hb
      replace B1 := bthen (B1) hb
      clear hb y1 p10 p11 y2 p20 p21 cm
      have hg := P3.lt
      have n1 : ¬ w.heap.size = w2.heap.size := by omega
      have n2 : ¬ w.heap.size + 1 = w2.heap.size := by omega
      have n3 : ¬ w.heap.size + 1 + 1 = w2.heap.size := by omega
      have n4 : ¬ w2.heap.size = w.heap.size := by omega
      have n5 : ¬ w2.heap.size = w.heap.size + 1 := by omega
      have n6 : ¬ w2.heap.size = w.heap.size + 1 + 1 := by omega
      have hs : w.heap.size ≤ w2.heap.size := by omega
      replace P1 := P1.alloc (.cells #[.int .i64 u3, .int .u64 l3] 40)
      replace P2 := P2.alloc (.cells #[.int .i64 u3, .int .u64 l3] 40)
      replace P3 := P3.alloc (.cells #[.int .i64 u3, .int .u64 l3] 40)
      have P4 := (Two.new w2 (.int .i64 u3) (.int .u64 l3) 40)
      replace B1 := balloc B1 (.cells #[.int .i64 u3, .int .u64 l3] 40)
      obtain ⟨y1, p10, p11, _, _⟩ := id P1
      obtain ⟨y2, p20, p21, _, _⟩ := id P2
      obtain ⟨y4, p40, p41, i40, i41⟩ := id P4
      go_wp2_with fail
      generalize hW0 : w2.alloc (.cells #[.int .i64 u3, .int .u64 l3] 40) = W0 at *
      generalize w2.heap.size = g4 at *
      refine (cn _).mono ?_
      rintro e w3 ⟨rfl, hb⟩
      replace P1 := P1.kept hb
      replace P2 := P2.kept hb
      replace P3 := P3.kept hb
      replace P4 := P4.kept hb
      replace B1 := bthen B1 hb
      clear hb y1 p10 p11 y2 p20 p21 y4 p40 p41 i40 i41 cn hW0
      obtain ⟨y1, p10, p11, _, _⟩ := id P1
      obtain ⟨y2, p20, p21, _, _⟩ := id P2
      obtain ⟨y4, p40, p41, i40, i41⟩ := id P4
      go_wp2_with fail
      replace P1 := (P1.other (g := g4) 0 (.int .i64 u4) n1).other (g := g4) 1 (.int .u64 l4) n1
      replace P2 := (P2.other (g := g4) 0 (.int .i64 u4) n2).other (g := g4) 1 (.int .u64 l4) n2
      replace P3 := (P3.other (g := g4) 0 (.int .i64 u4) n3).other (g := g4) 1 (.int .u64 l4) n3
      replace P4 := (P4.set0 (.int .i64 u4)).set1 (.int .u64 l4)
      replace B1 := bset (bset B1 hs 0 (.int .i64 u4)) hs 1 (.int .u64 l4)
      generalize (w3.setCell ⟨g4, 0, none⟩ (.int .i64 u4)).setCell ⟨g4, 1, none⟩ (.int .u64 l4) = W3 at *
      clear y1 p10 p11 y2 p20 p21 y4 p40 p41 i40 i41
      refine (dv _).mono ?_
      rintro e w5 ⟨rfl, hb⟩
      replace P3 := (P3.kept hb).alloc (.cells #[.int .i64 u5, .int .u64 l5] 40)
      replace B1 := balloc (bthen B1 hb) (.cells #[.int .i64 u5, .int .u64 l5] 40)
      clear hb P1 P2 P4 dv n1 n2 n3 n4 n5 n6
      obtain ⟨z, c0, c1, f0, f1⟩ := id P3
      go_wp2
      refine bodyPost_ret (v := .tuple #[.agg #[.int .i64 0, .int .i64 0], .int .i64 2]) (by simp [results, Try.results19, go_sem, c0, c1]) rfl ⟨rfl, ?_⟩
      exact bset (bset B1 (by omega) _ _) (by omega) _ _
  · have c1 : -9223372036854775807 ≤ c := by unfold Fit1 at fc; omega
    have c2 : c < 0 := by omega
    have kl := fun w => klow_any u4 l4 b (-c) N D er w b4 fb (by unfold Fit1; omega) h1.1 (by omega) (by rw [e4]; exact rat1_same (Int.mul_ne_zero (by have := h1.1; omega) c0) (Int.mul_ne_zero (by have := h1.1; omega) (by omega)) (by rw [Int.mul_neg, Int.mul_neg, Int.neg_mul]) R')
    have dl : decide (-9223372036854775808 < c) = true := decide_eq_true (by omega)
    clear R R' h1 h2 e3 b3 e4 b4 fa fb fc fd c0 cp cl
    go_enter Try.func19, Try.ntmps19
    go_wp2_with fail
    refine (m1 _).mono ?_
    rintro e w1 ⟨rfl, hb⟩
    have P1 := (((Two.new w (.int .i64 a) (.int .i64 b) 23).alloc (.cells #[.int .i64 c, .int .i64 d] 23)).alloc (.cells #[.int .i64 0, .int .i64 0] 23)).kept hb
    have P2 := ((Two.new (w.alloc (.cells #[.int .i64 a, .int .i64 b] 23)) (.int .i64 c) (.int .i64 d) 23).alloc (.cells #[.int .i64 0, .int .i64 0] 23)).kept hb
    have P3 := (Two.new ((w.alloc (.cells #[.int .i64 a, .int .i64 b] 23)).alloc (.cells #[.int .i64 c, .int .i64 d] 23)) (.int .i64 0) (.int .i64 0) 23).kept hb
    have B1 := bthen (balloc (balloc (balloc (Below.refl _ w) _) _) _) hb
    simp only [World.size_alloc] at P1 P2 P3
    clear hb
    obtain ⟨y1, p10, p11, _, _⟩ := id P1
    obtain ⟨y2, p20, p21, _, _⟩ := id P2
    go_wp2_with fail
    refine (cm _).mono ?_
    rintro e w2 ⟨rfl, hb⟩
    replace P1 := (P1).kept hb
    replace P2 := (P2).kept hb
    replace P3 := (P3).kept hb
    replace B1 := bthen (B1) hb
    clear hb y1 p10 p11 y2 p20 p21 cm
    have hg := P3.lt
    have n1 : ¬ w.heap.size = w2.heap.size := by omega
    have n2 : ¬ w.heap.size + 1 = w2.heap.size := by omega
    have n3 : ¬ w.heap.size + 1 + 1 = w2.heap.size := by omega
    have n4 : ¬ w2.heap.size = w.heap.size := by omega
    have n5 : ¬ w2.heap.size = w.heap.size + 1 := by omega
    have n6 : ¬ w2.heap.size = w.heap.size + 1 + 1 := by omega
    have hs : w.heap.size ≤ w2.heap.size := by omega
    replace P1 := P1.alloc (.cells #[.int .i64 u3, .int .u64 l3] 40)
    replace P2 := P2.alloc (.cells #[.int .i64 u3, .int .u64 l3] 40)
    replace P3 := P3.alloc (.cells #[.int .i64 u3, .int .u64 l3] 40)
    have P4 := (Two.new w2 (.int .i64 u3) (.int .u64 l3) 40)
    replace B1 := balloc B1 (.cells #[.int .i64 u3, .int .u64 l3] 40)
    obtain ⟨y1, p10, p11, _, _⟩ := id P1
    obtain ⟨y2, p20, p21, _, _⟩ := id P2
    obtain ⟨y4, p40, p41, i40, i41⟩ := id P4
    go_wp2_with fail
    generalize hW0 : w2.alloc (.cells #[.int .i64 u3, .int .u64 l3] 40) = W0 at *
    generalize w2.heap.size = g4 at *
    refine (cn _).mono ?_
    rintro e w3 ⟨rfl, hb⟩
    replace P1 := P1.kept hb
    replace P2 := P2.kept hb
    replace P3 := P3.kept hb
    replace P4 := P4.kept hb
    replace B1 := bthen B1 hb
    clear hb y1 p10 p11 y2 p20 p21 y4 p40 p41 i40 i41 cn hW0
    obtain ⟨y1, p10, p11, _, _⟩ := id P1
    obtain ⟨y2, p20, p21, _, _⟩ := id P2
    obtain ⟨y4, p40, p41, i40, i41⟩ := id P4
    go_wp2_with fail
    replace P1 := (P1.other (g := g4) 0 (.int .i64 u4) n1).other (g := g4) 1 (.int .u64 l4) n1
    replace P2 := (P2.other (g := g4) 0 (.int .i64 u4) n2).other (g := g4) 1 (.int .u64 l4) n2
    replace P3 := (P3.other (g := g4) 0 (.int .i64 u4) n3).other (g := g4) 1 (.int .u64 l4) n3
    replace P4 := (P4.set0 (.int .i64 u4)).set1 (.int .u64 l4)
    replace B1 := bset (bset B1 hs 0 (.int .i64 u4)) hs 1 (.int .u64 l4)
    generalize (w3.setCell ⟨g4, 0, none⟩ (.int .i64 u4)).setCell ⟨g4, 1, none⟩ (.int .u64 l4) = W3 at *
    clear y1 p10 p11 y2 p20 p21 y4 p40 p41 i40 i41
    refine (kl _).mono ?_
    rintro e w5 ⟨rfl, hb⟩
    replace P3 := P3.kept hb
    replace B1 := bthen B1 hb
    clear hb P1 P2 P4 kl n1 n2 n3 n4 n5 n6
    obtain ⟨z, c0, c1, f0, f1⟩ := id P3
    go_wp2
    refine bodyPost_ret (v := .tuple #[.agg #[.int .i64 N, .int .i64 D], .int .i64 er]) (by simp [results, Try.results19, go_sem, c0, c1]) rfl ⟨rfl, ?_⟩
    exact bset (bset B1 (by omega) _ _) (by omega) _ _

theorem rCmp_op (a b c d v er : Int) (w : World) (fa : Fit1 a) (fb : Fit1 b) (fc : Fit1 c) (fd : Fit1 d) (R : CmpRes a b c d v er) :
    Calls Try.prog 23 #[.agg #[.int .i64 a, .int .i64 b], .agg #[.int .i64 c, .int .i64 d]] w fun e w' => e = .returned (.tuple #[.int .i64 v, .int .i64 er]) ∧ Below w.heap.size w w' := by
  rcases R with ⟨h1, h2, R, rfl⟩ | ⟨h, rfl, rfl⟩
  case inr =>
    have m0 := fun w => may_no a b c d w fa fb fc fd h
    clear h fa fb fc fd
    go_enter Try.func23, Try.ntmps23
    go_wp2_with fail
    refine (m0 _).mono ?_
    rintro e w1 ⟨rfl, hb⟩
    have P1 := ((Two.new w (.int .i64 a) (.int .i64 b) 23).alloc (.cells #[.int .i64 c, .int .i64 d] 23)).kept hb
    have P2 := (Two.new (w.alloc (.cells #[.int .i64 a, .int .i64 b] 23)) (.int .i64 c) (.int .i64 d) 23).kept hb
    have B1 := bthen (balloc (balloc (Below.refl _ w) _) _) hb
    simp only [World.size_alloc] at P1 P2
    clear hb
    go_wp2
    go_ret2
    exact ⟨rfl, B1⟩
  obtain ⟨u1, l1, e1, b1⟩ := words_ex (x := a * d) (by have := prod_fits fa fd; unfold Fits; omega)
  obtain ⟨u2, l2, e2, b2⟩ := words_ex (x := c * b) (by have := prod_fits fc fb; unfold Fits; omega)
  have m1 := fun w => may_yes a b c d w fa fb fc fd h1 h2
  have cm1 := fun w => Vr.rMul_to a d u1 l1 w fa fd b1 e1
  have cm2 := fun w => Vr.rMul_to c b u2 l2 w fc fb b2 e2
  have cc := fun w => Vr.rCmp_to u1 l1 u2 l2 v w b1 b2 (Lib.hid (by rw [e1, e2, R]))
  clear R h1 h2 e1 e2 b1 b2 fa fb fc fd
  go_enter Try.func23, Try.ntmps23
  go_wp2_with fail
  refine (m1 _).mono ?_
  rintro e w1 ⟨rfl, hb⟩
  have P1 := ((Two.new w (.int .i64 a) (.int .i64 b) 23).alloc (.cells #[.int .i64 c, .int .i64 d] 23)).kept hb
  have P2 := (Two.new (w.alloc (.cells #[.int .i64 a, .int .i64 b] 23)) (.int .i64 c) (.int .i64 d) 23).kept hb
  have B1 := bthen (balloc (balloc (Below.refl _ w) _) _) hb
  simp only [World.size_alloc] at P1 P2
  clear hb
  obtain ⟨y1, p10, p11, _, _⟩ := id P1
  obtain ⟨y2, p20, p21, _, _⟩ := id P2
  have H := Lib.hid (fun (W : World) (h : Below w1.heap.size w1 W) => held2 P1 P2 h)
  clear P1 P2
  go_wp2
  go_region_held3 (fun w' => Below w1.heap.size w1 w' ∧ w'.cell? ⟨w.heap.size, 0, none⟩ = some (.int .i64 a) ∧ w'.cell? ⟨w.heap.size, 1, none⟩ = some (.int .i64 b) ∧ w'.cell? ⟨w.heap.size + 1, 0, none⟩ = some (.int .i64 c) ∧ w'.cell? ⟨w.heap.size + 1, 1, none⟩ = some (.int .i64 d))
    ((refine H.out _ ?_; first | (with_reducible assumption) | exact (Below.refl _ _).drew))
    (first
      | (go_at_call 37; first
          | ((with_reducible refine (cm1 _).mono ?_); rintro e w4 ⟨rfl, hb⟩; have hB := bthen (w := w1) (by first | (with_reducible assumption) | (with_reducible exact Below.refl _ _) | exact (Below.refl _ _).drew) hb)
          | ((with_reducible refine (cm2 _).mono ?_); rintro e w4 ⟨rfl, hb⟩; have hB := bthen (w := w1) (by first | (with_reducible assumption) | (with_reducible exact Below.refl _ _) | exact (Below.refl _ _).drew) hb))
      | (go_at_call 55; (with_reducible refine (cc _).mono ?_); rintro e w4 ⟨rfl, hb⟩; have hB := bthen (w := w1) (by first | (with_reducible assumption) | (with_reducible exact Below.refl _ _) | exact (Below.refl _ _).drew) hb))
  all_goals go_wp2
  all_goals
    go_ret2
    exact ⟨rfl, bthen B1 hB⟩

theorem rFloor_no (a b : Int) (w : World) (fa : Fit1 a) (fb : Fit1 b) (h : ¬ Low a b) :
    Calls Try.prog 25 #[.agg #[.int .i64 a, .int .i64 b]] w fun e w' => e = .returned (.tuple #[.int .i64 0, .int .i64 1]) ∧ Below w.heap.size w w' := by
  have c1 := fun w => rCheck_no a b w fa fb h
  clear h fa fb
  go_enter Try.func25, Try.ntmps25
  go_wp2_with fail
  refine (c1 _).mono ?_
  rintro e w1 ⟨rfl, hb⟩
  have B1 := bthen (balloc (Below.refl _ w) _) hb
  clear hb
  go_wp2
  go_ret2
  exact ⟨rfl, B1⟩

theorem rCeil_no (a b : Int) (w : World) (fa : Fit1 a) (fb : Fit1 b) (h : ¬ Low a b) :
    Calls Try.prog 27 #[.agg #[.int .i64 a, .int .i64 b]] w fun e w' => e = .returned (.tuple #[.int .i64 0, .int .i64 1]) ∧ Below w.heap.size w w' := by
  have c1 := fun w => rCheck_no a b w fa fb h
  clear h fa fb
  go_enter Try.func27, Try.ntmps27
  go_wp2_with fail
  refine (c1 _).mono ?_
  rintro e w1 ⟨rfl, hb⟩
  have B1 := bthen (balloc (Below.refl _ w) _) hb
  clear hb
  go_wp2
  go_ret2
  exact ⟨rfl, B1⟩

theorem rwholeDiv_to (a b q r : Int) (w : World) (ha : Fit1 a) (hb0 : 0 < b) (hb1 : b ≤ 9223372036854775807) (e1 : Hid (a / b = q)) (e2 : Hid (a % b = r)) :
    Calls Try.prog 57 #[.int .i64 a, .int .i64 b] w fun e w' => e = .returned (.tuple #[.int .i64 q, .int .i64 r, .int .i64 0]) ∧ Wc.Drew w w' := by
  have h := Wr.rdiv_yes a b w ha ⟨by omega, hb1⟩ (by omega) (by omega)
  have h1 := Wm.dq_dr a b
  have h2 := Wm.dr_pos a hb0
  have h3 := div_same (q := a / b) (r := a % b) (q' := Wm.dq a b) (r' := Wm.dr a b) (b := b) (by rw [Int.mul_comm, Int.mul_ediv_add_emod, Int.mul_comm]; exact h1.symm) (Int.emod_nonneg _ (by omega)) (Int.emod_lt_of_pos _ hb0) h2.1 h2.2
  rw [← e1.out, ← e2.out, h3.1, h3.2]
  exact h

theorem rFloor_any (a b v er : Int) (w : World) (fa : Fit1 a) (fb : Fit1 b) (R : FloorRes a b v er) :
    Calls Try.prog 25 #[.agg #[.int .i64 a, .int .i64 b]] w fun e w' => e = .returned (.tuple #[.int .i64 v, .int .i64 er]) ∧ Below w.heap.size w w' := by
  rcases R with ⟨h, ev, rfl⟩ | ⟨h, rfl, rfl⟩
  case inr => exact rFloor_no a b w fa fb h
  have c1 := fun w => rCheck_yes a b w fa fb h
  obtain ⟨r, hr⟩ : ∃ r, a % b = r := ⟨_, rfl⟩
  have c2 := fun w => rwholeDiv_to a b v r w fa h.1 fb.2 (Lib.hid ev.symm) (Lib.hid hr)
  clear h ev hr fa fb
  go_enter Try.func25, Try.ntmps25
  go_wp2_with fail
  refine (c1 _).mono ?_
  rintro e w1 ⟨rfl, hb⟩
  have P1 := (Two.new w (.int .i64 a) (.int .i64 b) 23).kept hb
  have B1 := bthen (balloc (Below.refl _ w) _) hb
  clear hb
  obtain ⟨y1, p10, p11, _, _⟩ := id P1
  go_wp2_with fail
  refine (c2 _).mono ?_
  rintro e w' ⟨rfl, n, rfl⟩
  go_wp2
  go_ret2
  exact ⟨rfl, bdrewN B1 n⟩

theorem rCeil_any (a b v er : Int) (w : World) (fa : Fit1 a) (fb : Fit1 b) (R : CeilRes a b v er) :
    Calls Try.prog 27 #[.agg #[.int .i64 a, .int .i64 b]] w fun e w' => e = .returned (.tuple #[.int .i64 v, .int .i64 er]) ∧ Below w.heap.size w w' := by
  rcases R with ⟨h, ev, rfl⟩ | ⟨h, rfl, rfl⟩
  case inr => exact rCeil_no a b w fa fb h
  have c1 := fun w => rCheck_yes a b w fa fb h
  obtain ⟨q, hq⟩ : ∃ q, a / b = q := ⟨_, rfl⟩
  obtain ⟨r, hr⟩ : ∃ r, a % b = r := ⟨_, rfl⟩
  have c2 := fun w => rwholeDiv_to a b q r w fa h.1 fb.2 (Lib.hid hq) (Lib.hid hr)
  have r0 : 0 ≤ r := by rw [← hr]; exact Int.emod_nonneg _ (by have := h.1; omega)
  have O : (r = 0 ∧ v = q) ∨ (0 < r ∧ v = q + 1 ∧ -9223372036854775808 ≤ q ∧ q < 9223372036854775807) := by
    by_cases z : r = 0
    · exact .inl ⟨z, by rw [ev, hr, if_pos z, hq]⟩
    · have b1 : b ≠ 1 := by intro k; subst k; rw [Int.emod_one] at hr; omega
      obtain ⟨n, n0, n1, nb, _⟩ := beside_facts h b1 fa
      exact .inr ⟨by omega, by rw [ev, hr, if_neg z, hq], by omega, by omega⟩
  clear h ev hr hq fa fb r0
  rcases O with ⟨rfl, rfl⟩ | ⟨z, rfl, q0, q1⟩
  all_goals
    go_enter Try.func27, Try.ntmps27
    go_wp2_with fail
    refine (c1 _).mono ?_
    rintro e w1 ⟨rfl, hb⟩
    have P1 := (Two.new w (.int .i64 a) (.int .i64 b) 23).kept hb
    have B1 := bthen (balloc (Below.refl _ w) _) hb
    clear hb
    obtain ⟨y1, p10, p11, _, _⟩ := id P1
    go_wp2_with fail
    refine (c2 _).mono ?_
    rintro e w' ⟨rfl, n, rfl⟩
    go_wp2
    go_ret2
    exact ⟨rfl, bdrewN B1 n⟩


end Go.Proofs.Ytmngbhkokglmjaa.Kc
