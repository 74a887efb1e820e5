/- What plus of package ratio comes to. -/
import Derived.Test.YtapddciodoobfaaQops
import Derived.Deep.RegionHeld3
import Derived.Deep.DeepCutAuto
namespace Go.Proofs.Ytapddciodoobfaa.Qc
set_option linter.unusedSimpArgs false
set_option linter.unusedVariables false
open Go.RowKit Go.Proofs.Ytapddciodoobfaa.Vm Go.Proofs.Ytapddciodoobfaa.Vc Go.Proofs.Ytapddciodoobfaa.Pr Go.Proofs.Ytapddciodoobfaa.Qm

set_option maxHeartbeats 1000000

/-- the arguments' boxes, and the answer's -/
abbrev plW (x p y q : Int) (w : World) : World :=
  ((w.alloc (.cells #[.int .i64 x, .int .i64 p] 38)).alloc (.cells #[.int .i64 y, .int .i64 q] 38)).alloc (.cells #[.int .i64 0, .int .i64 0] 38)

/-- what stands in every world that is the same below -/
theorem pl_two {x p y q : Int} {w W : World} (h : Below (w.heap.size + 3) (plW x p y q w) W) :
    Below w.heap.size w W ∧ Two W w.heap.size (.int .i64 x) (.int .i64 p) ∧ Two W (w.heap.size + 1) (.int .i64 y) (.int .i64 q) ∧ Two W (w.heap.size + 1 + 1) (.int .i64 0) (.int .i64 0) := by
  have P1 := ((Two.new w (.int .i64 x) (.int .i64 p) 38).alloc (.cells #[.int .i64 y, .int .i64 q] 38)).alloc (.cells #[.int .i64 0, .int .i64 0] 38)
  have P2 := (Two.new (w.alloc (.cells #[.int .i64 x, .int .i64 p] 38)) (.int .i64 y) (.int .i64 q) 38).alloc (.cells #[.int .i64 0, .int .i64 0] 38)
  have P3 := Two.new ((w.alloc (.cells #[.int .i64 x, .int .i64 p] 38)).alloc (.cells #[.int .i64 y, .int .i64 q] 38)) (.int .i64 0) (.int .i64 0) 38
  have B0 := balloc (balloc (balloc (Below.refl _ w) (.cells #[.int .i64 x, .int .i64 p] 38)) (.cells #[.int .i64 y, .int .i64 q] 38)) (.cells #[.int .i64 0, .int .i64 0] 38)
  simp only [World.size_alloc] at P1 P2 P3
  have hs : Below (plW x p y q w).heap.size (plW x p y q w) W := h.mono (by simp [plW])
  exact ⟨B0.trans (h.mono (by omega)), P1.kept hs, P2.kept hs, P3.kept hs⟩

theorem pl_held {x p y q : Int} {w W : World} (h : Below (w.heap.size + 3) (plW x p y q w) W) : Below (w.heap.size + 3) (plW x p y q w) W ∧
    W.cell? ⟨w.heap.size, 0, none⟩ = some (.int .i64 x) ∧ W.cell? ⟨w.heap.size + 1, 0, none⟩ = some (.int .i64 y) :=
  ⟨h, (pl_two h).2.1.c0, (pl_two h).2.2.1.c0⟩

theorem below_alloc {B : Nat} {W0 W : World} (hB : B ≤ W0.heap.size) (h : Below B W0 W) (o : Obj) : Below B W0 (W.alloc o) := h.alloc (Nat.le_trans hB h.size) o
theorem below_step {B : Nat} {W0 W w1 : World} (hB : B ≤ W0.heap.size) (h : Below B W0 W) (hb : Below W.heap.size W w1) : Below B W0 w1 := h.trans (hb.mono (Nat.le_trans hB h.size))

/-- what the sum's statement leaves -/
def PlusMid (h l x p y q : Int) (w : World) (s : Value) (W : World) : Prop :=
  ∃ g : Nat, s = .pointer (some ⟨g, 0, none⟩) ∧ w.heap.size + 3 ≤ g ∧ Two W g (.int .i64 h) (.int .u64 l) ∧ Below (w.heap.size + 3) (plW x p y q w) W

theorem pmid_set {h l u v x p y q : Int} {w W : World} {g : Nat} (K : Two W g (.int .i64 u) (.int .u64 v)) (hB : Below (w.heap.size + 3) (plW x p y q w) W) (hg : w.heap.size + 3 ≤ g) :
    PlusMid h l x p y q w (.pointer (some ⟨g, 0, none⟩)) ((W.setCell ⟨g, 0, none⟩ (.int .i64 h)).setCell ⟨g, 1, none⟩ (.int .u64 l)) :=
  ⟨g, rfl, hg, (K.set0 _).set1 _, (hB.setCell (by simpa using hg) _).setCell (by simpa using hg) _⟩
theorem pmid_new {h l x p y q : Int} {w W : World} {t : TypeId} (hB : Below (w.heap.size + 3) (plW x p y q w) W) :
    PlusMid h l x p y q w (.pointer (some ⟨W.heap.size, 0, none⟩)) (W.alloc (.cells #[.int .i64 h, .int .u64 l] t)) :=
  ⟨_, rfl, by have := hB.size; simp [plW] at this; omega, Two.new _ _ _ _, below_alloc (by simp [plW]) hB _⟩

/-- what the last statement reads, and what became of the world -/
structure Sev (w W : World) (g : Nat) (y q h l : Int) : Prop where
  below : Below w.heap.size w W
  b : Two W (w.heap.size + 1) (.int .i64 y) (.int .i64 q)
  c : Two W g (.int .i64 h) (.int .u64 l)
  far : w.heap.size + 3 ≤ g
section
variable {w W w1 : World} {g : Nat} {y q h l : Int}
theorem Sev.kept {R : Prop} (x : Sev w W g y q h l ∧ R) (hb : Below W.heap.size W w1) : Sev w w1 g y q h l := ⟨bthen x.1.below hb, x.1.b.kept hb, x.1.c.kept hb, x.1.far⟩
theorem Sev.drew (x : Sev w W g y q h l) : Sev w W.drew g y q h l := ⟨x.below.drew, x.b.drew, x.c.drew, x.far⟩
theorem Sev.set {R : Prop} {v : Value} {n : Nat} (x : Sev w W g y q h l ∧ R) : Sev w (W.setCell ⟨w.heap.size + 1 + 1, n, none⟩ v) g y q h l ∧ True :=
  ⟨⟨bset x.1.below (by omega) _ _, x.1.b.other _ _ (by omega), x.1.c.other _ _ (by have := x.1.far; omega), x.1.far⟩, trivial⟩
theorem Sev.opened (x : Sev w W g y q h l) : Sev w W g y q h l ∧ W.cell? ⟨g, 0, none⟩ = some (.int .i64 h) ∧ W.cell? ⟨g, 1, none⟩ = some (.int .u64 l) ∧ W.cell? ⟨w.heap.size + 1, 1, none⟩ = some (.int .i64 q) :=
  ⟨x, x.c.c0, x.c.c1, x.b.c1⟩
end

theorem gcd_mod (t g : Int) : Int.gcd (t % g) g = Int.gcd t g := by
  conv => rhs; rw [← Int.mul_ediv_add_emod t g]
  rw [Int.gcd_mul_left_add_left]

theorem plus_any (x p y q s N D er : Int) (w : World) (fx : Fit1 x) (fp : Fit1 p) (fy : Fit1 y) (fq : Fit1 q) (hs : s = 1 ∨ s = -1) (hx : Low x p) (hy : Low y q)
    (R : Rat1 (x * q + s * (y * p)) (p * q) N D er) :
    Calls Try.prog 43 #[.agg #[.int .i64 x, .int .i64 p], .agg #[.int .i64 y, .int .i64 q], .int .i64 s] w fun e w' =>
      e = .returned (.tuple #[.agg #[.int .i64 N, .int .i64 D], .int .i64 er]) ∧ Below w.heap.size w w' := by
  have p0 := hx.1
  have q0 := hy.1
  have hpq : p * q ≠ 0 := Int.mul_ne_zero (by omega) (by omega)
  obtain ⟨g, p', q', g0, hg, ep, eq, hc, _⟩ := gcd_out (a := p) (b := q) (by omega)
  have p'0 : 0 < p' := pos_part g0 (by rw [← ep]; exact p0)
  have q'0 : 0 < q' := pos_part g0 (by rw [← eq]; exact q0)
  have fp' := part_fit fp g0 ep
  have fq' := part_fit fq g0 eq
  have fg : Fit1 g := by
    have := gcd_le (N := p) (D := q) q0
    unfold Fit1 at *; omega
  obtain ⟨m, hm⟩ : ∃ m, s * p' = m := ⟨_, rfl⟩
  have fm : Fit1 m := by unfold Fit1 at *; rcases hs with rfl | rfl <;> omega
  obtain ⟨h1, l1, e1, b1⟩ := words_ex (x := x * q') (by have := prod_fits fx fq'; unfold Fits; omega)
  obtain ⟨h2, l2, e2, b2⟩ := words_ex (x := y * m) (by have := prod_fits fy fm; unfold Fits; omega)
  have fs : Fits (x * q' + y * m) := by
    have s1 := prod_small (b := q') fx (by omega) fq'.2
    have s2 := prod_small (b := m) fy (by unfold Fit1 at fp'; rcases hs with rfl | rfl <;> omega) (by unfold Fit1 at fp'; rcases hs with rfl | rfl <;> omega)
    unfold Fits; omega
  obtain ⟨h3, l3, e3, b3⟩ := words_ex fs
  obtain ⟨t, ht⟩ : ∃ t, x * q' + y * m = t := ⟨_, rfl⟩
  obtain ⟨h, t', k, h0, hh, et, eg, hc2, _⟩ := gcd_out (a := t) (b := g) (by omega)
  have fh : Fit1 h := by
    have := gcd_le (N := t) (D := g) g0
    unfold Fit1 at *; omega
  have k0 : 0 < k := pos_part h0 (by rw [← eg]; exact g0)
  obtain ⟨h4, l4, e4, b4⟩ := words_ex (x := t / g) (quot_fits (by rw [← ht]; exact fs) g0)
  obtain ⟨h5, l5, e5, b5⟩ := words_ex (x := t') (by
    have : t / h = t' := by rw [et]; exact Int.mul_ediv_cancel_left t' (by omega)
    rw [← this]; exact quot_fits (by rw [← ht]; exact fs) h0)
  obtain ⟨r, hr⟩ : ∃ r, t % g = r := ⟨_, rfl⟩
  have r0 : 0 ≤ r ∧ r < g := by rw [← hr]; exact ⟨Int.emod_nonneg _ (by omega), Int.emod_lt_of_pos _ g0⟩
  have hgr : h = (Int.gcd r g : Int) := by
    rw [hh, ← hr, gcd_mod]
  have eq2 : q = h * (q' * k) := by rw [eq, eg, Int.mul_assoc, Int.mul_comm k q']
  have fq2 := part_fit fq h0 eq2
  have q20 : 0 < q' * k := Int.mul_pos q'0 k0
  obtain ⟨h6, l6, e6, b6⟩ := words_ex (x := p' * (q' * k)) (by have := prod_fits fp' fq2; unfold Fits; omega)
  have et2 : t = x * q' + s * y * p' := by rw [← ht, ← hm, ← Int.mul_assoc, Int.mul_comm y s]
  obtain ⟨L, E⟩ := plus_low hx.2 hy.2 hs p0 q0 g0 ep eq (by assumption) et2 h0 et eg hc2
  have F : FitRes (num h5 l5) (num h6 l6) N D er := by rw [e5, e6]; exact fitres_of hpq L E R
  have cg1 := fun w => Wc.gcd_to p q g w fp fq hg fg
  have cm1 := fun w => Mul_any x q' h1 l1 w fx fq' b1 e1
  have cm2 := fun w => Mul_any y m h2 l2 w fy fm b2 e2
  have ca := fun w => Add_any h1 l1 h2 l2 h3 l3 0 w b1 b2 (.inl ⟨rfl, by rw [e1, e2, e3], b3⟩)
  have cd1 := fun w => Div_any h3 l3 g h4 l4 r 0 w b3 fg (.inr (.inr ⟨g0, rfl, b4, by rw [e4, e3, ht, ← hr, Int.mul_comm]; exact Int.mul_ediv_add_emod t g, r0.1, r0.2⟩))
  have cg2 := fun w => Wc.gcd_to r g h w (by unfold Fit1 at *; omega) fg hgr fh
  have cd2 := fun w => Div_any h3 l3 h h5 l5 0 0 w b3 fh (.inr (.inr ⟨h0, rfl, b5, by rw [e5, e3, ht, et, Int.mul_comm, Int.add_zero], Int.le_refl _, h0⟩))
  have cm3 := fun w => Mul_any p' (q' * k) h6 l6 w fp' fq2 b6 e6
  have cf := fun w => fitting_any h5 l5 h6 l6 N D er w b5 b6 F
  have k1 : p.tdiv g = p' := by rw [ep]; exact Int.mul_tdiv_cancel_left p' (by omega)
  have k2 : q.tdiv g = q' := by rw [eq]; exact Int.mul_tdiv_cancel_left q' (by omega)
  have k3 : q.tdiv h = q' * k := by rw [eq2]; exact Int.mul_tdiv_cancel_left (q' * k) (by omega)
  generalize hq2 : q' * k = q2 at *
  have k4 : IntKind.i64.wrap p' = p' := IntWalk.i64_in _ fp'
  have k5 : IntKind.i64.wrap q' = q' := IntWalk.i64_in _ fq'
  have k6 : IntKind.i64.wrap q2 = q2 := IntWalk.i64_in _ fq2
  have k7 : IntKind.i64.wrap (s * p') = m := by rw [hm]; exact IntWalk.i64_in _ fm
  have d1 : (g == 0) = false := beq_eq_false_iff_ne.2 (by omega)
  have d2 : (h == 0) = false := beq_eq_false_iff_ne.2 (by omega)
  have K1 := Lib.hid (And.intro k1 (And.intro k2 (And.intro k4 k5)))
  have K2 := Lib.hid (And.intro k3 k6)
  have K3 := Lib.hid k7
  unfold Fit1 at fp' fq' fq2 fg fh
  clear k1 k2 k3 k4 k5 k6 k7 hq2 L E F et2 eq2 hgr r0 hr e1 e2 e3 e4 e5 e6 b1 b2 b3 b4 b5 b6 fs fm hm hs ht et eg hh hg ep eq hc2 hpq hx hy R fx fp fy fq q20 k0 p0 q0
  go_enter Try.func43, Try.ntmps43
  go_wp2_with fail
  refine (cg1 _).mono ?_
  rintro e w1 ⟨rfl, n1, rfl⟩
  obtain ⟨k1, k2, k4, k5⟩ := K1.out
  go_wp2
  go_quiet (fail)
  clear k1 k2 k4 k5
  replace K3 := K3.out
  go_upto_region 3 with fail
  go_cut [12] (fun s12 wx => PlusMid h3 l3 x p y q w s12 wx)
  case first =>
    go_region_held3 (fun w' => Below (w.heap.size + 3) (plW x p y q w) w' ∧ w'.cell? ⟨w.heap.size, 0, none⟩ = some (.int .i64 x) ∧ w'.cell? ⟨w.heap.size + 1, 0, none⟩ = some (.int .i64 y))
      ((refine pl_held ?_; repeat (first | (with_reducible assumption) | (with_reducible exact Below.refl _ _) | (with_reducible refine below_drewN ?_ _) | (with_reducible refine Below.drew ?_) | ((with_reducible refine below_alloc ?_ ?_ _); (simp [plW])) | ((with_reducible refine Below.setCell ?_ ?_ _); rotate_left; first | omega | (simp <;> omega)))))
      (first
        | (go_at_call 39; first
            | ((with_reducible refine (cm1 _).mono ?_); rintro e w1 ⟨rfl, hb⟩; have hB := below_step (B := w.heap.size + 3) (W0 := plW x p y q w) (by simp [plW]) (by repeat (first | (with_reducible assumption) | (with_reducible exact Below.refl _ _) | (with_reducible refine below_drewN ?_ _) | (with_reducible refine Below.drew ?_) | ((with_reducible refine below_alloc ?_ ?_ _); (simp [plW])))) hb; have hz : w.heap.size + 3 ≤ w1.heap.size := (by have := hB.size; simp [plW] at this; omega); (first | (have K := Two.kept (by with_reducible assumption) hb) | (have K := Two.kept (by with_reducible exact Two.new _ _ _ _) hb) | (have K := Two.kept (by with_reducible exact (Two.new _ _ _ _).drewN _) hb) | skip); (try simp only [World.size_alloc, World.heap_drewN, World.size_drew] at K); (try obtain ⟨kz, kc0, kc1, kf0, kf1⟩ := id K))
            | ((with_reducible refine (cm2 _).mono ?_); rintro e w1 ⟨rfl, hb⟩; have hB := below_step (B := w.heap.size + 3) (W0 := plW x p y q w) (by simp [plW]) (by repeat (first | (with_reducible assumption) | (with_reducible exact Below.refl _ _) | (with_reducible refine below_drewN ?_ _) | (with_reducible refine Below.drew ?_) | ((with_reducible refine below_alloc ?_ ?_ _); (simp [plW])))) hb; have hz : w.heap.size + 3 ≤ w1.heap.size := (by have := hB.size; simp [plW] at this; omega); (first | (have K := Two.kept (by with_reducible assumption) hb) | (have K := Two.kept (by with_reducible exact Two.new _ _ _ _) hb) | (have K := Two.kept (by with_reducible exact (Two.new _ _ _ _).drewN _) hb) | skip); (try simp only [World.size_alloc, World.heap_drewN, World.size_drew] at K); (try obtain ⟨kz, kc0, kc1, kf0, kf1⟩ := id K)))
        | (go_at_call 69; (with_reducible refine (ca _).mono ?_); rintro e w1 ⟨rfl, hb⟩; have hB := below_step (B := w.heap.size + 3) (W0 := plW x p y q w) (by simp [plW]) (by repeat (first | (with_reducible assumption) | (with_reducible exact Below.refl _ _) | (with_reducible refine below_drewN ?_ _) | (with_reducible refine Below.drew ?_) | ((with_reducible refine below_alloc ?_ ?_ _); (simp [plW])))) hb; have hz : w.heap.size + 3 ≤ w1.heap.size := (by have := hB.size; simp [plW] at this; omega); (first | (have K := Two.kept (by with_reducible assumption) hb) | (have K := Two.kept (by with_reducible exact Two.new _ _ _ _) hb) | (have K := Two.kept (by with_reducible exact (Two.new _ _ _ _).drewN _) hb) | skip); (try simp only [World.size_alloc, World.heap_drewN, World.size_drew] at K); (try obtain ⟨kz, kc0, kc1, kf0, kf1⟩ := id K)))
    all_goals go_wp2_with fail
    all_goals go_meet
    all_goals
      first
        | ((with_reducible refine pmid_set K hB ?_); first | omega | (simp <;> omega))
        | (with_reducible exact pmid_new hB)
  case rest =>
    obtain ⟨g1, rfl, hg1, P4, hB⟩ := hcut
    obtain ⟨B1, _, P2, P3⟩ := pl_two hB
    clear hB ca cm1 cm2 cg1 K3
    obtain ⟨z4, a0, a1, _, _⟩ := id P4
    go_wp2_with fail
    refine (cd1 _).mono ?_
    rintro e w2 ⟨rfl, hb⟩
    replace P2 := P2.kept hb
    replace P3 := P3.kept hb
    replace P4 := P4.kept hb
    replace B1 := bthen B1 hb
    clear hb z4 a0 a1 cd1
    go_wp2_with fail
    refine (cg2 _).mono ?_
    rintro e w' ⟨rfl, n2, rfl⟩
    replace P2 := (P2.alloc (.cells #[.int .i64 h4, .int .u64 l4] 51)).drewN n2
    replace P3 := (P3.alloc (.cells #[.int .i64 h4, .int .u64 l4] 51)).drewN n2
    replace P4 := (P4.alloc (.cells #[.int .i64 h4, .int .u64 l4] 51)).drewN n2
    replace B1 := bdrewN (balloc B1 (.cells #[.int .i64 h4, .int .u64 l4] 51)) n2
    clear cg2
    generalize (w2.alloc (.cells #[.int .i64 h4, .int .u64 l4] 51)).drewN n2 = W at *
    obtain ⟨z4, a0, a1, _, _⟩ := id P4
    go_wp2_with fail
    refine (cd2 _).mono ?_
    rintro e w3 ⟨rfl, hb⟩
    have X : Sev w (w3.alloc (.cells #[.int .i64 h5, .int .u64 l5] 51)) w3.heap.size y q h5 l5 :=
      ⟨balloc (bthen B1 hb) _, (P2.kept hb).alloc _, Two.new _ _ _ _, by have := hb.size; have := z4; omega⟩
    have K3 := (P3.kept hb).alloc (.cells #[.int .i64 h5, .int .u64 l5] 51)
    clear hb z4 a0 a1 cd2 P2 P3 P4 B1
    obtain ⟨k3, k6⟩ := K2.out
    have d4 : ¬ h = 0 := by omega
    have d5 : IntKind.i64.wrap (q.tdiv h) = q2 := by rw [k3, k6]
    obtain ⟨kz, kc0, kc1, kf0, kf1⟩ := id K3
    go_wp2
    go_region_held3 (fun w' => Sev w w' w3.heap.size y q h5 l5 ∧ w'.cell? ⟨w3.heap.size, 0, none⟩ = some (.int .i64 h5) ∧ w'.cell? ⟨w3.heap.size, 1, none⟩ = some (.int .u64 l5) ∧ w'.cell? ⟨w.heap.size + 1, 1, none⟩ = some (.int .i64 q))
      (first | exact X.drew.opened | exact X2.opened | exact (Sev.set (Sev.set (by with_reducible assumption))).1.opened)
      (first
        | (go_at_call 39; (with_reducible refine (cm3 _).mono ?_); rintro e w4 ⟨rfl, hb⟩; have X2 := Sev.kept (by first | (with_reducible assumption) | exact ⟨X.drew, trivial⟩) hb; have K := Two.kept (by first | (with_reducible assumption) | exact K3.drew) hb; obtain ⟨kz, kc0, kc1, kf0, kf1⟩ := id K)
        | (go_at_call 70; (with_reducible refine (cf _).mono ?_); rintro e w4 ⟨rfl, hb⟩; have X2 := Sev.kept (by first | (with_reducible assumption) | exact ⟨X.drew, trivial⟩) hb; have K := Two.kept (by first | (with_reducible assumption) | exact K3.drew) hb; obtain ⟨kz, kc0, kc1, kf0, kf1⟩ := id K))
    go_wp2
    refine bodyPost_ret (v := .tuple #[.agg #[.int .i64 N, .int .i64 D], .int .i64 er]) (by simp [results, Try.results43, go_sem, kc0, kc1]) rfl ⟨rfl, ?_⟩
    exact bset (bset X2.below (by omega) _ _) (by omega) _ _

end Go.Proofs.Ytapddciodoobfaa.Qc
