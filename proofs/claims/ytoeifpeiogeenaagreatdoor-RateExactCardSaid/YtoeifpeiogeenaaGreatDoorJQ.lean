/- Texts that are joined: Rowp, Gcode, Qmath, Qchk, Qtimes, Qops, Qlaw, Qplus, Qcmp, Qops2, Sexact, Sexlaw. -/
import Derived.Test.YtoeifpeiogeenaaGreatDoorJK
import Derived.Test.YtoeifpeiogeenaaGreatDoorJV
import Derived.Deep.RegionHeld3
import Derived.Deep.DeepCutAuto
import Derived.Test.YtoeifpeiogeenaaGreatDoorJS
namespace Go.Proofs.YtoeifpeiogeenaaGreatDoor.Rk
set_option linter.unusedSimpArgs false
set_option linter.unusedVariables false
open Go.RowKit

/-- a row in block g of n elements of two cells each -/
structure Rowp (W : World) (g n : Nat) (f d : Nat → Int) : Prop where
  lt : g < W.heap.size
  c0 : ∀ i, i < n → W.cell? ⟨g, i * 2, none⟩ = some (.int .i64 (f i))
  c1 : ∀ i, i < n → W.cell? ⟨g, i * 2 + 1, none⟩ = some (.int .i64 (d i))
  z0 : ∀ i, i < n → W.frozen? ⟨g, i * 2, none⟩ = false
  z1 : ∀ i, i < n → W.frozen? ⟨g, i * 2 + 1, none⟩ = false
section
variable {W w1 : World} {g n : Nat} {f d : Nat → Int}
theorem Rowp.kept (p : Rowp W g n f d) (hb : Below W.heap.size W w1) : Rowp w1 g n f d :=
  ⟨Nat.lt_of_lt_of_le p.lt hb.size, fun i hi => (hb.cell (p := ⟨g, i * 2, none⟩) p.lt).trans (p.c0 i hi), fun i hi => (hb.cell (p := ⟨g, i * 2 + 1, none⟩) p.lt).trans (p.c1 i hi),
   fun i hi => (hb.frozen (p := ⟨g, i * 2, none⟩) p.lt).trans (p.z0 i hi), fun i hi => (hb.frozen (p := ⟨g, i * 2 + 1, none⟩) p.lt).trans (p.z1 i hi)⟩
theorem Rowp.congr {f' d' : Nat → Int} (p : Rowp W g n f d) (h : ∀ i, i < n → f i = f' i) (h' : ∀ i, i < n → d i = d' i) : Rowp W g n f' d' :=
  ⟨p.lt, fun i hi => by rw [← h i hi]; exact p.c0 i hi, fun i hi => by rw [← h' i hi]; exact p.c1 i hi, p.z0, p.z1⟩
theorem Rowp.set (p : Rowp W g n f d) {k : Nat} (hk : k < n) (u v : Int) :
    Rowp ((W.setCell ⟨g, k * 2, none⟩ (.int .i64 u)).setCell ⟨g, k * 2 + 1, none⟩ (.int .i64 v)) g n (fun i => if i = k then u else f i) (fun i => if i = k then v else d i) := by
  have ot : ∀ (W : World) (a b : Nat) (x : Value), a ≠ b → (W.setCell ⟨g, a, none⟩ x).cell? ⟨g, b, none⟩ = W.cell? ⟨g, b, none⟩ := fun W a b x h =>
    World.cell?_setCell_other _ _ _ _ (by intro e; simp only [Addr.mk.injEq] at e; omega)
  have sm : ∀ (W : World) (a : Nat) (x y : Value), W.cell? ⟨g, a, none⟩ = some y → (W.setCell ⟨g, a, none⟩ x).cell? ⟨g, a, none⟩ = some x := fun W a x y h => World.cell?_setCell_same _ _ _ h
  refine ⟨by simp; exact p.lt, fun i hi => ?_, fun i hi => ?_, fun i hi => by simp [go_sem, p.z0 i hi], fun i hi => by simp [go_sem, p.z1 i hi]⟩
  · rw [ot _ _ _ _ (by omega)]
    by_cases e : i = k
    · subst e; rw [if_pos rfl]; exact sm _ _ _ _ (p.c0 i hi)
    · rw [if_neg e, ot _ _ _ _ (by omega)]; exact p.c0 i hi
  · by_cases e : i = k
    · subst e; rw [if_pos rfl]; exact sm _ _ _ _ (by rw [ot _ _ _ _ (by omega)]; exact p.c1 i hi)
    · rw [if_neg e, ot _ _ _ _ (by omega), ot _ _ _ _ (by omega)]; exact p.c1 i hi
theorem Rowp.other {b : Nat} (p : Rowp W g n f d) (k : Nat) (v : Value) (h : g ≠ b) : Rowp (W.setCell ⟨b, k, none⟩ v) g n f d :=
  have ot : ∀ a, (W.setCell ⟨b, k, none⟩ v).cell? ⟨g, a, none⟩ = W.cell? ⟨g, a, none⟩ := fun a => World.cell?_setCell_other _ _ _ _ (by intro e; simp only [Addr.mk.injEq] at e; omega)
  ⟨by simp; exact p.lt, fun i hi => (ot _).trans (p.c0 i hi), fun i hi => (ot _).trans (p.c1 i hi), fun i hi => by simp [go_sem, p.z0 i hi], fun i hi => by simp [go_sem, p.z1 i hi]⟩
end

end Go.Proofs.YtoeifpeiogeenaaGreatDoor.Rk

namespace Go.Proofs.YtoeifpeiogeenaaGreatDoor.Wc
set_option linter.unusedSimpArgs false
set_option linter.unusedVariables false
open Go.RowKit Go.Proofs.YtoeifpeiogeenaaGreatDoor.Wm

set_option maxHeartbeats 400000

/-- a number that a remainder of two numbers is fits -/
theorem tmod_fit {a b : Int} (hb : Fit b) (h : b ≠ 0) : Fit (a.tmod b) := by
  have := tmod_abs a h
  unfold Fit at *; omega

theorem gcd_any (a b : Int) (w : World) (ha : Fit a) (hb : Fit b) (v e1 : Int)
    (hv : (Fit (Nat.gcd a.natAbs b.natAbs : Int) ∧ v = (Nat.gcd a.natAbs b.natAbs : Int) ∧ e1 = 0) ∨ (¬ Fit (Nat.gcd a.natAbs b.natAbs : Int) ∧ v = 0 ∧ e1 = 2)) :
    Calls Tryz.prog 71 #[.int .i64 a, .int .i64 b] w fun e w' => e = .returned (.tuple #[.int .i64 v, .int .i64 e1]) ∧ Drew w w' := by
  have HV := Lib.hid hv
  clear hv
  go_enter Tryz.func71, Tryz.ntmps71
  go_wp2
  go_loopw [0, 1] (fun x y w' => ∃ p q : Int, x = .int .i64 p ∧ y = .int .i64 q ∧ Fit p ∧ Fit q ∧ Hid (Nat.gcd p.natAbs q.natAbs = Nat.gcd a.natAbs b.natAbs) ∧ Drew w w') (fun _ y _ => (intOf y).natAbs)
  case atStart => exact ⟨a, b, rfl, rfl, ha, hb, Lib.hid rfl, 0, rfl⟩
  case round =>
    obtain ⟨p, q, rfl, rfl, hp, hq, hg, n, rfl⟩ := hrel
    by_cases hz : q = 0
    · subst hz
      rw [gcd_zero] at hg
      by_cases c1 : p < 0
      · have d1 : decide (p < 0) = true := decide_eq_true c1
        by_cases c2 : p = -9223372036854775808
        · subst c2
          have hv : v = 0 ∧ e1 = 2 := by
            rcases HV.out with ⟨h1, h2, h3⟩ | ⟨h1, h2, h3⟩
            · rw [← hg.out] at h1; exact absurd h1 (by decide)
            · exact ⟨h2, h3⟩
          obtain ⟨rfl, rfl⟩ := hv
          clear HV hg hp hq c1
          go_wp2_with (go_at_call 107; refine (neg_no _).mono ?_; rintro e w' ⟨rfl, rfl⟩)
          go_ret2
          exact ⟨rfl, n, rfl⟩
        · have hv : v = -p ∧ e1 = 0 := by
            rcases HV.out with ⟨h1, h2, h3⟩ | ⟨h1, h2, h3⟩
            · rw [← hg.out] at h2; exact ⟨by omega, h3⟩
            · rw [← hg.out] at h1; exact absurd (by unfold Fit at *; omega) h1
          obtain ⟨rfl, rfl⟩ := hv
          have ct := fun w0 => neg_yes p w0 hp c2
          clear HV hg hp hq c1 c2
          go_wp2_with (go_at_call 107; refine (ct _).mono ?_; rintro e w' ⟨rfl, rfl⟩)
          go_ret2
          exact ⟨rfl, n, rfl⟩
      · have d1 : decide (p < 0) = false := decide_eq_false c1
        have hv : v = p ∧ e1 = 0 := by
          rcases HV.out with ⟨h1, h2, h3⟩ | ⟨h1, h2, h3⟩
          · rw [← hg.out] at h2; exact ⟨by omega, h3⟩
          · rw [← hg.out] at h1; exact absurd (by unfold Fit at *; omega) h1
        obtain ⟨rfl, rfl⟩ := hv
        clear HV hg hp hq
        go_wp2
        go_ret2
        exact ⟨rfl, n, rfl⟩
    · have d0 : (q != 0) = true := by rw [bne_iff_ne]; exact hz
      have hs : Hid (Nat.gcd q.natAbs (p.tmod q).natAbs = Nat.gcd a.natAbs b.natAbs) := Lib.hid (by rw [gcd_step]; exact hg.out)
      have ht : p.natAbs % q.natAbs < q.natAbs := Nat.mod_lt _ (by omega)
      have hf := tmod_fit (a := p) hq hz
      go_wp2
      go_quiet (fail)
      go_wp2
      go_roundw
      case rel => exact ⟨q, p.tmod q, rfl, rfl, hq, hf, hs, _, by rw [World.drewN_drewN]⟩
      case measure => simp [intOf]; omega

theorem gcd_to (a b g : Int) (w : World) (ha : Vm.Fit1 a) (hb : Vm.Fit1 b) (hg : g = (Int.gcd a b : Int)) (fg : Vm.Fit1 g) :
    Calls Tryz.prog 71 #[.int .i64 a, .int .i64 b] w fun e w' => e = .returned (.tuple #[.int .i64 g, .int .i64 0]) ∧ Drew w w' :=
  gcd_any a b w ha hb g 0 (Or.inl ⟨by subst hg; exact fg, hg, rfl⟩)

theorem gcd_lost (a b : Int) (w : World) (ha : Vm.Fit1 a) (hb : Vm.Fit1 b) (fg : ¬ Vm.Fit1 (Int.gcd a b : Int)) :
    Calls Tryz.prog 71 #[.int .i64 a, .int .i64 b] w fun e w' => e = .returned (.tuple #[.int .i64 0, .int .i64 2]) ∧ Drew w w' :=
  gcd_any a b w ha hb 0 2 (Or.inr ⟨fg, rfl, rfl⟩)

end Go.Proofs.YtoeifpeiogeenaaGreatDoor.Wc

namespace Go.Proofs.YtoeifpeiogeenaaGreatDoor.Qm
set_option linter.unusedSimpArgs false
set_option linter.unusedVariables false
open Go.Proofs.YtoeifpeiogeenaaGreatDoor.Vm

/-- a ratio that may be -/
def Low (N D : Int) : Prop := 0 < D ∧ Int.gcd N D = 1

theorem cop_dvd {a b c : Int} (h : Int.gcd a b = 1) (d : a ∣ b * c) : a ∣ c := by
  have h1 : a.natAbs.Coprime b.natAbs := h
  have h2 : a.natAbs ∣ b.natAbs * c.natAbs := by rw [← Int.natAbs_mul]; exact Int.natAbs_dvd_natAbs.2 d
  exact Int.natAbs_dvd_natAbs.1 (h1.dvd_of_dvd_mul_left h2)

theorem cop_mul {a b c : Int} (h1 : Int.gcd a c = 1) (h2 : Int.gcd b c = 1) : Int.gcd (a * b) c = 1 := by
  have h3 : a.natAbs.Coprime c.natAbs := h1
  have h4 : b.natAbs.Coprime c.natAbs := h2
  show Nat.gcd (a * b).natAbs c.natAbs = 1
  rw [Int.natAbs_mul]; exact h3.mul_left h4

theorem cop_mul' {a b c : Int} (h1 : Int.gcd a b = 1) (h2 : Int.gcd a c = 1) : Int.gcd a (b * c) = 1 := by
  rw [Int.gcd_comm]; exact cop_mul (by rw [Int.gcd_comm]; exact h1) (by rw [Int.gcd_comm]; exact h2)

theorem cop_left {a b c : Int} (h : Int.gcd b c = 1) (d : a ∣ b) : Int.gcd a c = 1 := by
  have := Int.gcd_dvd_gcd_of_dvd_left c d
  rw [h] at this; exact Nat.dvd_one.1 this
theorem cop_right {a b c : Int} (h : Int.gcd c b = 1) (d : a ∣ b) : Int.gcd c a = 1 := by
  rw [Int.gcd_comm]; exact cop_left (by rw [Int.gcd_comm]; exact h) d

theorem eq_of_dvd {a b : Int} (ha : 0 < a) (hb : 0 < b) (h1 : a ∣ b) (h2 : b ∣ a) : a = b := by
  have := Int.le_of_dvd hb h1
  have := Int.le_of_dvd ha h2
  omega

theorem mul_same {a b c : Int} (h : a ≠ 0) (e : a * b = a * c) : b = c := Int.eq_of_mul_eq_mul_left h e

theorem low_eq {N D N' D' : Int} (h : Low N D) (h' : Low N' D') (e : N * D' = N' * D) : N = N' ∧ D = D' := by
  have d1 : D ∣ D' := by
    apply cop_dvd (b := N) (by rw [Int.gcd_comm]; exact h.2)
    exact ⟨N', by rw [e, Int.mul_comm]⟩
  have d2 : D' ∣ D := by
    apply cop_dvd (b := N') (by rw [Int.gcd_comm]; exact h'.2)
    exact ⟨N, by rw [← e, Int.mul_comm]⟩
  have ed := eq_of_dvd h.1 h'.1 d1 d2
  subst ed
  refine ⟨?_, rfl⟩
  rw [Int.mul_comm, Int.mul_comm N'] at e
  exact mul_same (by have := h.1; omega) e

theorem low_unique {N D N' D' n d : Int} (hd : d ≠ 0) (h : Low N D) (h' : Low N' D') (e : N * d = n * D) (e' : N' * d = n * D') : N = N' ∧ D = D' := by
  apply low_eq h h'
  apply mul_same hd
  calc d * (N * D') = N * d * D' := by rw [← Int.mul_assoc, Int.mul_comm d N]
    _ = n * D * D' := by rw [e]
    _ = n * D' * D := by rw [Int.mul_assoc, Int.mul_comm D, ← Int.mul_assoc]
    _ = N' * d * D := by rw [e']
    _ = d * (N' * D) := by rw [← Int.mul_assoc, Int.mul_comm d N']

/-- what divides both taken out -/
theorem gcd_out {a b : Int} (h : b ≠ 0) : ∃ g x y : Int, 0 < g ∧ g = (Int.gcd a b : Int) ∧ a = g * x ∧ b = g * y ∧ Int.gcd x y = 1 ∧ y ≠ 0 := by
  have h1 : 0 < Int.gcd a b := Int.gcd_pos_of_ne_zero_right a h
  obtain ⟨x, hx⟩ := Int.gcd_dvd_left a b
  obtain ⟨y, hy⟩ := Int.gcd_dvd_right a b
  refine ⟨(Int.gcd a b : Int), x, y, by omega, rfl, hx, hy, ?_, ?_⟩
  · have h2 : Int.gcd a b = Int.gcd ((Int.gcd a b : Int) * x) ((Int.gcd a b : Int) * y) := by rw [← hx, ← hy]
    rw [Int.gcd_mul_left] at h2
    simp only [Int.natAbs_natCast] at h2
    exact Nat.eq_of_mul_eq_mul_left h1 (by omega)
  · intro e; subst e; rw [Int.mul_zero] at hy; exact h hy

theorem low_ex (n : Int) {d : Int} (hd : d ≠ 0) : ∃ N D, Low N D ∧ N * d = n * D := by
  obtain ⟨g, x, y, h0, _, ea, eb, hc, hy⟩ := gcd_out (a := n) hd
  subst ea eb
  by_cases c : 0 < y
  · exact ⟨x, y, ⟨c, hc⟩, by rw [Int.mul_comm g x, Int.mul_assoc]⟩
  · exact ⟨-x, -y, ⟨by omega, by rw [Int.neg_gcd, Int.gcd_neg]; exact hc⟩, by rw [Int.neg_mul, Int.mul_neg, Int.mul_comm g x, Int.mul_assoc]⟩

/-- what the ratio of n and d is, or that it does not fit -/
def Rat1 (n d N D er : Int) : Prop := (er = 0 ∧ Low N D ∧ N * d = n * D ∧ Fit1 N ∧ Fit1 D) ∨ (er = 2 ∧ N = 0 ∧ D = 0 ∧ ∀ N' D', Low N' D' → N' * d = n * D' → ¬ (Fit1 N' ∧ Fit1 D'))

theorem rat1_ex (n : Int) {d : Int} (hd : d ≠ 0) : ∃ N D er, Rat1 n d N D er := by
  obtain ⟨N, D, hl, he⟩ := low_ex n hd
  by_cases c : Fit1 N ∧ Fit1 D
  · exact ⟨N, D, 0, .inl ⟨rfl, hl, he, c.1, c.2⟩⟩
  · exact ⟨0, 0, 2, .inr ⟨rfl, rfl, rfl, fun N' D' hl' he' => by have := low_unique hd hl hl' he he'; rw [← this.1, ← this.2]; exact c⟩⟩

theorem rat1_unique {n d N D er N' D' er' : Int} (hd : d ≠ 0) (h : Rat1 n d N D er) (h' : Rat1 n d N' D' er') : N = N' ∧ D = D' ∧ er = er' := by
  rcases h with ⟨rfl, l, e, f⟩ | ⟨rfl, rfl, rfl, no⟩ <;> rcases h' with ⟨rfl, l', e', f'⟩ | ⟨rfl, rfl, rfl, no'⟩
  · have := low_unique hd l l' e e'; exact ⟨this.1, this.2, rfl⟩
  · exact absurd f (no' _ _ l e)
  · exact absurd f' (no _ _ l' e')
  · exact ⟨rfl, rfl, rfl⟩

theorem rat1_fit {n d N D er : Int} (h : Rat1 n d N D er) : Fit1 N ∧ Fit1 D := by
  rcases h with ⟨_, _, _, f⟩ | ⟨_, rfl, rfl, _⟩
  · exact f
  · unfold Fit1; omega

/-- what fitting answers of two numbers -/
def FitRes (n d N D er : Int) : Prop := (er = 0 ∧ N = n ∧ D = d ∧ Fit1 n ∧ Fit1 d) ∨ (er = 2 ∧ N = 0 ∧ D = 0 ∧ ¬ (Fit1 n ∧ Fit1 d))

theorem fitres_of {n d n' d' N D er : Int} (hd : d ≠ 0) (l : Low n' d') (e : n' * d = n * d') (r : Rat1 n d N D er) : FitRes n' d' N D er := by
  rcases r with ⟨rfl, l', e', f⟩ | ⟨rfl, rfl, rfl, no⟩
  · have := low_unique hd l l' e e'; rw [this.1, this.2]; exact .inl ⟨rfl, rfl, rfl, f⟩
  · exact .inr ⟨rfl, rfl, rfl, no _ _ l e⟩

/-- the sum of two ratios, cut by what divides both denominators once -/
theorem plus_low {x p y q s g p' q' t h t' k : Int} (hx : Int.gcd x p = 1) (hy : Int.gcd y q = 1) (hs : s = 1 ∨ s = -1) (hp : 0 < p) (hq : 0 < q) (g0 : 0 < g)
    (ep : p = g * p') (eq : q = g * q') (hc : Int.gcd p' q' = 1) (et : t = x * q' + s * y * p') (h0 : 0 < h) (et' : t = h * t') (eg : g = h * k) (hh : Int.gcd t' k = 1) :
    Low t' (p' * (q' * k)) ∧ t' * (p * q) = (x * q + s * (y * p)) * (p' * (q' * k)) := by
  have hs' : s * s = 1 := by rcases hs with rfl | rfl <;> rfl
  have p0 : 0 < p' := by
    rcases Int.lt_trichotomy p' 0 with c | c | c
    · have : g * p' < 0 := Int.mul_neg_of_pos_of_neg g0 c
      omega
    · subst c; rw [Int.mul_zero] at ep; omega
    · exact c
  have q0 : 0 < q' := by
    rcases Int.lt_trichotomy q' 0 with c | c | c
    · have : g * q' < 0 := Int.mul_neg_of_pos_of_neg g0 c
      omega
    · subst c; rw [Int.mul_zero] at eq; omega
    · exact c
  have k0 : 0 < k := by
    rcases Int.lt_trichotomy k 0 with c | c | c
    · have : h * k < 0 := Int.mul_neg_of_pos_of_neg h0 c
      omega
    · subst c; rw [Int.mul_zero] at eg; omega
    · exact c
  -- the sum has nothing in common with p', nor with q'
  have tp : Int.gcd t p' = 1 := by
    have xp : Int.gcd x p' = 1 := cop_right hx ⟨g, by rw [ep, Int.mul_comm]⟩
    have : Int.gcd (x * q') p' = 1 := cop_mul xp (by rw [Int.gcd_comm]; exact hc)
    rw [et, Int.add_comm]
    have e2 := Int.gcd_mul_right_add_left p' (x * q') (s * y)
    rw [e2]; exact this
  have tq : Int.gcd t q' = 1 := by
    have yq : Int.gcd y q' = 1 := cop_right hy ⟨g, by rw [eq, Int.mul_comm]⟩
    have sq : Int.gcd (s * y) q' = 1 := by rcases hs with rfl | rfl <;> simp [yq]
    have : Int.gcd (s * y * p') q' = 1 := cop_mul sq hc
    rw [et]
    have e2 := Int.gcd_mul_right_add_left q' (s * y * p') x
    rw [e2]; exact this
  have d : t' ∣ t := ⟨h, by rw [et', Int.mul_comm]⟩
  refine ⟨⟨Int.mul_pos p0 (Int.mul_pos q0 k0), cop_mul' (cop_left tp d) (cop_mul' (cop_left tq d) hh)⟩, ?_⟩
  have e1 : x * q + s * (y * p) = g * t := by
    rw [et, ep, eq, Int.mul_add]
    have a1 : x * (g * q') = g * (x * q') := by rw [← Int.mul_assoc, Int.mul_comm x g, Int.mul_assoc]
    have a2 : s * (y * (g * p')) = g * (s * y * p') := by
      rw [← Int.mul_assoc y, Int.mul_comm y g, Int.mul_assoc g, ← Int.mul_assoc s, Int.mul_comm s g, Int.mul_assoc g, ← Int.mul_assoc s]
    rw [a1, a2]
  rw [e1, et', ep, eq]
  have e2 : t' * (g * p' * (g * q')) = g * t' * g * (p' * q') := by ac_rfl
  have e3 : g * (h * t') * (p' * (q' * k)) = g * t' * (h * k) * (p' * q') := by ac_rfl
  rw [e2, e3, ← eg]

theorem cop_sign {a b a' b' : Int} (h : Int.gcd a b = 1) (e : (a' = a ∧ b' = b) ∨ (a' = -a ∧ b' = -b)) : Int.gcd a' b' = 1 := by
  rcases e with ⟨rfl, rfl⟩ | ⟨rfl, rfl⟩
  · exact h
  · rw [Int.neg_gcd, Int.gcd_neg]; exact h

/-- the product of x by p and n by d, each numerator cut against the other's denominator -/
theorem times_low {x p n d g1 x' d' g2 n' p' : Int} (hx : Int.gcd x p = 1) (hn : Int.gcd n d = 1) (ex : x = g1 * x') (ed : d = g1 * d') (h1 : Int.gcd x' d' = 1)
    (en : n = g2 * n') (ep : p = g2 * p') (h2 : Int.gcd n' p' = 1) (hD : 0 < p' * d') :
    Low (x' * n') (p' * d') ∧ x' * n' * (p * d) = x * n * (p' * d') := by
  have c1 : Int.gcd x' p' = 1 := cop_right (cop_left hx ⟨g1, by rw [ex, Int.mul_comm]⟩) ⟨g2, by rw [ep, Int.mul_comm]⟩
  have c2 : Int.gcd n' d' = 1 := cop_right (cop_left hn ⟨g2, by rw [en, Int.mul_comm]⟩) ⟨g1, by rw [ed, Int.mul_comm]⟩
  refine ⟨⟨hD, cop_mul (cop_mul' c1 h1) (cop_mul' h2 c2)⟩, ?_⟩
  rw [ex, ed, en, ep]
  ac_rfl

/-- what Make answers -/
def MakeRes (n d N D er : Int) : Prop := (d = 0 ∧ N = 0 ∧ D = 0 ∧ er = 3) ∨ (d ≠ 0 ∧ Rat1 n d N D er)
theorem makeres_ex (n d : Int) : ∃ N D er, MakeRes n d N D er := by
  by_cases c : d = 0
  · exact ⟨0, 0, 3, .inl ⟨c, rfl, rfl, rfl⟩⟩
  · obtain ⟨N, D, er, r⟩ := rat1_ex n c
    exact ⟨N, D, er, .inr ⟨c, r⟩⟩

/-- what is counted of a by b and c by d: the ratio of n and m, if both may be -/
def OpRes (a b c d n m N D er : Int) : Prop := (Low a b ∧ Low c d ∧ Rat1 n m N D er) ∨ (¬ (Low a b ∧ Low c d) ∧ N = 0 ∧ D = 0 ∧ er = 1)
theorem opres_ex {a b c d n m : Int} (h : Low a b → Low c d → m ≠ 0) : ∃ N D er, OpRes a b c d n m N D er := by
  by_cases k : Low a b ∧ Low c d
  · obtain ⟨N, D, er, r⟩ := rat1_ex n (h k.1 k.2)
    exact ⟨N, D, er, .inl ⟨k.1, k.2, r⟩⟩
  · exact ⟨0, 0, 1, .inr ⟨k, rfl, rfl, rfl⟩⟩
/-- what Div answers -/
def DivRes2 (a b c d N D er : Int) : Prop := (Low a b ∧ Low c d ∧ MakeRes (a * d) (b * c) N D er) ∨ (¬ (Low a b ∧ Low c d) ∧ N = 0 ∧ D = 0 ∧ er = 1)
theorem divres2_ex (a b c d : Int) : ∃ N D er, DivRes2 a b c d N D er := by
  by_cases k : Low a b ∧ Low c d
  · obtain ⟨N, D, er, r⟩ := makeres_ex (a * d) (b * c)
    exact ⟨N, D, er, .inl ⟨k.1, k.2, r⟩⟩
  · exact ⟨0, 0, 1, .inr ⟨k, rfl, rfl, rfl⟩⟩

/-- what Cmp answers, of a by b and c by d -/
def CmpRes (a b c d v er : Int) : Prop := (Low a b ∧ Low c d ∧ v = cv (a * d) (c * b) ∧ er = 0) ∨ (¬ (Low a b ∧ Low c d) ∧ v = 0 ∧ er = 1)
theorem cmpres_ex (a b c d : Int) : ∃ v er, CmpRes a b c d v er := by
  by_cases k : Low a b ∧ Low c d
  · exact ⟨_, 0, .inl ⟨k.1, k.2, rfl, rfl⟩⟩
  · exact ⟨0, 1, .inr ⟨k, rfl, rfl⟩⟩
/-- what Floor and Ceil answer -/
def FloorRes (a b v er : Int) : Prop := (Low a b ∧ v = a / b ∧ er = 0) ∨ (¬ Low a b ∧ v = 0 ∧ er = 1)
def CeilRes (a b v er : Int) : Prop := (Low a b ∧ v = (if a % b = 0 then a / b else a / b + 1) ∧ er = 0) ∨ (¬ Low a b ∧ v = 0 ∧ er = 1)
theorem floorres_ex (a b : Int) : ∃ v er, FloorRes a b v er := by
  by_cases k : Low a b
  · exact ⟨_, 0, .inl ⟨k, rfl, rfl⟩⟩
  · exact ⟨0, 1, .inr ⟨k, rfl, rfl⟩⟩
theorem ceilres_ex (a b : Int) : ∃ v er, CeilRes a b v er := by
  by_cases k : Low a b
  · exact ⟨_, 0, .inl ⟨k, rfl, rfl⟩⟩
  · exact ⟨0, 1, .inr ⟨k, rfl, rfl⟩⟩

theorem prod_small {a b : Int} (fa : Fit1 a) (b0 : -9223372036854775807 ≤ b) (b1 : b ≤ 9223372036854775807) :
    -85070591730234615856620279821087277056 ≤ a * b ∧ a * b ≤ 85070591730234615856620279821087277056 := by
  unfold Fit1 at fa
  have h1 : (a * b).natAbs ≤ 9223372036854775808 * 9223372036854775807 := by
    rw [Int.natAbs_mul]; exact Nat.mul_le_mul (by omega) (by omega)
  omega

end Go.Proofs.YtoeifpeiogeenaaGreatDoor.Qm

namespace Go.Proofs.YtoeifpeiogeenaaGreatDoor.Qc
set_option linter.unusedSimpArgs false
set_option linter.unusedVariables false
open Go.RowKit Go.Proofs.YtoeifpeiogeenaaGreatDoor.Vm Go.Proofs.YtoeifpeiogeenaaGreatDoor.Vc Go.Proofs.YtoeifpeiogeenaaGreatDoor.Pr Go.Proofs.YtoeifpeiogeenaaGreatDoor.Qm

set_option maxHeartbeats 400000

theorem gcd_le {N D : Int} (h : 0 < D) : (Int.gcd N D : Int) ≤ D ∧ 0 < (Int.gcd N D : Int) := by
  have h1 := Int.le_of_dvd h (Int.gcd_dvd_right N D)
  have h2 : 0 < Int.gcd N D := Int.gcd_pos_of_ne_zero_right N (by omega)
  omega

theorem Check_yes (N D : Int) (w : World) (fN : Fit1 N) (fD : Fit1 D) (h : Low N D) :
    Calls Tryz.prog 34 #[.agg #[.int .i64 N, .int .i64 D]] w fun e w' => e = .returned (.int .i64 0) ∧ Below w.heap.size w w' := by
  have cg := fun w => Wc.gcd_to N D 1 w fN fD (by rw [h.2]; rfl) (by unfold Fit1; omega)
  have d1 : decide (D ≤ 0) = false := decide_eq_false (by have := h.1; omega)
  clear h fN fD
  go_enter Tryz.func34, Tryz.ntmps34
  go_wp2_with fail
  refine (cg _).mono ?_
  rintro e w' ⟨rfl, n, rfl⟩
  go_wp2
  go_ret
  exact ⟨rfl, below_drewN ((Below.refl _ _).alloc (Nat.le_refl _) _) _⟩

theorem Check_no (N D : Int) (w : World) (fN : Fit1 N) (fD : Fit1 D) (h : ¬ Low N D) :
    Calls Tryz.prog 34 #[.agg #[.int .i64 N, .int .i64 D]] w fun e w' => e = .returned (.int .i64 1) ∧ Below w.heap.size w w' := by
  by_cases c : D ≤ 0
  · clear h fN fD
    go_enter Tryz.func34, Tryz.ntmps34
    go_wp2
    go_ret
    exact ⟨rfl, (Below.refl _ _).alloc (Nat.le_refl _) _⟩
  · have g0 := gcd_le (N := N) (D := D) (by omega)
    obtain ⟨g, hg⟩ : ∃ g, g = (Int.gcd N D : Int) := ⟨_, rfl⟩
    rw [← hg] at g0
    have cg := fun w => Wc.gcd_to N D g w fN fD hg (by unfold Fit1 at *; omega)
    have d1 : decide (D ≤ 0) = false := decide_eq_false c
    have d2 : (g != 1) = true := by
      rw [bne_iff_ne]; intro e; exact h ⟨by omega, by omega⟩
    clear h fN fD hg c g0
    go_enter Tryz.func34, Tryz.ntmps34
    go_wp2_with fail
    refine (cg _).mono ?_
    rintro e w' ⟨rfl, n, rfl⟩
    go_wp2
    go_ret
    exact ⟨rfl, below_drewN ((Below.refl _ _).alloc (Nat.le_refl _) _) _⟩

theorem fitting_any (h1 l1 h2 l2 N D er : Int) (w : World) (b1 : Bd h1 l1) (b2 : Bd h2 l2) (F : FitRes (num h1 l1) (num h2 l2) N D er) :
    Calls Tryz.prog 109 #[.agg #[.int .i64 h1, .int .u64 l1], .agg #[.int .i64 h2, .int .u64 l2]] w fun e w' =>
      e = .returned (.tuple #[.agg #[.int .i64 N, .int .i64 D], .int .i64 er]) ∧ Below w.heap.size w w' := by
  obtain ⟨v1, e1, r1⟩ := res1_ex (num h1 l1)
  obtain ⟨v2, e2, r2⟩ := res1_ex (num h2 l2)
  have cf1 := fun w => Fit_any h1 l1 v1 e1 w b1 r1
  have cf2 := fun w => Fit_any h2 l2 v2 e2 w b2 r2
  have O : (e1 ≠ 0 ∧ N = 0 ∧ D = 0 ∧ er = e1) ∨ (e1 = 0 ∧ e2 ≠ 0 ∧ N = 0 ∧ D = 0 ∧ er = e2) ∨ (e1 = 0 ∧ e2 = 0 ∧ N = v1 ∧ D = v2 ∧ er = 0) := by
    rcases r1 with ⟨rfl, rfl, f1⟩ | ⟨rfl, rfl, f1⟩
    · rcases r2 with ⟨rfl, rfl, f2⟩ | ⟨rfl, rfl, f2⟩
      · rcases F with ⟨rfl, rfl, rfl, _⟩ | ⟨_, _, _, no⟩
        · exact .inr (.inr ⟨rfl, rfl, rfl, rfl, rfl⟩)
        · exact absurd ⟨f1, f2⟩ no
      · rcases F with ⟨_, _, _, _, f⟩ | ⟨rfl, rfl, rfl, no⟩
        · exact absurd f f2
        · exact .inr (.inl ⟨rfl, by decide, rfl, rfl, rfl⟩)
    · rcases F with ⟨_, _, _, f, _⟩ | ⟨rfl, rfl, rfl, no⟩
      · exact absurd f f1
      · exact .inl ⟨by decide, rfl, rfl, rfl⟩
  clear F r1 r2 b1 b2
  rcases O with ⟨o1, rfl, rfl, rfl⟩ | ⟨rfl, o2, rfl, rfl, rfl⟩ | ⟨rfl, rfl, rfl, rfl, rfl⟩
  · have d1 : (er != 0) = true := bne_iff_ne.2 o1
    clear o1
    go_enter Tryz.func109, Tryz.ntmps109
    go_wp2_with fail
    refine (cf1 _).mono ?_
    rintro e w1 ⟨rfl, hb1⟩
    have P3 := (Two.new _ (.int .i64 0) (.int .i64 0) 72).kept hb1
    have B1 := bthen (balloc (balloc (balloc (Below.refl _ w) _) _) _) hb1
    clear hb1
    obtain ⟨z, c0, c1, f0, f1⟩ := id P3
    simp only [World.size_alloc] at z c0 c1 f0 f1
    go_wp2
    refine bodyPost_ret (v := .tuple #[.agg #[.int .i64 0, .int .i64 0], .int .i64 er]) (by simp [results, Tryz.results109, go_sem, c0, c1]) rfl ⟨rfl, ?_⟩
    exact bset (bset B1 (by omega) _ _) (by omega) _ _
  all_goals
    go_enter Tryz.func109, Tryz.ntmps109
    go_wp2_with fail
    refine (cf1 _).mono ?_
    rintro e w1 ⟨rfl, hb1⟩
    have P2 := ((Two.new _ (.int .i64 h2) (.int .u64 l2) 106).alloc (.cells #[.int .i64 0, .int .i64 0] 72)).kept hb1
    have P3 := (Two.new _ (.int .i64 0) (.int .i64 0) 72).kept hb1
    have B1 := bthen (balloc (balloc (balloc (Below.refl _ w) _) _) _) hb1
    clear hb1
    obtain ⟨z', d0, d1, _, _⟩ := id P2
    simp only [World.size_alloc] at z' d0 d1
    go_wp2_with fail
    refine (cf2 _).mono ?_
    rintro e w2 ⟨rfl, hb2⟩
    replace P3 := P3.kept hb2
    replace B1 := bthen B1 hb2
    clear hb2 z' d0 d1
    obtain ⟨z, c0, c1, f0, f1⟩ := id P3
    simp only [World.size_alloc] at z c0 c1 f0 f1
  · have d1 : (er != 0) = true := bne_iff_ne.2 o2
    clear o2
    go_wp2
    refine bodyPost_ret (v := .tuple #[.agg #[.int .i64 0, .int .i64 0], .int .i64 er]) (by simp [results, Tryz.results109, go_sem, c0, c1]) rfl ⟨rfl, ?_⟩
    exact bset (bset B1 (by omega) _ _) (by omega) _ _
  · go_wp2
    refine bodyPost_ret (v := .tuple #[.agg #[.int .i64 N, .int .i64 D], .int .i64 0]) (by simp [results, Tryz.results109, go_sem, c0, c1]) rfl ⟨rfl, ?_⟩
    exact bset (bset B1 (by omega) _ _) (by omega) _ _

/-- both cut by what divides them; g: that, or -2^63 -/
theorem lowest_any (n d x y g : Int) (w : World) (fn : Fit1 n) (fd : Fit1 d) (fx : Fit1 x) (fy : Fit1 y) (g0 : g ≠ 0) (en : n = g * x) (ed : d = g * y)
    (hg : (Fit1 g ∧ g = (Int.gcd n d : Int)) ∨ (¬ Fit1 (Int.gcd n d : Int) ∧ g = -9223372036854775808)) :
    Calls Tryz.prog 108 #[.int .i64 n, .int .i64 d] w fun e w' => e = .returned (.tuple #[.int .i64 x, .int .i64 y]) ∧ Wc.Drew w w' := by
  have k1 : n.tdiv g = x := by rw [en]; exact Int.mul_tdiv_cancel_left x g0
  have k2 : d.tdiv g = y := by rw [ed]; exact Int.mul_tdiv_cancel_left y g0
  have k3 : IntKind.i64.wrap x = x := IntWalk.i64_in _ fx
  have k4 : IntKind.i64.wrap y = y := IntWalk.i64_in _ fy
  have d0 : (g == 0) = false := beq_eq_false_iff_ne.2 g0
  have fin : ∀ n m, Wc.Drew w ((w.drewN n).drewN m) := fun n m => ⟨n + m, by rw [World.drewN_drewN]⟩
  rcases hg with ⟨fg, hg⟩ | ⟨fg, rfl⟩
  · have cg := fun w => Wc.gcd_to n d g w fn fd hg fg
    unfold Fit1 at fx fy fg
    obtain ⟨fx0, fx1⟩ := fx
    obtain ⟨fy0, fy1⟩ := fy
    obtain ⟨fg0, fg1⟩ := fg
    clear hg fn fd en ed
    go_enter Tryz.func108, Tryz.ntmps108
    go_wp2_with fail
    refine (cg _).mono ?_
    rintro e w1 ⟨rfl, n1, rfl⟩
    go_wp2
    go_quiet (fail)
    go_wp2
    go_ret2
    exact ⟨rfl, fin _ _⟩
  · have cg := fun w => Wc.gcd_lost n d w fn fd fg
    unfold Fit1 at fx fy
    obtain ⟨fx0, fx1⟩ := fx
    obtain ⟨fy0, fy1⟩ := fy
    clear fg fn fd en ed
    go_enter Tryz.func108, Tryz.ntmps108
    go_wp2_with fail
    refine (cg _).mono ?_
    rintro e w1 ⟨rfl, n1, rfl⟩
    go_wp2
    go_quiet (fail)
    go_wp2
    go_ret2
    exact ⟨rfl, fin _ _⟩

end Go.Proofs.YtoeifpeiogeenaaGreatDoor.Qc

namespace Go.Proofs.YtoeifpeiogeenaaGreatDoor.Qc
set_option linter.unusedSimpArgs false
set_option linter.unusedVariables false
open Go.RowKit Go.Proofs.YtoeifpeiogeenaaGreatDoor.Vm Go.Proofs.YtoeifpeiogeenaaGreatDoor.Vc Go.Proofs.YtoeifpeiogeenaaGreatDoor.Pr Go.Proofs.YtoeifpeiogeenaaGreatDoor.Qm

set_option maxHeartbeats 400000

theorem part_fit {n g x : Int} (fn : Fit1 n) (g0 : 0 < g) (e : n = g * x) : Fit1 x := by
  unfold Fit1 at *
  by_cases c : 0 ≤ x
  · have : 1 * x ≤ g * x := Int.mul_le_mul_of_nonneg_right (by omega) c
    omega
  · have : g * x ≤ 1 * x := Int.mul_le_mul_of_nonpos_right (by omega) (by omega)
    omega

theorem pos_part {g x : Int} (g0 : 0 < g) (h : 0 < g * x) : 0 < x := by
  rcases Int.lt_trichotomy x 0 with c | c | c
  · have := Int.mul_neg_of_pos_of_neg g0 c; omega
  · subst c; rw [Int.mul_zero] at h; omega
  · exact c
theorem neg_part {g x : Int} (g0 : 0 < g) (h : x < 0) : g * x < 0 := Int.mul_neg_of_pos_of_neg g0 h

/-- what lowest cuts by, and what is left -/
theorem low_cut {n d : Int} (fn : Fit1 n) (fd : Fit1 d) (hd : d ≠ 0) : ∃ g x y : Int, Fit1 x ∧ Fit1 y ∧ g ≠ 0 ∧ n = g * x ∧ d = g * y ∧ Int.gcd x y = 1 ∧
    ((Fit1 g ∧ g = (Int.gcd n d : Int)) ∨ (¬ Fit1 (Int.gcd n d : Int) ∧ g = -9223372036854775808)) ∧ y ≠ 0 ∧ (y < 0 → d < 0) ∧ (0 < d → 0 < g) := by
  obtain ⟨g, x, y, g0, hg, en, ed, hc, hy⟩ := gcd_out (a := n) hd
  by_cases c : Fit1 g
  · refine ⟨g, x, y, part_fit fn g0 en, part_fit fd g0 ed, by omega, en, ed, hc, .inl ⟨c, hg⟩, hy, ?_, fun _ => g0⟩
    intro h; rw [ed]; exact neg_part g0 h
  · have g1 : 9223372036854775808 ≤ g := by unfold Fit1 at c; omega
    have yb : y = 1 ∨ y = -1 := by
      rcases Int.lt_trichotomy y 0 with h | h | h
      · right
        have : g * y ≤ 9223372036854775808 * y := Int.mul_le_mul_of_nonpos_right g1 (by omega)
        unfold Fit1 at fd; omega
      · exact absurd h hy
      · left
        have : 9223372036854775808 * y ≤ g * y := Int.mul_le_mul_of_nonneg_right g1 (by omega)
        unfold Fit1 at fd; omega
    have ge : g = 9223372036854775808 ∧ y = -1 := by
      unfold Fit1 at fd
      rcases yb with rfl | rfl <;> omega
    obtain ⟨rfl, rfl⟩ := ge
    have fx : x = 0 ∨ x = -1 := by unfold Fit1 at fn; omega
    refine ⟨-9223372036854775808, -x, 1, by unfold Fit1; omega, by unfold Fit1; omega, by omega, by omega, by omega, by simp, .inr ⟨by rw [← hg]; exact c, rfl⟩, by omega, by omega, by omega⟩

theorem times_any (x p n d N D er : Int) (w : World) (fx : Fit1 x) (fp : Fit1 p) (fn : Fit1 n) (fd : Fit1 d) (hx : Low x p) (hn : Int.gcd n d = 1) (hd : d ≠ 0) (hs : d < 0 → 0 < n)
    (R : Rat1 (x * n) (p * d) N D er) :
    Calls Tryz.prog 72 #[.agg #[.int .i64 x, .int .i64 p], .int .i64 n, .int .i64 d] w fun e w' =>
      e = .returned (.tuple #[.agg #[.int .i64 N, .int .i64 D], .int .i64 er]) ∧ Below w.heap.size w w' := by
  have hpd : p * d ≠ 0 := Int.mul_ne_zero (by have := hx.1; omega) hd
  obtain ⟨g1, x', d', fx', fd', g10, ex, ed, hc1, hg1, hd', sd, _⟩ := low_cut fx fd hd
  obtain ⟨g2, n', p', fn', fp', g20, en, ep, hc2, hg2, hp', _, sp⟩ := low_cut fn fp (by have := hx.1; omega)
  have g2p : 0 < g2 := sp hx.1
  have p'p : 0 < p' := pos_part g2p (by rw [← ep]; exact hx.1)
  have cl1 := fun w => lowest_any x d x' d' g1 w fx fd fx' fd' g10 ex ed hg1
  have cl2 := fun w => lowest_any n p n' p' g2 w fn fp fn' fp' g20 en ep hg2
  by_cases c : d' < 0
  · have n'p : 0 < n' := pos_part g2p (by rw [← en]; exact hs (sd c))
    have n1 : -9223372036854775807 ≤ n' := by omega
    have p1 : -9223372036854775807 ≤ p' := by omega
    have fn'' : Fit1 (-n') := by unfold Fit1 at *; omega
    have fp'' : Fit1 (-p') := by unfold Fit1 at *; omega
    obtain ⟨h1, l1, e1, b1⟩ := words_ex (x := x' * -n') (by have := prod_fits fx' fn''; unfold Fits; omega)
    obtain ⟨h2, l2, e2, b2⟩ := words_ex (x := -p' * d') (by have := prod_fits fp'' fd'; unfold Fits; omega)
    obtain ⟨L, E⟩ := times_low (x := x) (p := p) (n := n) (d := d) (g1 := g1) (x' := x') (d' := d') (g2 := -g2) (n' := -n') (p' := -p') hx.2 hn ex ed hc1 (by rw [en]; exact (Int.neg_mul_neg g2 n').symm) (by rw [ep]; exact (Int.neg_mul_neg g2 p').symm) (by rw [Int.neg_gcd, Int.gcd_neg]; exact hc2) (Int.mul_pos_of_neg_of_neg (by omega) c)
    rw [← e1, ← e2] at L E
    have F := fitres_of hpd L E R
    have cm1 := fun w => Mul_any x' (-n') h1 l1 w fx' fn'' b1 e1
    have cm2 := fun w => Mul_any (-p') d' h2 l2 w fp'' fd' b2 e2
    have cf := fun w => fitting_any h1 l1 h2 l2 N D er w b1 b2 F
    unfold Fit1 at fn' fp'
    obtain ⟨_, fn1⟩ := fn'
    obtain ⟨_, fp1⟩ := fp'
    clear L E F b1 b2 e1 e2 R hx hn hd hs hpd ex ed en ep hc1 hc2 hg1 hg2 hd' hp' sd sp fx fp fn fd fx' fd' fn'' fp'' g10 g20 g2p
    go_enter Tryz.func72, Tryz.ntmps72
    go_wp2_with fail
    refine (cl1 _).mono ?_
    rintro e w1 ⟨rfl, m1, rfl⟩
    go_wp2_with fail
    refine (cl2 _).mono ?_
    rintro e w1 ⟨rfl, m2, rfl⟩
    go_wp2_with fail
    refine (cm1 _).mono ?_
    rintro e w1 ⟨rfl, hb1⟩
    have P4 := ((Two.new (w.alloc (.cells #[.int .i64 x, .int .i64 p] 72)) (.int .i64 0) (.int .i64 0) 72).drewN (m1 + m2)).kept hb1
    have B1 := bthen (bdrewN (balloc (balloc (Below.refl _ w) _) _) (m1 + m2)) hb1
    clear hb1
    go_wp2_with fail
    refine (cm2 _).mono ?_
    rintro e w2 ⟨rfl, hb1⟩
    replace P4 := P4.kept hb1
    replace B1 := bthen B1 hb1
    clear hb1
    go_wp2_with fail
    refine (cf _).mono ?_
    rintro e w3 ⟨rfl, hb1⟩
    replace P4 := P4.kept hb1
    replace B1 := bthen B1 hb1
    clear hb1
    obtain ⟨z, c0, c1, f0, f1⟩ := id P4
    simp only [World.size_alloc] at z c0 c1 f0 f1
    go_wp2
    refine bodyPost_ret (v := .tuple #[.agg #[.int .i64 N, .int .i64 D], .int .i64 er]) (by simp [results, Tryz.results72, go_sem, c0, c1]) rfl ⟨rfl, ?_⟩
    exact bset (bset B1 (by simp) _ _) (by simp) _ _
  · have d'p : 0 < d' := by omega
    have d2 : decide (d' < 0) = false := decide_eq_false c
    obtain ⟨h1, l1, e1, b1⟩ := words_ex (x := x' * n') (by have := prod_fits fx' fn'; unfold Fits; omega)
    obtain ⟨h2, l2, e2, b2⟩ := words_ex (x := p' * d') (by have := prod_fits fp' fd'; unfold Fits; omega)
    obtain ⟨L, E⟩ := times_low (x := x) (p := p) (n := n) (d := d) (g1 := g1) (x' := x') (d' := d') (g2 := g2) (n' := n') (p' := p') hx.2 hn ex ed hc1 en ep hc2 (Int.mul_pos p'p d'p)
    rw [← e1, ← e2] at L E
    have F := fitres_of hpd L E R
    have cm1 := fun w => Mul_any x' n' h1 l1 w fx' fn' b1 e1
    have cm2 := fun w => Mul_any p' d' h2 l2 w fp' fd' b2 e2
    have cf := fun w => fitting_any h1 l1 h2 l2 N D er w b1 b2 F
    clear L E F b1 b2 e1 e2 R hx hn hd hs hpd ex ed en ep hc1 hc2 hg1 hg2 hd' hp' sd sp fx fp fn fd fx' fd' fn' fp' g10 g20 g2p c
    go_enter Tryz.func72, Tryz.ntmps72
    go_wp2_with fail
    refine (cl1 _).mono ?_
    rintro e w1 ⟨rfl, m1, rfl⟩
    go_wp2_with fail
    refine (cl2 _).mono ?_
    rintro e w1 ⟨rfl, m2, rfl⟩
    go_wp2_with fail
    refine (cm1 _).mono ?_
    rintro e w1 ⟨rfl, hb1⟩
    have P4 := ((Two.new (w.alloc (.cells #[.int .i64 x, .int .i64 p] 72)) (.int .i64 0) (.int .i64 0) 72).drewN (m1 + m2)).kept hb1
    have B1 := bthen (bdrewN (balloc (balloc (Below.refl _ w) _) _) (m1 + m2)) hb1
    clear hb1
    go_wp2_with fail
    refine (cm2 _).mono ?_
    rintro e w2 ⟨rfl, hb1⟩
    replace P4 := P4.kept hb1
    replace B1 := bthen B1 hb1
    clear hb1
    go_wp2_with fail
    refine (cf _).mono ?_
    rintro e w3 ⟨rfl, hb1⟩
    replace P4 := P4.kept hb1
    replace B1 := bthen B1 hb1
    clear hb1
    obtain ⟨z, c0, c1, f0, f1⟩ := id P4
    simp only [World.size_alloc] at z c0 c1 f0 f1
    go_wp2
    refine bodyPost_ret (v := .tuple #[.agg #[.int .i64 N, .int .i64 D], .int .i64 er]) (by simp [results, Tryz.results72, go_sem, c0, c1]) rfl ⟨rfl, ?_⟩
    exact bset (bset B1 (by simp) _ _) (by simp) _ _

end Go.Proofs.YtoeifpeiogeenaaGreatDoor.Qc

namespace Go.Proofs.YtoeifpeiogeenaaGreatDoor.Qc
set_option linter.unusedSimpArgs false
set_option linter.unusedVariables false
open Go.RowKit Go.Proofs.YtoeifpeiogeenaaGreatDoor.Vm Go.Proofs.YtoeifpeiogeenaaGreatDoor.Vc Go.Proofs.YtoeifpeiogeenaaGreatDoor.Pr Go.Proofs.YtoeifpeiogeenaaGreatDoor.Qm

set_option maxHeartbeats 400000

theorem Make_any (n d N D er : Int) (w : World) (fn : Fit1 n) (fd : Fit1 d) (R : MakeRes n d N D er) :
    Calls Tryz.prog 35 #[.int .i64 n, .int .i64 d] w fun e w' =>
      e = .returned (.tuple #[.agg #[.int .i64 N, .int .i64 D], .int .i64 er]) ∧ Below w.heap.size w w' := by
  rcases R with ⟨rfl, rfl, rfl, rfl⟩ | ⟨hd, R⟩
  · go_enter Tryz.func35, Tryz.ntmps35
    go_wp2
    refine bodyPost_ret (v := .tuple #[.agg #[.int .i64 0, .int .i64 0], .int .i64 3]) (by simp [results, Tryz.results35, go_sem]) rfl ⟨rfl, ?_⟩
    exact balloc (Below.refl _ w) _
  · have d0 : (d == 0) = false := beq_eq_false_iff_ne.2 hd
    have ct := fun w => times_any n 1 1 d N D er w fn (by unfold Fit1; omega) (by unfold Fit1; omega) fd ⟨by omega, by simp⟩ (by simp) hd (by omega) (by simpa using R)
    clear R hd fn fd
    go_enter Tryz.func35, Tryz.ntmps35
    go_wp2_with fail
    refine (ct _).mono ?_
    rintro e w1 ⟨rfl, hb1⟩
    have P4 := (Two.new w (.int .i64 0) (.int .i64 0) 72).kept hb1
    have B1 := bthen (balloc (Below.refl _ w) _) hb1
    clear hb1
    obtain ⟨z, c0, c1, f0, f1⟩ := id P4
    go_wp2
    refine bodyPost_ret (v := .tuple #[.agg #[.int .i64 N, .int .i64 D], .int .i64 er]) (by simp [results, Tryz.results35, go_sem, c0, c1]) rfl ⟨rfl, ?_⟩
    exact bset (bset B1 (by simp) _ _) (by simp) _ _

theorem mulf_any (p q : Nat) (a b c d N D er : Int) (w : World) (A : Two w p (.int .i64 a) (.int .i64 b)) (B : Two w q (.int .i64 c) (.int .i64 d)) (fa : Fit1 a) (fb : Fit1 b) (fc : Fit1 c) (fd : Fit1 d)
    (h1 : Low a b) (h2 : Low c d) (R : Rat1 (a * c) (b * d) N D er) :
    Calls Tryz.prog 74 #[.pointer (some ⟨p, 0, none⟩), .pointer (some ⟨q, 0, none⟩)] w fun e w' =>
      e = .returned (.tuple #[.agg #[.int .i64 N, .int .i64 D], .int .i64 er]) ∧ Below w.heap.size w w' := by
  have ct := fun w => times_any a b c d N D er w fa fb fc fd h1 h2.2 (by have := h2.1; omega) (by have := h2.1; omega) R
  clear R h1 h2 fa fb fc fd
  obtain ⟨z1, a0, a1, _, _⟩ := id A
  obtain ⟨z2, b0, b1, _, _⟩ := id B
  go_enter Tryz.func74, Tryz.ntmps74
  go_wp2_with fail
  refine (ct _).mono ?_
  rintro e w1 ⟨rfl, hb1⟩
  have P4 := (Two.new w (.int .i64 0) (.int .i64 0) 72).kept hb1
  have B1 := bthen (balloc (Below.refl _ w) _) hb1
  clear hb1 z1 a0 a1 z2 b0 b1 A B
  obtain ⟨z, c0, c1, f0, f1⟩ := id P4
  go_wp2
  refine bodyPost_ret (v := .tuple #[.agg #[.int .i64 N, .int .i64 D], .int .i64 er]) (by simp [results, Tryz.results74, go_sem, c0, c1]) rfl ⟨rfl, ?_⟩
  exact bset (bset B1 (by simp) _ _) (by simp) _ _

theorem counted_yes (K : Nat) (caps : Array Value) (a b c d N D er : Int) (w : World) (fa : Fit1 a) (fb : Fit1 b) (fc : Fit1 c) (fd : Fit1 d)
    (h1 : Low a b) (h2 : Low c d) (hE : ∀ w1, Sem.run Tryz.prog (callFunc K caps) w1 = .ok (.enter K caps) w1) (hK : ∀ w1, Below w.heap.size w w1 → Calls Tryz.prog K caps w1 fun e w' => e = .returned (.tuple #[.agg #[.int .i64 N, .int .i64 D], .int .i64 er]) ∧ Below w1.heap.size w1 w') :
    Calls Tryz.prog 73 #[.agg #[.int .i64 a, .int .i64 b], .agg #[.int .i64 c, .int .i64 d], .func (.func K) #[] caps] w fun e w' =>
      e = .returned (.tuple #[.agg #[.int .i64 N, .int .i64 D], .int .i64 er]) ∧ Below w.heap.size w w' := by
  have c1 := fun w => Check_yes a b w fa fb h1
  have c2 := fun w => Check_yes c d w fc fd h2
  clear h1 h2 fa fb fc fd
  go_enter Tryz.func73, Tryz.ntmps73
  go_wp2_with fail
  refine (c1 _).mono ?_
  rintro e w1 ⟨rfl, hb1⟩
  have P2 := ((Two.new (w.alloc (.cells #[.int .i64 a, .int .i64 b] 72)) (.int .i64 c) (.int .i64 d) 72).alloc (.cells #[.int .i64 0, .int .i64 0] 72)).alloc (.cells #[.int .i64 0, .int .i64 0] 72)
  replace P2 := P2.kept hb1
  have P3 := ((Two.new ((w.alloc (.cells #[.int .i64 a, .int .i64 b] 72)).alloc (.cells #[.int .i64 c, .int .i64 d] 72)) (.int .i64 0) (.int .i64 0) 72).alloc (.cells #[.int .i64 0, .int .i64 0] 72)).kept hb1
  have B1 := bthen (balloc (balloc (balloc (balloc (Below.refl _ w) _) _) _) _) hb1
  clear hb1
  obtain ⟨z2, b0, b1, _, _⟩ := id P2
  simp only [World.size_alloc] at z2 b0 b1 P3
  go_wp2_with fail
  refine (c2 _).mono ?_
  rintro e w2 ⟨rfl, hb1⟩
  replace P3 := P3.kept hb1
  replace B1 := bthen B1 hb1
  clear hb1 z2 b0 b1 P2
  go_wp2_with fail
  refine (hK _ B1).mono ?_
  rintro e w3 ⟨rfl, hb1⟩
  replace P3 := P3.kept hb1
  replace B1 := bthen B1 hb1
  clear hb1
  obtain ⟨z, c0, c1, f0, f1⟩ := id P3
  go_wp2
  refine bodyPost_ret (v := .tuple #[.agg #[.int .i64 N, .int .i64 D], .int .i64 er]) (by simp [results, Tryz.results73, go_sem, c0, c1]) rfl ⟨rfl, ?_⟩
  exact bset (bset B1 (by omega) _ _) (by omega) _ _

theorem counted_no (K : Nat) (caps : Array Value) (a b c d : Int) (w : World) (fa : Fit1 a) (fb : Fit1 b) (fc : Fit1 c) (fd : Fit1 d) (h : ¬ (Low a b ∧ Low c d)) :
    Calls Tryz.prog 73 #[.agg #[.int .i64 a, .int .i64 b], .agg #[.int .i64 c, .int .i64 d], .func (.func K) #[] caps] w fun e w' =>
      e = .returned (.tuple #[.agg #[.int .i64 0, .int .i64 0], .int .i64 1]) ∧ Below w.heap.size w w' := by
  by_cases h1 : Low a b
  · have c1 := fun w => Check_yes a b w fa fb h1
    have c2 := fun w => Check_no c d w fc fd (fun h2 => h ⟨h1, h2⟩)
    clear h h1 fa fb fc fd
    go_enter Tryz.func73, Tryz.ntmps73
    go_wp2_with fail
    refine (c1 _).mono ?_
    rintro e w1 ⟨rfl, hb1⟩
    have P2 := ((Two.new (w.alloc (.cells #[.int .i64 a, .int .i64 b] 72)) (.int .i64 c) (.int .i64 d) 72).alloc (.cells #[.int .i64 0, .int .i64 0] 72)).alloc (.cells #[.int .i64 0, .int .i64 0] 72)
    replace P2 := P2.kept hb1
    have P3 := ((Two.new ((w.alloc (.cells #[.int .i64 a, .int .i64 b] 72)).alloc (.cells #[.int .i64 c, .int .i64 d] 72)) (.int .i64 0) (.int .i64 0) 72).alloc (.cells #[.int .i64 0, .int .i64 0] 72)).kept hb1
    have P5 := (Two.new (((w.alloc (.cells #[.int .i64 a, .int .i64 b] 72)).alloc (.cells #[.int .i64 c, .int .i64 d] 72)).alloc (.cells #[.int .i64 0, .int .i64 0] 72)) (.int .i64 0) (.int .i64 0) 72).kept hb1
    have B1 := bthen (balloc (balloc (balloc (balloc (Below.refl _ w) _) _) _) _) hb1
    clear hb1
    obtain ⟨z2, b0, b1, _, _⟩ := id P2
    simp only [World.size_alloc] at z2 b0 b1 P3 P5
    go_wp2_with fail
    refine (c2 _).mono ?_
    rintro e w2 ⟨rfl, hb1⟩
    replace P3 := P3.kept hb1
    replace P5 := P5.kept hb1
    replace B1 := bthen B1 hb1
    clear hb1 z2 b0 b1 P2
    obtain ⟨z, c0, c1, f0, f1⟩ := id P3
    obtain ⟨z5, d0, d1, _, _⟩ := id P5
    go_wp2
    refine bodyPost_ret (v := .tuple #[.agg #[.int .i64 0, .int .i64 0], .int .i64 1]) (by simp [results, Tryz.results73, go_sem, c0, c1]) rfl ⟨rfl, ?_⟩
    exact bset (bset B1 (by omega) _ _) (by omega) _ _
  · have c1 := fun w => Check_no a b w fa fb h1
    clear h h1 fa fb fc fd
    go_enter Tryz.func73, Tryz.ntmps73
    go_wp2_with fail
    refine (c1 _).mono ?_
    rintro e w1 ⟨rfl, hb1⟩
    have P3 := ((Two.new ((w.alloc (.cells #[.int .i64 a, .int .i64 b] 72)).alloc (.cells #[.int .i64 c, .int .i64 d] 72)) (.int .i64 0) (.int .i64 0) 72).alloc (.cells #[.int .i64 0, .int .i64 0] 72)).kept hb1
    have P5 := (Two.new (((w.alloc (.cells #[.int .i64 a, .int .i64 b] 72)).alloc (.cells #[.int .i64 c, .int .i64 d] 72)).alloc (.cells #[.int .i64 0, .int .i64 0] 72)) (.int .i64 0) (.int .i64 0) 72).kept hb1
    have B1 := bthen (balloc (balloc (balloc (balloc (Below.refl _ w) _) _) _) _) hb1
    clear hb1
    simp only [World.size_alloc] at P3 P5
    obtain ⟨z, c0, c1, f0, f1⟩ := id P3
    obtain ⟨z5, d0, d1, _, _⟩ := id P5
    go_wp2
    refine bodyPost_ret (v := .tuple #[.agg #[.int .i64 0, .int .i64 0], .int .i64 1]) (by simp [results, Tryz.results73, go_sem, c0, c1]) rfl ⟨rfl, ?_⟩
    exact bset (bset B1 (by omega) _ _) (by omega) _ _

set_option maxRecDepth 100000 in
theorem Mul_op (a b c d N D er : Int) (w : World) (fa : Fit1 a) (fb : Fit1 b) (fc : Fit1 c) (fd : Fit1 d) (R : OpRes a b c d (a * c) (b * d) N D er) :
    Calls Tryz.prog 36 #[.agg #[.int .i64 a, .int .i64 b], .agg #[.int .i64 c, .int .i64 d]] w fun e w' =>
      e = .returned (.tuple #[.agg #[.int .i64 N, .int .i64 D], .int .i64 er]) ∧ Below w.heap.size w w' := by
  have P1 := ((Two.new w (.int .i64 a) (.int .i64 b) 72).alloc (.cells #[.int .i64 c, .int .i64 d] 72)).alloc (.cells #[.int .i64 0, .int .i64 0] 72)
  have P2 := (Two.new (w.alloc (.cells #[.int .i64 a, .int .i64 b] 72)) (.int .i64 c) (.int .i64 d) 72).alloc (.cells #[.int .i64 0, .int .i64 0] 72)
  have P3 := Two.new ((w.alloc (.cells #[.int .i64 a, .int .i64 b] 72)).alloc (.cells #[.int .i64 c, .int .i64 d] 72)) (.int .i64 0) (.int .i64 0) 72
  have B0 := balloc (balloc (balloc (Below.refl _ w) (.cells #[.int .i64 a, .int .i64 b] 72)) (.cells #[.int .i64 c, .int .i64 d] 72)) (.cells #[.int .i64 0, .int .i64 0] 72)
  simp only [World.size_alloc] at P1 P2 P3
  have ct : Calls Tryz.prog 73 #[.agg #[.int .i64 a, .int .i64 b], .agg #[.int .i64 c, .int .i64 d], .func (.func 74) #[] #[.pointer (some ⟨w.heap.size, 0, none⟩), .pointer (some ⟨w.heap.size + 1, 0, none⟩)]]
      (((w.alloc (.cells #[.int .i64 a, .int .i64 b] 72)).alloc (.cells #[.int .i64 c, .int .i64 d] 72)).alloc (.cells #[.int .i64 0, .int .i64 0] 72)) fun e w' =>
      e = .returned (.tuple #[.agg #[.int .i64 N, .int .i64 D], .int .i64 er]) ∧ Below w.heap.size w w' ∧ Two w' (w.heap.size + 1 + 1) (.int .i64 0) (.int .i64 0) := by
    rcases R with ⟨h1, h2, R⟩ | ⟨h, rfl, rfl, rfl⟩
    · refine (counted_yes _ _ a b c d N D er _ fa fb fc fd h1 h2 (fun w1 => by rfl) (fun w1 hb => mulf_any _ _ a b c d N D er w1 (P1.kept hb) (P2.kept hb) fa fb fc fd h1 h2 R)).mono ?_
      rintro e w1 ⟨rfl, hb⟩
      exact ⟨rfl, bthen B0 hb, P3.kept hb⟩
    · refine (counted_no _ _ a b c d _ fa fb fc fd h).mono ?_
      rintro e w1 ⟨rfl, hb⟩
      exact ⟨rfl, bthen B0 hb, P3.kept hb⟩
  clear R fa fb fc fd P1 P2 P3 B0
  go_enter Tryz.func36, Tryz.ntmps36
  go_wp2_with fail
  refine ct.mono ?_
  rintro e w1 ⟨rfl, B1, P3⟩
  clear ct
  obtain ⟨z, c0, c1, f0, f1⟩ := id P3
  go_wp2
  refine bodyPost_ret (v := .tuple #[.agg #[.int .i64 N, .int .i64 D], .int .i64 er]) (by simp [results, Tryz.results36, go_sem, c0, c1]) rfl ⟨rfl, ?_⟩
  exact bset (bset B1 (by omega) _ _) (by omega) _ _

end Go.Proofs.YtoeifpeiogeenaaGreatDoor.Qc

namespace Go.Proofs.YtoeifpeiogeenaaGreatDoor.Qm
set_option linter.unusedSimpArgs false
set_option linter.unusedVariables false
open Go.Proofs.YtoeifpeiogeenaaGreatDoor.Vm

theorem rat1_same {n d n' d' N D er : Int} (hd : d ≠ 0) (hd' : d' ≠ 0) (e : n * d' = n' * d) (r : Rat1 n d N D er) : Rat1 n' d' N D er := by
  have key : ∀ N' D' : Int, N' * d' = n' * D' ↔ N' * d = n * D' := by
    intro N' D'
    constructor
    · intro h
      apply mul_same hd'
      calc d' * (N' * d) = N' * d' * d := by ac_rfl
        _ = n' * D' * d := by rw [h]
        _ = n' * d * D' := by ac_rfl
        _ = n * d' * D' := by rw [e]
        _ = d' * (n * D') := by ac_rfl
    · intro h
      apply mul_same hd
      calc d * (N' * d') = N' * d * d' := by ac_rfl
        _ = n * D' * d' := by rw [h]
        _ = n * d' * D' := by ac_rfl
        _ = n' * d * D' := by rw [e]
        _ = d * (n' * D') := by ac_rfl
  rcases r with ⟨h0, l, h, f⟩ | ⟨h0, h1, h2, no⟩
  · exact .inl ⟨h0, l, (key _ _).2 h, f⟩
  · exact .inr ⟨h0, h1, h2, fun N' D' l h => no N' D' l ((key _ _).1 h)⟩

theorem rat1_low {n d N D : Int} (r : Rat1 n d N D 0) : Low N D ∧ N * d = n * D ∧ Fit1 N ∧ Fit1 D := by
  rcases r with ⟨_, l, e, f⟩ | ⟨h, _⟩
  · exact ⟨l, e, f⟩
  · omega
theorem rat1_er {n d N D er : Int} (r : Rat1 n d N D er) : er = 0 ∨ (er = 2 ∧ N = 0 ∧ D = 0) := by
  rcases r with ⟨h, _⟩ | ⟨h, h1, h2, _⟩
  · exact .inl h
  · exact .inr ⟨h, h1, h2⟩
theorem low_ne {a b c d : Int} (h1 : Low a b) (h2 : Low c d) : b * d ≠ 0 := Int.mul_ne_zero (by have := h1.1; omega) (by have := h2.1; omega)

theorem opres_fit {a b c d n m N D er : Int} (r : OpRes a b c d n m N D er) : Fit1 N ∧ Fit1 D := by
  rcases r with ⟨_, _, r⟩ | ⟨_, rfl, rfl, _⟩
  · exact rat1_fit r
  · unfold Fit1; omega
theorem opres_ok {a b c d n m N D : Int} (r : OpRes a b c d n m N D 0) : Low a b ∧ Low c d ∧ Low N D ∧ N * m = n * D ∧ Fit1 N ∧ Fit1 D := by
  rcases r with ⟨h1, h2, r⟩ | ⟨_, _, _, h⟩
  · have := rat1_low r; exact ⟨h1, h2, this.1, this.2⟩
  · omega
theorem makeres_fit {n d N D er : Int} (r : MakeRes n d N D er) : Fit1 N ∧ Fit1 D := by
  rcases r with ⟨_, rfl, rfl, _⟩ | ⟨_, r⟩
  · unfold Fit1; omega
  · exact rat1_fit r
theorem divres2_fit {a b c d N D er : Int} (r : DivRes2 a b c d N D er) : Fit1 N ∧ Fit1 D := by
  rcases r with ⟨_, _, r⟩ | ⟨_, rfl, rfl, _⟩
  · exact makeres_fit r
  · unfold Fit1; omega

/-- what was added is taken away again -/
theorem back_sub {a b c d N D : Int} (fa : Fit1 a) (fb : Fit1 b) (r : OpRes a b c d (a * d + c * b) (b * d) N D 0) : OpRes N D c d (N * d - c * D) (D * d) a b 0 := by
  obtain ⟨h1, h2, h3, e, _, _⟩ := opres_ok r
  refine .inl ⟨h3, h2, .inl ⟨rfl, h1, ?_, fa, fb⟩⟩
  rw [Int.add_mul] at e
  rw [Int.sub_mul]
  have e1 : a * d * D = a * (D * d) := by ac_rfl
  have e2 : c * b * D = c * D * b := by ac_rfl
  have e3 : N * (b * d) = N * d * b := by ac_rfl
  omega
/-- what multiplied divides again -/
theorem back_div {a b c d N D : Int} (fa : Fit1 a) (fb : Fit1 b) (hc : c ≠ 0) (r : OpRes a b c d (a * c) (b * d) N D 0) : DivRes2 N D c d a b 0 := by
  obtain ⟨h1, h2, h3, e, _, _⟩ := opres_ok r
  refine .inl ⟨h3, h2, .inr ⟨Int.mul_ne_zero (by have := h3.1; omega) hc, .inl ⟨rfl, h1, ?_, fa, fb⟩⟩⟩
  have e1 : a * c * D = a * (D * c) := by ac_rfl
  have e3 : N * (b * d) = N * d * b := by ac_rfl
  omega

/-- sums and products hang on no order -/
theorem op_swap {a b c d n m n' m' N D er : Int} (hn : n = n') (hm : m = m') (r : OpRes a b c d n m N D er) : OpRes c d a b n' m' N D er := by
  subst hn hm
  rcases r with ⟨h1, h2, r⟩ | ⟨h, r⟩
  · exact .inl ⟨h2, h1, r⟩
  · exact .inr ⟨fun k => h ⟨k.2, k.1⟩, r⟩
theorem add_swap {a b c d N D er : Int} (r : OpRes a b c d (a * d + c * b) (b * d) N D er) : OpRes c d a b (c * b + a * d) (d * b) N D er :=
  op_swap (Int.add_comm _ _) (Int.mul_comm _ _) r
theorem mul_swap {a b c d N D er : Int} (r : OpRes a b c d (a * c) (b * d) N D er) : OpRes c d a b (c * a) (d * b) N D er :=
  op_swap (Int.mul_comm _ _) (Int.mul_comm _ _) r

/-- and on no brackets -/
theorem add_brackets {a b c d f g sN sD uN uD N D er : Int} (rs : OpRes a b c d (a * d + c * b) (b * d) sN sD 0) (ru : OpRes c d f g (c * g + f * d) (d * g) uN uD 0)
    (r : OpRes sN sD f g (sN * g + f * sD) (sD * g) N D er) : OpRes a b uN uD (a * uD + uN * b) (b * uD) N D er := by
  obtain ⟨h1, h2, h3, e1, _, _⟩ := opres_ok rs
  obtain ⟨_, h4, h5, e2, _, _⟩ := opres_ok ru
  rcases r with ⟨_, _, r⟩ | ⟨h, _⟩
  · refine .inl ⟨h1, h5, rat1_same (low_ne h3 h4) (low_ne h1 h5) ?_ r⟩
    have hd : d ≠ 0 := by have := h2.1; omega
    apply mul_same hd
    have a1 : d * ((sN * g + f * sD) * (b * uD)) = sN * (b * d) * (g * uD) + f * sD * b * d * uD := by rw [Int.add_mul, Int.mul_add]; congr 1 <;> ac_rfl
    have a2 : d * ((a * uD + uN * b) * (sD * g)) = a * d * uD * sD * g + uN * (d * g) * (b * sD) := by rw [Int.add_mul, Int.mul_add]; congr 1 <;> ac_rfl
    rw [a1, a2, e1, e2]
    have a3 : (a * d + c * b) * sD * (g * uD) = a * d * uD * sD * g + c * b * sD * g * uD := by rw [Int.add_mul, Int.add_mul]; congr 1 <;> ac_rfl
    have a4 : (c * g + f * d) * uD * (b * sD) = c * b * sD * g * uD + f * sD * b * d * uD := by rw [Int.add_mul, Int.add_mul]; congr 1 <;> ac_rfl
    rw [a3, a4]; omega
  · exact absurd ⟨h3, h4⟩ h

/-- a times the sum of b and c -/
theorem mul_over_add {a b c d f g uN uD pN pD vN vD N D er : Int} (ru : OpRes c d f g (c * g + f * d) (d * g) uN uD 0) (rp : OpRes a b c d (a * c) (b * d) pN pD 0) (rv : OpRes a b f g (a * f) (b * g) vN vD 0)
    (r : OpRes a b uN uD (a * uN) (b * uD) N D er) : OpRes pN pD vN vD (pN * vD + vN * pD) (pD * vD) N D er := by
  obtain ⟨h2, h4, h5, e1, _, _⟩ := opres_ok ru
  obtain ⟨h1, _, h6, e2, _, _⟩ := opres_ok rp
  obtain ⟨_, _, h7, e3, _, _⟩ := opres_ok rv
  rcases r with ⟨_, _, r⟩ | ⟨h, _⟩
  · refine .inl ⟨h6, h7, rat1_same (low_ne h1 h5) (low_ne h6 h7) ?_ r⟩
    have hb : b ≠ 0 := by have := h1.1; omega
    have hm : b * d * g ≠ 0 := Int.mul_ne_zero (low_ne h1 h2) (by have := h4.1; omega)
    apply mul_same hm
    have a1 : b * d * g * (a * uN * (pD * vD)) = uN * (d * g) * (a * b * pD * vD) := by ac_rfl
    have a2 : b * d * g * ((pN * vD + vN * pD) * (b * uD)) = pN * (b * d) * (g * vD * b * uD) + vN * (b * g) * (d * pD * b * uD) := by rw [Int.add_mul, Int.mul_add]; congr 1 <;> ac_rfl
    rw [a1, a2, e1, e2, e3]
    have a3 : (c * g + f * d) * uD * (a * b * pD * vD) = a * c * pD * (g * vD * b * uD) + a * f * vD * (d * pD * b * uD) := by rw [Int.add_mul, Int.add_mul]; congr 1 <;> ac_rfl
    rw [a3]
  · exact absurd ⟨h1, h5⟩ h

/-- where Make tells that it does not fit -/
theorem made_over {n d N D : Int} (fn : Fit1 n) (fd : Fit1 d) (hd : d ≠ 0) (r : Rat1 n d N D 2) : n = -9223372036854775808 ∨ d = -9223372036854775808 := by
  rcases r with ⟨h, _⟩ | ⟨_, _, _, no⟩
  · omega
  · by_cases c : n = -9223372036854775808 ∨ d = -9223372036854775808
    · exact c
    · exfalso
      obtain ⟨g, x, y, g0, _, en, ed, hc, hy⟩ := gcd_out (a := n) hd
      have bx : (x.natAbs : Int) ≤ n.natAbs := by
        rw [en, Int.natAbs_mul]
        have : 1 * x.natAbs ≤ g.natAbs * x.natAbs := Nat.mul_le_mul_right _ (by omega)
        omega
      have bY : (y.natAbs : Int) ≤ d.natAbs := by
        rw [ed, Int.natAbs_mul]
        have : 1 * y.natAbs ≤ g.natAbs * y.natAbs := Nat.mul_le_mul_right _ (by omega)
        omega
      unfold Fit1 at fn fd no
      by_cases c2 : 0 < y
      · exact no x y ⟨c2, hc⟩ (by rw [en, ed]; ac_rfl) (by omega)
      · exact no (-x) (-y) ⟨by omega, by rw [Int.neg_gcd, Int.gcd_neg]; exact hc⟩ (by rw [Int.neg_mul, Int.mul_neg]; congr 1; rw [en, ed]; ac_rfl) (by omega)

theorem made_again {N D : Int} (l : Low N D) (f : Fit1 N) (g : Fit1 D) : MakeRes N D N D 0 := .inr ⟨by have := l.1; omega, .inl ⟨rfl, l, rfl, f, g⟩⟩

theorem sign_same {N m n D : Int} (hm : 0 < m) (hD : 0 < D) (e : N * m = n * D) : (N < 0 ↔ n < 0) ∧ (0 < N ↔ 0 < n) := by
  rcases Int.lt_trichotomy N 0 with h | h | h <;> rcases Int.lt_trichotomy n 0 with k | k | k
  · exact ⟨⟨fun _ => k, fun _ => h⟩, ⟨fun _ => by omega, fun _ => by omega⟩⟩
  · subst k; have := Int.mul_neg_of_neg_of_pos h hm; simp at e; omega
  · have h1 := Int.mul_neg_of_neg_of_pos h hm; have h2 := Int.mul_pos k hD; omega
  · subst h; have := Int.mul_neg_of_neg_of_pos k hD; simp at e; omega
  · subst h k; exact ⟨Iff.rfl, Iff.rfl⟩
  · subst h; have := Int.mul_pos k hD; simp at e; omega
  · have h1 := Int.mul_pos h hm; have h2 := Int.mul_neg_of_neg_of_pos k hD; omega
  · subst k; have := Int.mul_pos h hm; simp at e; omega
  · exact ⟨⟨fun _ => by omega, fun _ => by omega⟩, ⟨fun _ => k, fun _ => h⟩⟩

/-- what stands beside a ratio that is no whole number -/
theorem beside_facts {a b : Int} (L : Low a b) (b1 : b ≠ 1) (fa : Fit1 a) : ∃ n : Int, -9223372036854775808 ≤ n ∧ n < 9223372036854775807 ∧ (n = a / b ∧ ¬ a % b = 0) ∧ cv (n * b) (a * 1) = -1 ∧ cv ((n + 1) * b) (a * 1) = 1 := by
  have h0 := L.1
  have h1 := Int.mul_ediv_add_emod a b
  have h2 := Int.emod_nonneg a (b := b) (by omega)
  have h3 := Int.emod_lt_of_pos a h0
  have hz : a % b ≠ 0 := by
    intro h
    have d : b ∣ a := Int.dvd_of_emod_eq_zero h
    have : Int.gcd a b = b.natAbs := by rw [Int.gcd_comm]; exact Int.gcd_eq_natAbs_left d
    have := L.2
    omega
  unfold Fit1 at fa
  refine ⟨a / b, ?_, ?_, ⟨rfl, hz⟩, ?_, ?_⟩
  · by_cases hq : a / b < 0
    · have h6 : b * (a / b + 1) ≤ 1 * (a / b + 1) := Int.mul_le_mul_of_nonpos_right (by omega) (by omega)
      rw [Int.mul_add] at h6
      omega
    · omega
  · by_cases hq : a / b < 0
    · omega
    · have : 2 * (a / b) ≤ b * (a / b) := Int.mul_le_mul_of_nonneg_right (by omega) (by omega)
      omega
  · have : a / b * b < a * 1 := by rw [Int.mul_comm]; omega
    unfold cv; rw [if_pos this]
  · have : a * 1 < (a / b + 1) * b := by
      have e : (a / b + 1) * b = b * (a / b) + b := by rw [Int.add_mul, Int.one_mul, Int.mul_comm]
      omega
    unfold cv; rw [if_neg (by omega), if_pos this]

/-- two that are told apart, and how; g: whether the difference fits -/
theorem less_facts {a b c d N D g : Int} (h1 : Low a b) (h2 : Low c d) (r : Rat1 (a * d - c * b) (b * d) N D g) :
    (cv (a * d) (c * b) = -1 ∧ cv (c * b) (a * d) = 1 ∧ ¬ (a = c ∧ b = d) ∧ g = 0 ∧ decide (N < 0) = true ∧ decide (0 < N) = false) ∨
    (cv (a * d) (c * b) = 1 ∧ cv (c * b) (a * d) = -1 ∧ ¬ (a = c ∧ b = d) ∧ g = 0 ∧ decide (N < 0) = false ∧ decide (0 < N) = true) ∨
    (cv (a * d) (c * b) = 0 ∧ cv (c * b) (a * d) = 0 ∧ (a = c ∧ b = d) ∧ g = 0 ∧ decide (N < 0) = false ∧ decide (0 < N) = false) ∨
    (cv (a * d) (c * b) = -1 ∧ cv (c * b) (a * d) = 1 ∧ ¬ (a = c ∧ b = d) ∧ g = 2) ∨
    (cv (a * d) (c * b) = 1 ∧ cv (c * b) (a * d) = -1 ∧ ¬ (a = c ∧ b = d) ∧ g = 2) ∨
    (cv (a * d) (c * b) = 0 ∧ cv (c * b) (a * d) = 0 ∧ (a = c ∧ b = d) ∧ g = 2) := by
  have hm : 0 < b * d := Int.mul_pos h1.1 h2.1
  have ne : a * d ≠ c * b → ¬ (a = c ∧ b = d) := by
    rintro h ⟨rfl, rfl⟩; exact h rfl
  have sg : g = 0 → (N < 0 ↔ a * d - c * b < 0) ∧ (0 < N ↔ 0 < a * d - c * b) := by
    rintro rfl
    have := rat1_low r
    exact sign_same hm this.1.1 this.2.1
  have eg := rat1_er r
  rcases Int.lt_trichotomy (a * d) (c * b) with h | h | h
  · have v1 : cv (a * d) (c * b) = -1 := by unfold cv; rw [if_pos h]
    have v2 : cv (c * b) (a * d) = 1 := by unfold cv; rw [if_neg (by omega), if_pos h]
    rcases eg with rfl | ⟨rfl, _⟩
    · have := sg rfl
      exact .inl ⟨v1, v2, ne (by omega), rfl, decide_eq_true (this.1.2 (by omega)), decide_eq_false (fun k => by have := this.2.1 k; omega)⟩
    · exact .inr (.inr (.inr (.inl ⟨v1, v2, ne (by omega), rfl⟩)))
  · have e := low_eq h1 h2 h
    obtain ⟨rfl, rfl⟩ := e
    have v1 : cv (a * b) (a * b) = 0 := by unfold cv; rw [if_neg (by omega), if_neg (by omega)]
    rcases eg with rfl | ⟨rfl, _⟩
    · have := sg rfl
      exact .inr (.inr (.inl ⟨v1, v1, ⟨rfl, rfl⟩, rfl, decide_eq_false (fun k => by have := this.1.1 k; omega), decide_eq_false (fun k => by have := this.2.1 k; omega)⟩))
    · exact .inr (.inr (.inr (.inr (.inr ⟨v1, v1, ⟨rfl, rfl⟩, rfl⟩))))
  · have v1 : cv (a * d) (c * b) = 1 := by unfold cv; rw [if_neg (by omega), if_pos h]
    have v2 : cv (c * b) (a * d) = -1 := by unfold cv; rw [if_pos h]
    rcases eg with rfl | ⟨rfl, _⟩
    · have := sg rfl
      exact .inr (.inl ⟨v1, v2, ne (by omega), rfl, decide_eq_false (fun k => by have := this.1.1 k; omega), decide_eq_true (this.2.2 (by omega))⟩)
    · exact .inr (.inr (.inr (.inr (.inl ⟨v1, v2, ne (by omega), rfl⟩))))

end Go.Proofs.YtoeifpeiogeenaaGreatDoor.Qm

namespace Go.Proofs.YtoeifpeiogeenaaGreatDoor.Qc
set_option linter.unusedSimpArgs false
set_option linter.unusedVariables false
open Go.RowKit Go.Proofs.YtoeifpeiogeenaaGreatDoor.Vm Go.Proofs.YtoeifpeiogeenaaGreatDoor.Vc Go.Proofs.YtoeifpeiogeenaaGreatDoor.Pr Go.Proofs.YtoeifpeiogeenaaGreatDoor.Qm

set_option maxHeartbeats 1000000

/-- the arguments' boxes, and the answer's -/
abbrev plW (x p y q : Int) (w : World) : World :=
  ((w.alloc (.cells #[.int .i64 x, .int .i64 p] 72)).alloc (.cells #[.int .i64 y, .int .i64 q] 72)).alloc (.cells #[.int .i64 0, .int .i64 0] 72)

/-- what stands in every world that is the same below -/
theorem pl_two {x p y q : Int} {w W : World} (h : Below (w.heap.size + 3) (plW x p y q w) W) :
    Below w.heap.size w W ∧ Two W w.heap.size (.int .i64 x) (.int .i64 p) ∧ Two W (w.heap.size + 1) (.int .i64 y) (.int .i64 q) ∧ Two W (w.heap.size + 1 + 1) (.int .i64 0) (.int .i64 0) := by
  have P1 := ((Two.new w (.int .i64 x) (.int .i64 p) 72).alloc (.cells #[.int .i64 y, .int .i64 q] 72)).alloc (.cells #[.int .i64 0, .int .i64 0] 72)
  have P2 := (Two.new (w.alloc (.cells #[.int .i64 x, .int .i64 p] 72)) (.int .i64 y) (.int .i64 q) 72).alloc (.cells #[.int .i64 0, .int .i64 0] 72)
  have P3 := Two.new ((w.alloc (.cells #[.int .i64 x, .int .i64 p] 72)).alloc (.cells #[.int .i64 y, .int .i64 q] 72)) (.int .i64 0) (.int .i64 0) 72
  have B0 := balloc (balloc (balloc (Below.refl _ w) (.cells #[.int .i64 x, .int .i64 p] 72)) (.cells #[.int .i64 y, .int .i64 q] 72)) (.cells #[.int .i64 0, .int .i64 0] 72)
  simp only [World.size_alloc] at P1 P2 P3
  have hs : Below (plW x p y q w).heap.size (plW x p y q w) W := h.mono (by simp [plW])
  exact ⟨B0.trans (h.mono (by omega)), P1.kept hs, P2.kept hs, P3.kept hs⟩

theorem pl_held {x p y q : Int} {w W : World} (h : Below (w.heap.size + 3) (plW x p y q w) W) : Below (w.heap.size + 3) (plW x p y q w) W ∧
    W.cell? ⟨w.heap.size, 0, none⟩ = some (.int .i64 x) ∧ W.cell? ⟨w.heap.size + 1, 0, none⟩ = some (.int .i64 y) :=
  ⟨h, (pl_two h).2.1.c0, (pl_two h).2.2.1.c0⟩

theorem below_alloc {B : Nat} {W0 W : World} (hB : B ≤ W0.heap.size) (h : Below B W0 W) (o : Obj) : Below B W0 (W.alloc o) := h.alloc (Nat.le_trans hB h.size) o
theorem below_step {B : Nat} {W0 W w1 : World} (hB : B ≤ W0.heap.size) (h : Below B W0 W) (hb : Below W.heap.size W w1) : Below B W0 w1 := h.trans (hb.mono (Nat.le_trans hB h.size))

/-- what the sum's statement leaves -/
def PlusMid (h l x p y q : Int) (w : World) (s : Value) (W : World) : Prop :=
  ∃ g : Nat, s = .pointer (some ⟨g, 0, none⟩) ∧ w.heap.size + 3 ≤ g ∧ Two W g (.int .i64 h) (.int .u64 l) ∧ Below (w.heap.size + 3) (plW x p y q w) W

theorem pmid_set {h l u v x p y q : Int} {w W : World} {g : Nat} (K : Two W g (.int .i64 u) (.int .u64 v)) (hB : Below (w.heap.size + 3) (plW x p y q w) W) (hg : w.heap.size + 3 ≤ g) :
    PlusMid h l x p y q w (.pointer (some ⟨g, 0, none⟩)) ((W.setCell ⟨g, 0, none⟩ (.int .i64 h)).setCell ⟨g, 1, none⟩ (.int .u64 l)) :=
  ⟨g, rfl, hg, (K.set0 _).set1 _, (hB.setCell (by simpa using hg) _).setCell (by simpa using hg) _⟩
theorem pmid_new {h l x p y q : Int} {w W : World} {t : TypeId} (hB : Below (w.heap.size + 3) (plW x p y q w) W) :
    PlusMid h l x p y q w (.pointer (some ⟨W.heap.size, 0, none⟩)) (W.alloc (.cells #[.int .i64 h, .int .u64 l] t)) :=
  ⟨_, rfl, by have := hB.size; simp [plW] at this; omega, Two.new _ _ _ _, below_alloc (by simp [plW]) hB _⟩

/-- what the last statement reads, and what became of the world -/
structure Sev (w W : World) (g : Nat) (y q h l : Int) : Prop where
  below : Below w.heap.size w W
  b : Two W (w.heap.size + 1) (.int .i64 y) (.int .i64 q)
  c : Two W g (.int .i64 h) (.int .u64 l)
  far : w.heap.size + 3 ≤ g
section
variable {w W w1 : World} {g : Nat} {y q h l : Int}
theorem Sev.kept {R : Prop} (x : Sev w W g y q h l ∧ R) (hb : Below W.heap.size W w1) : Sev w w1 g y q h l := ⟨bthen x.1.below hb, x.1.b.kept hb, x.1.c.kept hb, x.1.far⟩
theorem Sev.drew (x : Sev w W g y q h l) : Sev w W.drew g y q h l := ⟨x.below.drew, x.b.drew, x.c.drew, x.far⟩
theorem Sev.set {R : Prop} {v : Value} {n : Nat} (x : Sev w W g y q h l ∧ R) : Sev w (W.setCell ⟨w.heap.size + 1 + 1, n, none⟩ v) g y q h l ∧ True :=
  ⟨⟨bset x.1.below (by omega) _ _, x.1.b.other _ _ (by omega), x.1.c.other _ _ (by have := x.1.far; omega), x.1.far⟩, trivial⟩
theorem Sev.opened (x : Sev w W g y q h l) : Sev w W g y q h l ∧ W.cell? ⟨g, 0, none⟩ = some (.int .i64 h) ∧ W.cell? ⟨g, 1, none⟩ = some (.int .u64 l) ∧ W.cell? ⟨w.heap.size + 1, 1, none⟩ = some (.int .i64 q) :=
  ⟨x, x.c.c0, x.c.c1, x.b.c1⟩
end

theorem gcd_mod (t g : Int) : Int.gcd (t % g) g = Int.gcd t g := by
  conv => rhs; rw [← Int.mul_ediv_add_emod t g]
  rw [Int.gcd_mul_left_add_left]

theorem plus_any (x p y q s N D er : Int) (w : World) (fx : Fit1 x) (fp : Fit1 p) (fy : Fit1 y) (fq : Fit1 q) (hs : s = 1 ∨ s = -1) (hx : Low x p) (hy : Low y q)
    (R : Rat1 (x * q + s * (y * p)) (p * q) N D er) :
    Calls Tryz.prog 76 #[.agg #[.int .i64 x, .int .i64 p], .agg #[.int .i64 y, .int .i64 q], .int .i64 s] w fun e w' =>
      e = .returned (.tuple #[.agg #[.int .i64 N, .int .i64 D], .int .i64 er]) ∧ Below w.heap.size w w' := by
  have p0 := hx.1
  have q0 := hy.1
  have hpq : p * q ≠ 0 := Int.mul_ne_zero (by omega) (by omega)
  obtain ⟨g, p', q', g0, hg, ep, eq, hc, _⟩ := gcd_out (a := p) (b := q) (by omega)
  have p'0 : 0 < p' := pos_part g0 (by rw [← ep]; exact p0)
  have q'0 : 0 < q' := pos_part g0 (by rw [← eq]; exact q0)
  have fp' := part_fit fp g0 ep
  have fq' := part_fit fq g0 eq
  have fg : Fit1 g := by
    have := gcd_le (N := p) (D := q) q0
    unfold Fit1 at *; omega
  obtain ⟨m, hm⟩ : ∃ m, s * p' = m := ⟨_, rfl⟩
  have fm : Fit1 m := by unfold Fit1 at *; rcases hs with rfl | rfl <;> omega
  obtain ⟨h1, l1, e1, b1⟩ := words_ex (x := x * q') (by have := prod_fits fx fq'; unfold Fits; omega)
  obtain ⟨h2, l2, e2, b2⟩ := words_ex (x := y * m) (by have := prod_fits fy fm; unfold Fits; omega)
  have fs : Fits (x * q' + y * m) := by
    have s1 := prod_small (b := q') fx (by omega) fq'.2
    have s2 := prod_small (b := m) fy (by unfold Fit1 at fp'; rcases hs with rfl | rfl <;> omega) (by unfold Fit1 at fp'; rcases hs with rfl | rfl <;> omega)
    unfold Fits; omega
  obtain ⟨h3, l3, e3, b3⟩ := words_ex fs
  obtain ⟨t, ht⟩ : ∃ t, x * q' + y * m = t := ⟨_, rfl⟩
  obtain ⟨h, t', k, h0, hh, et, eg, hc2, _⟩ := gcd_out (a := t) (b := g) (by omega)
  have fh : Fit1 h := by
    have := gcd_le (N := t) (D := g) g0
    unfold Fit1 at *; omega
  have k0 : 0 < k := pos_part h0 (by rw [← eg]; exact g0)
  obtain ⟨h4, l4, e4, b4⟩ := words_ex (x := t / g) (quot_fits (by rw [← ht]; exact fs) g0)
  obtain ⟨h5, l5, e5, b5⟩ := words_ex (x := t') (by
    have : t / h = t' := by rw [et]; exact Int.mul_ediv_cancel_left t' (by omega)
    rw [← this]; exact quot_fits (by rw [← ht]; exact fs) h0)
  obtain ⟨r, hr⟩ : ∃ r, t % g = r := ⟨_, rfl⟩
  have r0 : 0 ≤ r ∧ r < g := by rw [← hr]; exact ⟨Int.emod_nonneg _ (by omega), Int.emod_lt_of_pos _ g0⟩
  have hgr : h = (Int.gcd r g : Int) := by
    rw [hh, ← hr, gcd_mod]
  have eq2 : q = h * (q' * k) := by rw [eq, eg, Int.mul_assoc, Int.mul_comm k q']
  have fq2 := part_fit fq h0 eq2
  have q20 : 0 < q' * k := Int.mul_pos q'0 k0
  obtain ⟨h6, l6, e6, b6⟩ := words_ex (x := p' * (q' * k)) (by have := prod_fits fp' fq2; unfold Fits; omega)
  have et2 : t = x * q' + s * y * p' := by rw [← ht, ← hm, ← Int.mul_assoc, Int.mul_comm y s]
  obtain ⟨L, E⟩ := plus_low hx.2 hy.2 hs p0 q0 g0 ep eq (by assumption) et2 h0 et eg hc2
  have F : FitRes (num h5 l5) (num h6 l6) N D er := by rw [e5, e6]; exact fitres_of hpq L E R
  have cg1 := fun w => Wc.gcd_to p q g w fp fq hg fg
  have cm1 := fun w => Mul_any x q' h1 l1 w fx fq' b1 e1
  have cm2 := fun w => Mul_any y m h2 l2 w fy fm b2 e2
  have ca := fun w => Add_any h1 l1 h2 l2 h3 l3 0 w b1 b2 (.inl ⟨rfl, by rw [e1, e2, e3], b3⟩)
  have cd1 := fun w => Div_any h3 l3 g h4 l4 r 0 w b3 fg (.inr (.inr ⟨g0, rfl, b4, by rw [e4, e3, ht, ← hr, Int.mul_comm]; exact Int.mul_ediv_add_emod t g, r0.1, r0.2⟩))
  have cg2 := fun w => Wc.gcd_to r g h w (by unfold Fit1 at *; omega) fg hgr fh
  have cd2 := fun w => Div_any h3 l3 h h5 l5 0 0 w b3 fh (.inr (.inr ⟨h0, rfl, b5, by rw [e5, e3, ht, et, Int.mul_comm, Int.add_zero], Int.le_refl _, h0⟩))
  have cm3 := fun w => Mul_any p' (q' * k) h6 l6 w fp' fq2 b6 e6
  have cf := fun w => fitting_any h5 l5 h6 l6 N D er w b5 b6 F
  have k1 : p.tdiv g = p' := by rw [ep]; exact Int.mul_tdiv_cancel_left p' (by omega)
  have k2 : q.tdiv g = q' := by rw [eq]; exact Int.mul_tdiv_cancel_left q' (by omega)
  have k3 : q.tdiv h = q' * k := by rw [eq2]; exact Int.mul_tdiv_cancel_left (q' * k) (by omega)
  generalize hq2 : q' * k = q2 at *
  have k4 : IntKind.i64.wrap p' = p' := IntWalk.i64_in _ fp'
  have k5 : IntKind.i64.wrap q' = q' := IntWalk.i64_in _ fq'
  have k6 : IntKind.i64.wrap q2 = q2 := IntWalk.i64_in _ fq2
  have k7 : IntKind.i64.wrap (s * p') = m := by rw [hm]; exact IntWalk.i64_in _ fm
  have d1 : (g == 0) = false := beq_eq_false_iff_ne.2 (by omega)
  have d2 : (h == 0) = false := beq_eq_false_iff_ne.2 (by omega)
  have K1 := Lib.hid (And.intro k1 (And.intro k2 (And.intro k4 k5)))
  have K2 := Lib.hid (And.intro k3 k6)
  have K3 := Lib.hid k7
  unfold Fit1 at fp' fq' fq2 fg fh
  clear k1 k2 k3 k4 k5 k6 k7 hq2 L E F et2 eq2 hgr r0 hr e1 e2 e3 e4 e5 e6 b1 b2 b3 b4 b5 b6 fs fm hm hs ht et eg hh hg ep eq hc2 hpq hx hy R fx fp fy fq q20 k0 p0 q0
  go_enter Tryz.func76, Tryz.ntmps76
  go_wp2_with fail
  refine (cg1 _).mono ?_
  rintro e w1 ⟨rfl, n1, rfl⟩
  obtain ⟨k1, k2, k4, k5⟩ := K1.out
  go_wp2
  go_quiet (fail)
  clear k1 k2 k4 k5
  replace K3 := K3.out
  go_upto_region 3 with fail
  go_cut [12] (fun s12 wx => PlusMid h3 l3 x p y q w s12 wx)
  case first =>
    go_region_held3 (fun w' => Below (w.heap.size + 3) (plW x p y q w) w' ∧ w'.cell? ⟨w.heap.size, 0, none⟩ = some (.int .i64 x) ∧ w'.cell? ⟨w.heap.size + 1, 0, none⟩ = some (.int .i64 y))
      ((refine pl_held ?_; repeat (first | (with_reducible assumption) | (with_reducible exact Below.refl _ _) | (with_reducible refine below_drewN ?_ _) | (with_reducible refine Below.drew ?_) | ((with_reducible refine below_alloc ?_ ?_ _); (simp [plW])) | ((with_reducible refine Below.setCell ?_ ?_ _); rotate_left; first | omega | (simp <;> omega)))))
      (first
        | (go_at_call 61; first
            | ((with_reducible refine (cm1 _).mono ?_); rintro e w1 ⟨rfl, hb⟩; have hB := below_step (B := w.heap.size + 3) (W0 := plW x p y q w) (by simp [plW]) (by repeat (first | (with_reducible assumption) | (with_reducible exact Below.refl _ _) | (with_reducible refine below_drewN ?_ _) | (with_reducible refine Below.drew ?_) | ((with_reducible refine below_alloc ?_ ?_ _); (simp [plW])))) hb; have hz : w.heap.size + 3 ≤ w1.heap.size := (by have := hB.size; simp [plW] at this; omega); (first | (have K := Two.kept (by with_reducible assumption) hb) | (have K := Two.kept (by with_reducible exact Two.new _ _ _ _) hb) | (have K := Two.kept (by with_reducible exact (Two.new _ _ _ _).drewN _) hb) | skip); (try simp only [World.size_alloc, World.heap_drewN, World.size_drew] at K); (try obtain ⟨kz, kc0, kc1, kf0, kf1⟩ := id K))
            | ((with_reducible refine (cm2 _).mono ?_); rintro e w1 ⟨rfl, hb⟩; have hB := below_step (B := w.heap.size + 3) (W0 := plW x p y q w) (by simp [plW]) (by repeat (first | (with_reducible assumption) | (with_reducible exact Below.refl _ _) | (with_reducible refine below_drewN ?_ _) | (with_reducible refine Below.drew ?_) | ((with_reducible refine below_alloc ?_ ?_ _); (simp [plW])))) hb; have hz : w.heap.size + 3 ≤ w1.heap.size := (by have := hB.size; simp [plW] at this; omega); (first | (have K := Two.kept (by with_reducible assumption) hb) | (have K := Two.kept (by with_reducible exact Two.new _ _ _ _) hb) | (have K := Two.kept (by with_reducible exact (Two.new _ _ _ _).drewN _) hb) | skip); (try simp only [World.size_alloc, World.heap_drewN, World.size_drew] at K); (try obtain ⟨kz, kc0, kc1, kf0, kf1⟩ := id K)))
        | (go_at_call 110; (with_reducible refine (ca _).mono ?_); rintro e w1 ⟨rfl, hb⟩; have hB := below_step (B := w.heap.size + 3) (W0 := plW x p y q w) (by simp [plW]) (by repeat (first | (with_reducible assumption) | (with_reducible exact Below.refl _ _) | (with_reducible refine below_drewN ?_ _) | (with_reducible refine Below.drew ?_) | ((with_reducible refine below_alloc ?_ ?_ _); (simp [plW])))) hb; have hz : w.heap.size + 3 ≤ w1.heap.size := (by have := hB.size; simp [plW] at this; omega); (first | (have K := Two.kept (by with_reducible assumption) hb) | (have K := Two.kept (by with_reducible exact Two.new _ _ _ _) hb) | (have K := Two.kept (by with_reducible exact (Two.new _ _ _ _).drewN _) hb) | skip); (try simp only [World.size_alloc, World.heap_drewN, World.size_drew] at K); (try obtain ⟨kz, kc0, kc1, kf0, kf1⟩ := id K)))
    all_goals go_wp2_with fail
    all_goals go_meet
    all_goals
      first
        | ((with_reducible refine pmid_set K hB ?_); first | omega | (simp <;> omega))
        | (with_reducible exact pmid_new hB)
  case rest =>
    obtain ⟨g1, rfl, hg1, P4, hB⟩ := hcut
    obtain ⟨B1, _, P2, P3⟩ := pl_two hB
    clear hB ca cm1 cm2 cg1 K3
    obtain ⟨z4, a0, a1, _, _⟩ := id P4
    go_wp2_with fail
    refine (cd1 _).mono ?_
    rintro e w2 ⟨rfl, hb⟩
    replace P2 := P2.kept hb
    replace P3 := P3.kept hb
    replace P4 := P4.kept hb
    replace B1 := bthen B1 hb
    clear hb z4 a0 a1 cd1
    go_wp2_with fail
    refine (cg2 _).mono ?_
    rintro e w' ⟨rfl, n2, rfl⟩
    replace P2 := (P2.alloc (.cells #[.int .i64 h4, .int .u64 l4] 106)).drewN n2
    replace P3 := (P3.alloc (.cells #[.int .i64 h4, .int .u64 l4] 106)).drewN n2
    replace P4 := (P4.alloc (.cells #[.int .i64 h4, .int .u64 l4] 106)).drewN n2
    replace B1 := bdrewN (balloc B1 (.cells #[.int .i64 h4, .int .u64 l4] 106)) n2
    clear cg2
    generalize (w2.alloc (.cells #[.int .i64 h4, .int .u64 l4] 106)).drewN n2 = W at *
    obtain ⟨z4, a0, a1, _, _⟩ := id P4
    go_wp2_with fail
    refine (cd2 _).mono ?_
    rintro e w3 ⟨rfl, hb⟩
    have X : Sev w (w3.alloc (.cells #[.int .i64 h5, .int .u64 l5] 106)) w3.heap.size y q h5 l5 :=
      ⟨balloc (bthen B1 hb) _, (P2.kept hb).alloc _, Two.new _ _ _ _, by have := hb.size; have := z4; omega⟩
    have K3 := (P3.kept hb).alloc (.cells #[.int .i64 h5, .int .u64 l5] 106)
    clear hb z4 a0 a1 cd2 P2 P3 P4 B1
    obtain ⟨k3, k6⟩ := K2.out
    have d4 : ¬ h = 0 := by omega
    have d5 : IntKind.i64.wrap (q.tdiv h) = q2 := by rw [k3, k6]
    obtain ⟨kz, kc0, kc1, kf0, kf1⟩ := id K3
    go_wp2
    go_region_held3 (fun w' => Sev w w' w3.heap.size y q h5 l5 ∧ w'.cell? ⟨w3.heap.size, 0, none⟩ = some (.int .i64 h5) ∧ w'.cell? ⟨w3.heap.size, 1, none⟩ = some (.int .u64 l5) ∧ w'.cell? ⟨w.heap.size + 1, 1, none⟩ = some (.int .i64 q))
      (first | exact X.drew.opened | exact X2.opened | exact (Sev.set (Sev.set (by with_reducible assumption))).1.opened)
      (first
        | (go_at_call 61; (with_reducible refine (cm3 _).mono ?_); rintro e w4 ⟨rfl, hb⟩; have X2 := Sev.kept (by first | (with_reducible assumption) | exact ⟨X.drew, trivial⟩) hb; have K := Two.kept (by first | (with_reducible assumption) | exact K3.drew) hb; obtain ⟨kz, kc0, kc1, kf0, kf1⟩ := id K)
        | (go_at_call 109; (with_reducible refine (cf _).mono ?_); rintro e w4 ⟨rfl, hb⟩; have X2 := Sev.kept (by first | (with_reducible assumption) | exact ⟨X.drew, trivial⟩) hb; have K := Two.kept (by first | (with_reducible assumption) | exact K3.drew) hb; obtain ⟨kz, kc0, kc1, kf0, kf1⟩ := id K))
    go_wp2
    refine bodyPost_ret (v := .tuple #[.agg #[.int .i64 N, .int .i64 D], .int .i64 er]) (by simp [results, Tryz.results76, go_sem, kc0, kc1]) rfl ⟨rfl, ?_⟩
    exact bset (bset X2.below (by omega) _ _) (by omega) _ _

end Go.Proofs.YtoeifpeiogeenaaGreatDoor.Qc

namespace Go.Proofs.YtoeifpeiogeenaaGreatDoor.Qc
set_option linter.unusedSimpArgs false
set_option linter.unusedVariables false
open Go.RowKit Go.Proofs.YtoeifpeiogeenaaGreatDoor.Vm Go.Proofs.YtoeifpeiogeenaaGreatDoor.Vc Go.Proofs.YtoeifpeiogeenaaGreatDoor.Pr Go.Proofs.YtoeifpeiogeenaaGreatDoor.Qm

set_option maxHeartbeats 400000

theorem cm_held {p q : Nat} {a b c d : Int} {w W : World} (A : Two w p (.int .i64 a) (.int .i64 b)) (B : Two w q (.int .i64 c) (.int .i64 d)) (h : Below w.heap.size w W) :
    Below w.heap.size w W ∧ W.cell? ⟨p, 0, none⟩ = some (.int .i64 a) ∧ W.cell? ⟨p, 1, none⟩ = some (.int .i64 b) ∧ W.cell? ⟨q, 0, none⟩ = some (.int .i64 c) ∧ W.cell? ⟨q, 1, none⟩ = some (.int .i64 d) :=
  ⟨h, (A.kept h).c0, (A.kept h).c1, (B.kept h).c0, (B.kept h).c1⟩

end Go.Proofs.YtoeifpeiogeenaaGreatDoor.Qc

namespace Go.Proofs.YtoeifpeiogeenaaGreatDoor.Qc
set_option linter.unusedSimpArgs false
set_option linter.unusedVariables false
open Go.RowKit Go.Proofs.YtoeifpeiogeenaaGreatDoor.Vm Go.Proofs.YtoeifpeiogeenaaGreatDoor.Vc Go.Proofs.YtoeifpeiogeenaaGreatDoor.Pr Go.Proofs.YtoeifpeiogeenaaGreatDoor.Qm

set_option maxHeartbeats 400000

theorem addf_any (p q : Nat) (a b c d N D er : Int) (w : World) (A : Two w p (.int .i64 a) (.int .i64 b)) (B : Two w q (.int .i64 c) (.int .i64 d)) (fa : Fit1 a) (fb : Fit1 b) (fc : Fit1 c) (fd : Fit1 d)
    (h1 : Low a b) (h2 : Low c d) (R : Rat1 (a * d + c * b) (b * d) N D er) :
    Calls Tryz.prog 75 #[.pointer (some ⟨p, 0, none⟩), .pointer (some ⟨q, 0, none⟩)] w fun e w' =>
      e = .returned (.tuple #[.agg #[.int .i64 N, .int .i64 D], .int .i64 er]) ∧ Below w.heap.size w w' := by
  have ct := fun w => plus_any a b c d 1 N D er w fa fb fc fd (by omega) h1 h2 (by rw [show a * d + 1 * (c * b) = a * d + c * b by omega]; exact R)
  clear R h1 h2 fa fb fc fd
  obtain ⟨z1, a0, a1, _, _⟩ := id A
  obtain ⟨z2, b0, b1, _, _⟩ := id B
  go_enter Tryz.func75, Tryz.ntmps75
  go_wp2_with fail
  refine (ct _).mono ?_
  rintro e w1 ⟨rfl, hb1⟩
  have P4 := (Two.new w (.int .i64 0) (.int .i64 0) 72).kept hb1
  have B1 := bthen (balloc (Below.refl _ w) _) hb1
  clear hb1 z1 a0 a1 z2 b0 b1 A B
  obtain ⟨z, c0, c1, f0, f1⟩ := id P4
  go_wp2
  refine bodyPost_ret (v := .tuple #[.agg #[.int .i64 N, .int .i64 D], .int .i64 er]) (by simp [results, Tryz.results75, go_sem, c0, c1]) rfl ⟨rfl, ?_⟩
  exact bset (bset B1 (by simp) _ _) (by simp) _ _

set_option maxRecDepth 100000 in
theorem Add_op (a b c d N D er : Int) (w : World) (fa : Fit1 a) (fb : Fit1 b) (fc : Fit1 c) (fd : Fit1 d) (R : OpRes a b c d (a * d + c * b) (b * d) N D er) :
    Calls Tryz.prog 37 #[.agg #[.int .i64 a, .int .i64 b], .agg #[.int .i64 c, .int .i64 d]] w fun e w' =>
      e = .returned (.tuple #[.agg #[.int .i64 N, .int .i64 D], .int .i64 er]) ∧ Below w.heap.size w w' := by
  have P1 := ((Two.new w (.int .i64 a) (.int .i64 b) 72).alloc (.cells #[.int .i64 c, .int .i64 d] 72)).alloc (.cells #[.int .i64 0, .int .i64 0] 72)
  have P2 := (Two.new (w.alloc (.cells #[.int .i64 a, .int .i64 b] 72)) (.int .i64 c) (.int .i64 d) 72).alloc (.cells #[.int .i64 0, .int .i64 0] 72)
  have P3 := Two.new ((w.alloc (.cells #[.int .i64 a, .int .i64 b] 72)).alloc (.cells #[.int .i64 c, .int .i64 d] 72)) (.int .i64 0) (.int .i64 0) 72
  have B0 := balloc (balloc (balloc (Below.refl _ w) (.cells #[.int .i64 a, .int .i64 b] 72)) (.cells #[.int .i64 c, .int .i64 d] 72)) (.cells #[.int .i64 0, .int .i64 0] 72)
  simp only [World.size_alloc] at P1 P2 P3
  have ct : Calls Tryz.prog 73 #[.agg #[.int .i64 a, .int .i64 b], .agg #[.int .i64 c, .int .i64 d], .func (.func 75) #[] #[.pointer (some ⟨w.heap.size, 0, none⟩), .pointer (some ⟨w.heap.size + 1, 0, none⟩)]]
      (((w.alloc (.cells #[.int .i64 a, .int .i64 b] 72)).alloc (.cells #[.int .i64 c, .int .i64 d] 72)).alloc (.cells #[.int .i64 0, .int .i64 0] 72)) fun e w' =>
      e = .returned (.tuple #[.agg #[.int .i64 N, .int .i64 D], .int .i64 er]) ∧ Below w.heap.size w w' ∧ Two w' (w.heap.size + 1 + 1) (.int .i64 0) (.int .i64 0) := by
    rcases R with ⟨h1, h2, R⟩ | ⟨h, rfl, rfl, rfl⟩
    · refine (counted_yes _ _ a b c d N D er _ fa fb fc fd h1 h2 (fun w1 => by rfl) (fun w1 hb => addf_any _ _ a b c d N D er w1 (P1.kept hb) (P2.kept hb) fa fb fc fd h1 h2 R)).mono ?_
      rintro e w1 ⟨rfl, hb⟩
      exact ⟨rfl, bthen B0 hb, P3.kept hb⟩
    · refine (counted_no _ _ a b c d _ fa fb fc fd h).mono ?_
      rintro e w1 ⟨rfl, hb⟩
      exact ⟨rfl, bthen B0 hb, P3.kept hb⟩
  clear R fa fb fc fd P1 P2 P3 B0
  go_enter Tryz.func37, Tryz.ntmps37
  go_wp2_with fail
  refine ct.mono ?_
  rintro e w1 ⟨rfl, B1, P3⟩
  clear ct
  obtain ⟨z, c0, c1, f0, f1⟩ := id P3
  go_wp2
  refine bodyPost_ret (v := .tuple #[.agg #[.int .i64 N, .int .i64 D], .int .i64 er]) (by simp [results, Tryz.results37, go_sem, c0, c1]) rfl ⟨rfl, ?_⟩
  exact bset (bset B1 (by omega) _ _) (by omega) _ _

end Go.Proofs.YtoeifpeiogeenaaGreatDoor.Qc

namespace Go.Proofs.YtoeifpeiogeenaaGreatDoor.Sr
set_option linter.unusedSimpArgs false
set_option linter.unusedVariables false
open Go.RowKit Go.Proofs.YtoeifpeiogeenaaGreatDoor.Vm Go.Proofs.YtoeifpeiogeenaaGreatDoor.Vc Go.Proofs.YtoeifpeiogeenaaGreatDoor.Pr Go.Proofs.YtoeifpeiogeenaaGreatDoor.Rk Go.Proofs.YtoeifpeiogeenaaGreatDoor.Sm Go.Proofs.YtoeifpeiogeenaaGreatDoor.Om Go.Proofs.YtoeifpeiogeenaaGreatDoor.Os Go.Proofs.YtoeifpeiogeenaaGreatDoor.Qm

set_option maxHeartbeats 1000000

theorem infoR : (Tryz.prog.info? 72).map (fun i => (i.zero, i.size, i.bytes)) = some (some (.agg #[.int .i64 0, .int .i64 0]), 2, 16) := by kernel_rfl
theorem underR : Tryz.prog.underlying 68 = some (.slice 72) := by kernel_rfl

/-- a new row of ratios, noughts -/
theorem make_rowp (n : Nat) (hn : n ≤ 1000000) :
    ∃ cs : Array Value, (∀ w, (Instr.makeSlice 68 (.int .i64 (n : Int)) (.int .i64 (n : Int))).run Tryz.prog w = .ok (.slice (some ⟨w.heap.size, 0, none⟩) n n) (w.alloc (.cells cs 72))) ∧ ∀ w : World, Rowp (w.alloc (.cells cs 72)) w.heap.size n (fun _ => 0) (fun _ => 0) := by
  obtain ⟨i, hi, hz0, hz1, hz2⟩ := info_parts infoR
  have e1 : (n : Int).toNat = n := by omega
  have at' : ∀ j, j < n * 2 → (madeCells #[Value.int .i64 0, .int .i64 0] (n * 2))[j]? = some (.int .i64 0) := fun j hj => by
    unfold madeCells
    have hm : j % 2 = 0 ∨ j % 2 = 1 := by omega
    rcases hm with h | h <;> simp [hj, h]
  refine ⟨madeCells #[.int .i64 0, .int .i64 0] (n * 2), fun w => ?_, fun w => ⟨by simp, fun i hi => ?_, fun i hi => ?_, fun i hi => by simp [go_sem], fun i hi => by simp [go_sem]⟩⟩
  · have h := run_make (P := Tryz.prog) (w := w) 68 72 i (.agg #[.int .i64 0, .int .i64 0]) underR hi hz0 .i64 .i64 n n (by omega) (by omega) (by rw [hz2]; omega) (by omega)
    rw [e1, hz1] at h
    exact h
  · simp [go_sem, at' (i * 2) (by omega)]
  · simp [go_sem, at' (i * 2 + 1) (by omega)]

/-- one share, by way of the weight's part of the total -/
theorem share_op {a x t : Int} (x0 : 0 ≤ x) (xt : x ≤ t) (tp : 0 < t) (ft : Fit1 t) {N D er : Int} (R : Rat1 (a * x) t N D er) :
    ∃ N1 D1, MakeRes x t N1 D1 0 ∧ Fit1 N1 ∧ Fit1 D1 ∧ OpRes a 1 N1 D1 (a * N1) (1 * D1) N D er := by
  obtain ⟨N1, D1, er1, m1⟩ := makeres_ex x t
  rcases id m1 with ⟨h, _⟩ | ⟨hd, r1⟩
  · omega
  rcases r1 with ⟨rfl, low, e1, f1, f2⟩ | ⟨rfl, rfl, rfl, no⟩
  · have d1 : D1 ≠ 0 := by have := low.1; omega
    refine ⟨N1, D1, m1, f1, f2, .inl ⟨⟨by omega, by simp⟩, low, ?_⟩⟩
    have iff : ∀ N' D' : Int, N' * t = a * x * D' ↔ N' * (1 * D1) = a * N1 * D' := by
      intro N' D'
      have k : a * N1 * D' * t = a * x * D' * D1 := by
        have : a * N1 * D' * t = a * D' * (N1 * t) := by ac_rfl
        rw [this, e1]; ac_rfl
      constructor
      · intro h
        apply Int.eq_of_mul_eq_mul_right (show t ≠ 0 by omega)
        rw [k, ← h, Int.one_mul]; ac_rfl
      · intro h
        apply Int.eq_of_mul_eq_mul_right d1
        rw [← k, ← h, Int.one_mul]; ac_rfl
    rcases R with ⟨he, l, e, f⟩ | ⟨he, hN, hD, no⟩
    · exact .inl ⟨he, l, (iff _ _).1 e, f⟩
    · exact .inr ⟨he, hN, hD, fun N' D' l e => no N' D' l ((iff _ _).2 e)⟩
  · exfalso
    obtain ⟨N', D', l, e⟩ := low_ex x hd
    have dv : D' ∣ t := cop_dvd (b := N') (by rw [Int.gcd_comm]; exact l.2) ⟨x, by rw [e, Int.mul_comm]⟩
    have d0 := l.1
    have d1 := Int.le_of_dvd tp dv
    have n0 : 0 ≤ N' := by
      by_cases c : 0 ≤ N'
      · exact c
      · have h1 : N' * t ≤ -1 * t := Int.mul_le_mul_of_nonneg_right (by omega) (by omega)
        have h2 : 0 ≤ x * D' := Int.mul_nonneg x0 (by omega)
        omega
    have n1 : N' ≤ D' := by
      by_cases c : N' ≤ D'
      · exact c
      · have h1 : (D' + 1) * t ≤ N' * t := Int.mul_le_mul_of_nonneg_right (by omega) (by omega)
        have h2 : x * D' ≤ t * D' := Int.mul_le_mul_of_nonneg_right xt (by omega)
        rw [Int.add_mul, Int.mul_comm D' t] at h1
        omega
    unfold Fit1 at ft
    exact no N' D' l e ⟨by unfold Fit1; omega, by unfold Fit1; omega⟩

def ExactRes (w : World) (n : Nat) (N D : Nat → Int) (e : Ending) (w' : World) : Prop :=
  ∃ g : Nat, e = .returned (.tuple #[.slice (some ⟨g, 0, none⟩) n n, .int .i64 0]) ∧ Rowp w' g n N D ∧ w.heap.size ≤ g ∧ Below w.heap.size w w'

set_option maxRecDepth 100000 in
theorem exact_go (A : Option Addr) (n cap : Nat) (zs : List Int) (a : Int) (N D : Nat → Int) (w : World) (hn : zs.length = n) (n0 : 0 < n) (n1 : n ≤ 4096) (fa : Fit1 a) (hf : ∀ z ∈ zs, Fit1 z) (hr : Rd w w.heap.size A zs) (hp : ∀ z ∈ zs, 0 ≤ z) (hs : 0 < zs.sum) (fs : Fit1 zs.sum)
    (R : ∀ i, i < n → Rat1 (a * wt zs i) zs.sum (N i) (D i) 0) :
    Calls Tryz.prog 70 #[.int .i64 a, .slice A n cap] w (ExactRes w n N D) := by
  have ct := fun w h => together_any A n cap zs zs.sum 0 w hn (by omega) hf h (.inr (.inr ⟨by omega, hp, .inr (.inr ⟨hs, fs, rfl, rfl⟩)⟩))
  obtain ⟨b, off, rfl, hb, hcell⟩ := hr.resolve_left (by intro e; rw [e] at hn; simp at hn; omega)
  have M : MayBe (wt zs) n := by rw [← hn]; exact may_list hp hs
  have te : tot (wt zs) n = zs.sum := by rw [← hn]; exact sm_list zs
  obtain ⟨t, ht⟩ : ∃ t, t = zs.sum := ⟨_, rfl⟩
  rw [← ht] at ct te hs fs R
  obtain ⟨x, hx⟩ : ∃ x, x = wt zs := ⟨_, rfl⟩
  have hcell2 : ∀ i, i < n → w.cell? ⟨b, off + i, none⟩ = some (.int .i64 (x i)) := fun i hi => by rw [hx]; exact hcell i (by omega)
  have fx : ∀ i, i < n → Fit1 (x i) := fun i hi => by rw [hx]; exact hf _ (getD_mem (by omega))
  rw [← hx] at M te R
  have CM : Hid (∀ i, i < n → ∃ N1 D1, (∀ W, Calls Tryz.prog 35 #[.int .i64 (x i), .int .i64 t] W fun e w' => e = .returned (.tuple #[.agg #[.int .i64 N1, .int .i64 D1], .int .i64 0]) ∧ Below W.heap.size W w') ∧
      (∀ W, Calls Tryz.prog 36 #[.agg #[.int .i64 a, .int .i64 1], .agg #[.int .i64 N1, .int .i64 D1]] W fun e w' => e = .returned (.tuple #[.agg #[.int .i64 (N i), .int .i64 (D i)], .int .i64 0]) ∧ Below W.heap.size W w')) :=
    Lib.hid (fun i hi => by
      obtain ⟨N1, D1, m1, f1, f2, o1⟩ := share_op (a := a) (M.1 i hi) (by have := w_le M hi; rw [te] at this; exact this) hs fs (R i hi)
      exact ⟨N1, D1, fun W => Qc.Make_any (x i) t N1 D1 0 W (fx i hi) fs m1, fun W => Qc.Mul_op a 1 N1 D1 (N i) (D i) 0 W fa (by unfold Fit1; omega) f1 f2 o1⟩)
  have HX := Lib.hid hcell2
  have ct0 := ct w hr
  obtain ⟨cs, hmk, hrow⟩ := make_rowp n (by omega)
  have HR := Lib.hid hrow
  clear ct hcell hcell2 M te fx hr hp hf hn ht hx hs fs hrow R fa
  go_enter Tryz.func70, Tryz.ntmps70
  go_wp2_with fail
  refine ct0.mono ?_
  rintro e w1 ⟨rfl, hb1⟩
  have R1 := HR.out w1
  have B1 := balloc hb1 (.cells cs 72)
  have SZ := hb1.size
  clear ct0
  go_wp2_with fail
  generalize w1.alloc (.cells cs 72) = W2 at R1 B1 ⊢
  generalize w1.heap.size = G at R1 SZ ⊢
  clear hmk hb1
  go_loopw [26] (fun Y wr => ∃ k : Nat, k ≤ n ∧ Y = .int .i64 k ∧ Below w.heap.size w wr ∧ Rowp wr G n (fun i => if i < k then N i else 0) (fun i => if i < k then D i else 0)) (fun Y _ => n - (intOf Y).toNat)
  case atStart => exact ⟨0, by omega, rfl, B1, R1.congr (fun i _ => by simp) (fun i _ => by simp)⟩
  case round =>
    clear R1 B1
    obtain ⟨k, hk, rfl, B1, R1⟩ := hrel
    by_cases hlt : k < n
    · have hc := (B1.cell (p := ⟨b, off + k, none⟩) hb).trans (HX.out k hlt)
      obtain ⟨N1, D1, c1, c2⟩ := CM.out k hlt
      generalize x k = xk at hc c1
      go_wp2_with fail
      refine (c1 _).mono ?_
      rintro e w2 ⟨rfl, hb2⟩
      replace B1 := bthen B1 hb2
      replace R1 := R1.kept hb2
      clear hb2 hc c1
      go_wp2_with fail
      refine (c2 _).mono ?_
      rintro e w3 ⟨rfl, hb2⟩
      have A3 : Below w2.heap.size w2 (w2.alloc (.cells #[.int .i64 N1, .int .i64 D1] 72)) := balloc (Below.refl _ _) _
      replace B1 := bthen (balloc B1 _) hb2
      replace R1 := (R1.kept A3).kept hb2
      clear hb2 A3 c2
      have X := (R1.set hlt (N k) (D k)).congr (f' := fun i => if i < k + 1 then N i else 0) (d' := fun i => if i < k + 1 then D i else 0) (fun i _ => by
        by_cases e1 : i = k
        · subst e1; rw [if_pos rfl, if_pos (by omega)]
        · by_cases e2 : i < k
          · rw [if_neg e1, if_pos e2, if_pos (by omega)]
          · rw [if_neg e1, if_neg e2, if_neg (by omega)]) (fun i _ => by
        by_cases e1 : i = k
        · subst e1; rw [if_pos rfl, if_pos (by omega)]
        · by_cases e2 : i < k
          · rw [if_neg e1, if_pos e2, if_pos (by omega)]
          · rw [if_neg e1, if_neg e2, if_neg (by omega)])
      have B2 := bset (bset B1 SZ (k * 2) (.int .i64 (N k))) SZ (k * 2 + 1) (.int .i64 (D k))
      have p0 := R1.c0 k hlt
      have p1 := R1.c1 k hlt
      have z0 := R1.z0 k hlt
      have z1 := R1.z1 k hlt
      generalize (if k < k then N k else 0) = u0 at p0
      generalize (if k < k then D k else 0) = u1 at p1
      generalize N k = Nk at X B2 ⊢
      generalize D k = Dk at X B2 ⊢
      have pp : (0 : Int) ≤ (k : Int) := by omega
      have bp : (k : Int) < (n : Int) := by omega
      clear R1 B1
      go_wp2
      go_roundw
      case rel => exact ⟨k + 1, by omega, by go_num, B2, X⟩
      case measure => simp [intOf] <;> omega
    · obtain rfl : k = n := by omega
      have Y : ExactRes w k N D (.returned (.tuple #[.slice (some ⟨G, 0, none⟩) k k, .int .i64 0])) _ := ⟨G, rfl, R1.congr (fun i hi => by simp only [hi, if_true]) (fun i hi => by simp only [hi, if_true]), SZ, B1⟩
      have HY := Lib.hid Y
      clear Y R1 B1
      go_wp2
      exact bodyPost_ret (v := .tuple #[.slice (some ⟨G, 0, none⟩) k k, .int .i64 0]) (by simp [results, Tryz.results70, go_sem]) rfl HY.out

set_option maxRecDepth 100000 in
theorem exact_over (A : Option Addr) (n cap : Nat) (zs : List Int) (a : Int) (N D : Nat → Int) (k0 : Nat) (hk0 : k0 < n) (w : World) (hn : zs.length = n) (n0 : 0 < n) (n1 : n ≤ 4096) (fa : Fit1 a) (hf : ∀ z ∈ zs, Fit1 z) (hr : Rd w w.heap.size A zs) (hp : ∀ z ∈ zs, 0 ≤ z) (hs : 0 < zs.sum) (fs : Fit1 zs.sum)
    (R : ∀ i, i < k0 → Rat1 (a * wt zs i) zs.sum (N i) (D i) 0) (RE : Rat1 (a * wt zs k0) zs.sum 0 0 2) :
    Calls Tryz.prog 70 #[.int .i64 a, .slice A n cap] w fun e w' => e = .returned (.tuple #[.slice none 0 0, .int .i64 2]) ∧ Below w.heap.size w w' := by
  have ct := fun w h => together_any A n cap zs zs.sum 0 w hn (by omega) hf h (.inr (.inr ⟨by omega, hp, .inr (.inr ⟨hs, fs, rfl, rfl⟩)⟩))
  obtain ⟨b, off, rfl, hb, hcell⟩ := hr.resolve_left (by intro e; rw [e] at hn; simp at hn; omega)
  have M : MayBe (wt zs) n := by rw [← hn]; exact may_list hp hs
  have te : tot (wt zs) n = zs.sum := by rw [← hn]; exact sm_list zs
  obtain ⟨t, ht⟩ : ∃ t, t = zs.sum := ⟨_, rfl⟩
  rw [← ht] at ct te hs fs R RE
  obtain ⟨x, hx⟩ : ∃ x, x = wt zs := ⟨_, rfl⟩
  have hcell2 : ∀ i, i < n → w.cell? ⟨b, off + i, none⟩ = some (.int .i64 (x i)) := fun i hi => by rw [hx]; exact hcell i (by omega)
  have fx : ∀ i, i < n → Fit1 (x i) := fun i hi => by rw [hx]; exact hf _ (getD_mem (by omega))
  rw [← hx] at M te R RE
  have CM : Hid (∀ i, i < k0 → ∃ N1 D1, (∀ W, Calls Tryz.prog 35 #[.int .i64 (x i), .int .i64 t] W fun e w' => e = .returned (.tuple #[.agg #[.int .i64 N1, .int .i64 D1], .int .i64 0]) ∧ Below W.heap.size W w') ∧
      (∀ W, Calls Tryz.prog 36 #[.agg #[.int .i64 a, .int .i64 1], .agg #[.int .i64 N1, .int .i64 D1]] W fun e w' => e = .returned (.tuple #[.agg #[.int .i64 (N i), .int .i64 (D i)], .int .i64 0]) ∧ Below W.heap.size W w')) :=
    Lib.hid (fun i hi => by
      obtain ⟨N1, D1, m1, f1, f2, o1⟩ := share_op (a := a) (M.1 i (by omega)) (by have := w_le M (show i < n by omega); rw [te] at this; exact this) hs fs (R i hi)
      exact ⟨N1, D1, fun W => Qc.Make_any (x i) t N1 D1 0 W (fx i (by omega)) fs m1, fun W => Qc.Mul_op a 1 N1 D1 (N i) (D i) 0 W fa (by unfold Fit1; omega) f1 f2 o1⟩)
  have CE : Hid (∃ N1 D1, (∀ W, Calls Tryz.prog 35 #[.int .i64 (x k0), .int .i64 t] W fun e w' => e = .returned (.tuple #[.agg #[.int .i64 N1, .int .i64 D1], .int .i64 0]) ∧ Below W.heap.size W w') ∧
      (∀ W, Calls Tryz.prog 36 #[.agg #[.int .i64 a, .int .i64 1], .agg #[.int .i64 N1, .int .i64 D1]] W fun e w' => e = .returned (.tuple #[.agg #[.int .i64 0, .int .i64 0], .int .i64 2]) ∧ Below W.heap.size W w')) :=
    Lib.hid (by
      obtain ⟨N1, D1, m1, f1, f2, o1⟩ := share_op (a := a) (M.1 k0 hk0) (by have := w_le M hk0; rw [te] at this; exact this) hs fs RE
      exact ⟨N1, D1, fun W => Qc.Make_any (x k0) t N1 D1 0 W (fx k0 hk0) fs m1, fun W => Qc.Mul_op a 1 N1 D1 0 0 2 W fa (by unfold Fit1; omega) f1 f2 o1⟩)
  have HX := Lib.hid hcell2
  have ct0 := ct w hr
  obtain ⟨cs, hmk, hrow⟩ := make_rowp n (by omega)
  have HR := Lib.hid hrow
  clear ct hcell hcell2 M te fx hr hp hf hn ht hx hs fs hrow R RE fa
  go_enter Tryz.func70, Tryz.ntmps70
  go_wp2_with fail
  refine ct0.mono ?_
  rintro e w1 ⟨rfl, hb1⟩
  have R1 := HR.out w1
  have B1 := balloc hb1 (.cells cs 72)
  have SZ := hb1.size
  clear ct0
  go_wp2_with fail
  generalize w1.alloc (.cells cs 72) = W2 at R1 B1 ⊢
  generalize w1.heap.size = G at R1 SZ ⊢
  clear hmk hb1
  go_loopw [26] (fun Y wr => ∃ k : Nat, k ≤ k0 ∧ Y = .int .i64 k ∧ Below w.heap.size w wr ∧ Rowp wr G n (fun i => if i < k then N i else 0) (fun i => if i < k then D i else 0)) (fun Y _ => n - (intOf Y).toNat)
  case atStart => exact ⟨0, by omega, rfl, B1, R1.congr (fun i _ => by simp) (fun i _ => by simp)⟩
  case round =>
    clear R1 B1
    obtain ⟨k, hk, rfl, B1, R1⟩ := hrel
    by_cases hlt0 : k < k0
    · have hlt : k < n := by omega
      have hc := (B1.cell (p := ⟨b, off + k, none⟩) hb).trans (HX.out k hlt)
      obtain ⟨N1, D1, c1, c2⟩ := CM.out k hlt0
      generalize x k = xk at hc c1
      go_wp2_with fail
      refine (c1 _).mono ?_
      rintro e w2 ⟨rfl, hb2⟩
      replace B1 := bthen B1 hb2
      replace R1 := R1.kept hb2
      clear hb2 hc c1
      go_wp2_with fail
      refine (c2 _).mono ?_
      rintro e w3 ⟨rfl, hb2⟩
      have A3 : Below w2.heap.size w2 (w2.alloc (.cells #[.int .i64 N1, .int .i64 D1] 72)) := balloc (Below.refl _ _) _
      replace B1 := bthen (balloc B1 _) hb2
      replace R1 := (R1.kept A3).kept hb2
      clear hb2 A3 c2
      have X := (R1.set hlt (N k) (D k)).congr (f' := fun i => if i < k + 1 then N i else 0) (d' := fun i => if i < k + 1 then D i else 0) (fun i _ => by
        by_cases e1 : i = k
        · subst e1; rw [if_pos rfl, if_pos (by omega)]
        · by_cases e2 : i < k
          · rw [if_neg e1, if_pos e2, if_pos (by omega)]
          · rw [if_neg e1, if_neg e2, if_neg (by omega)]) (fun i _ => by
        by_cases e1 : i = k
        · subst e1; rw [if_pos rfl, if_pos (by omega)]
        · by_cases e2 : i < k
          · rw [if_neg e1, if_pos e2, if_pos (by omega)]
          · rw [if_neg e1, if_neg e2, if_neg (by omega)])
      have B2 := bset (bset B1 SZ (k * 2) (.int .i64 (N k))) SZ (k * 2 + 1) (.int .i64 (D k))
      have p0 := R1.c0 k hlt
      have p1 := R1.c1 k hlt
      have z0 := R1.z0 k hlt
      have z1 := R1.z1 k hlt
      generalize (if k < k then N k else 0) = u0 at p0
      generalize (if k < k then D k else 0) = u1 at p1
      generalize N k = Nk at X B2 ⊢
      generalize D k = Dk at X B2 ⊢
      have pp : (0 : Int) ≤ (k : Int) := by omega
      have bp : (k : Int) < (n : Int) := by omega
      clear R1 B1
      go_wp2
      go_roundw
      case rel => exact ⟨k + 1, by omega, by go_num, B2, X⟩
      case measure => simp [intOf] <;> omega
    · obtain rfl : k = k0 := by omega
      have hc := (B1.cell (p := ⟨b, off + k, none⟩) hb).trans (HX.out k hk0)
      obtain ⟨N1, D1, c1, c2⟩ := CE.out
      generalize x k = xk at hc c1
      go_wp2_with fail
      refine (c1 _).mono ?_
      rintro e w2 ⟨rfl, hb2⟩
      replace B1 := bthen B1 hb2
      replace R1 := R1.kept hb2
      clear hb2 hc c1
      go_wp2_with fail
      refine (c2 _).mono ?_
      rintro e w3 ⟨rfl, hb2⟩
      have A3 : Below w2.heap.size w2 (w2.alloc (.cells #[.int .i64 N1, .int .i64 D1] 72)) := balloc (Below.refl _ _) _
      replace B1 := bthen (balloc B1 _) hb2
      replace R1 := (R1.kept A3).kept hb2
      clear hb2 A3 c2
      have B2 := bset (bset B1 SZ (k * 2) (.int .i64 0)) SZ (k * 2 + 1) (.int .i64 0)
      have p0 := R1.c0 k hk0
      have p1 := R1.c1 k hk0
      have z0 := R1.z0 k hk0
      have z1 := R1.z1 k hk0
      generalize (if k < k then N k else 0) = u0 at p0
      generalize (if k < k then D k else 0) = u1 at p1
      have pp : (0 : Int) ≤ (k : Int) := by omega
      have bp : (k : Int) < (n : Int) := by omega
      clear R1 B1
      go_wp2
      go_ret2
      exact ⟨rfl, B2⟩

theorem exact_no (A : Option Addr) (n cap : Nat) (zs : List Int) (a v er : Int) (w : World) (hn : zs.length = n) (hm2 : (n : Int) ≤ 9223372036854775807) (hf : ∀ z ∈ zs, Fit1 z) (hr : Rd w w.heap.size A zs) (R : AllRes zs v er) (h : er ≠ 0) :
    Calls Tryz.prog 70 #[.int .i64 a, .slice A n cap] w fun e w' => e = .returned (.tuple #[.slice none 0 0, .int .i64 er]) ∧ Below w.heap.size w w' := by
  have ct := together_any A n cap zs v er w hn hm2 hf hr R
  have d : (er != 0) = true := bne_iff_ne.2 h
  clear R h hf hr hn
  go_enter Tryz.func70, Tryz.ntmps70
  go_wp2_with fail
  refine ct.mono ?_
  rintro e w1 ⟨rfl, hb1⟩
  go_wp2
  go_ret2
  exact ⟨rfl, hb1⟩

end Go.Proofs.YtoeifpeiogeenaaGreatDoor.Sr

namespace Go.Proofs.YtoeifpeiogeenaaGreatDoor.Sl
set_option linter.unusedSimpArgs false
set_option linter.unusedVariables false
open Go.RowKit Go.Proofs.YtoeifpeiogeenaaGreatDoor.Vm Go.Proofs.YtoeifpeiogeenaaGreatDoor.Vc Go.Proofs.YtoeifpeiogeenaaGreatDoor.Pr Go.Proofs.YtoeifpeiogeenaaGreatDoor.Rk Go.Proofs.YtoeifpeiogeenaaGreatDoor.Sm Go.Proofs.YtoeifpeiogeenaaGreatDoor.Om Go.Proofs.YtoeifpeiogeenaaGreatDoor.Os Go.Proofs.YtoeifpeiogeenaaGreatDoor.Sr Go.Proofs.YtoeifpeiogeenaaGreatDoor.Qm

set_option maxHeartbeats 2000000

/-- a part is the whole number below its exact share, or the one above -/
theorem part_near {N D y t c : Int} (tp : 0 < t) (L : Low N D) (e : N * t = y * D) (h : (c = y / t) ∨ (c = y / t + 1 ∧ 0 < y % t)) :
    (c = N / D) ∨ (c = N / D + 1 ∧ N % D ≠ 0) := by
  have d0 := L.1
  have f : N / D = y / t := by
    have h1 : N * t / (D * t) = N / D := Int.mul_ediv_mul_of_pos_left _ _ tp
    have h2 : D * y / (D * t) = y / t := Int.mul_ediv_mul_of_pos _ _ d0
    rw [← h1, e, Int.mul_comm y D, h2]
  rcases h with h | ⟨h, h'⟩
  · exact .inl (by rw [f]; exact h)
  · refine .inr ⟨by rw [f]; exact h, fun z => ?_⟩
    have k := Int.mul_ediv_add_emod N D
    rw [z, Int.add_zero, f] at k
    have k2 := Int.mul_ediv_add_emod y t
    have k3 : D * (t * (y / t)) = D * y := by
      have : N * t = D * (t * (y / t)) := by rw [← k]; ac_rfl
      rw [← this, e]; ac_rfl
    have k4 : t * (y / t) = y := Int.eq_of_mul_eq_mul_left (show D ≠ 0 by omega) k3
    omega
/-- one share more -/
theorem sum_more {S T N D M E t a u v : Int} (tp : 0 < t) (L : Low S T) (L' : Low N D) (e : S * t = a * u * T) (e' : N * t = a * v * D) (r : M * (T * D) = (S * D + N * T) * E) : M * t = a * (u + v) * E := by
  have T0 := L.1
  have D0 := L'.1
  apply Int.eq_of_mul_eq_mul_right (show T * D ≠ 0 from Int.mul_ne_zero (by omega) (by omega))
  have h1 : M * t * (T * D) = (S * t * D + N * t * T) * E := by
    have : M * t * (T * D) = M * (T * D) * t := by ac_rfl
    rw [this, r, Int.mul_comm _ t, ← Int.mul_assoc, Int.mul_add]
    congr 1
    congr 1 <;> ac_rfl
  rw [h1, e, e', Int.mul_add, Int.add_mul, Int.add_mul, Int.add_mul]
  congr 1 <;> ac_rfl
/-- a whole number's ratio -/
theorem whole_low {S T a t : Int} (tp : 0 < t) (L : Low S T) (e : S * t = a * t * T) : S = a ∧ T = 1 := by
  have h : S = a * T := Int.eq_of_mul_eq_mul_right (show t ≠ 0 by omega) (by rw [e]; ac_rfl)
  have g := L.2
  have T0 := L.1
  rw [h, Int.gcd_comm] at g
  have h2 : Int.gcd T (a * T) = T.natAbs := by
    show Nat.gcd _ _ = _
    rw [Int.natAbs_mul, Nat.gcd_mul_left_right]
  have h1 : T = 1 := by omega
  exact ⟨by rw [h, h1, Int.mul_one], h1⟩

end Go.Proofs.YtoeifpeiogeenaaGreatDoor.Sl
