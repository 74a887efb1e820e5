/- Plain facts on ratios in lowest terms; nothing of the program. -/
import Derived.Test.YtapddciodoobfaaVmath6
namespace Go.Proofs.Ytapddciodoobfaa.Qm
set_option linter.unusedSimpArgs false
set_option linter.unusedVariables false
open Go.Proofs.Ytapddciodoobfaa.Vm

/-- a ratio that may be -/
def Low (N D : Int) : Prop := 0 < D ∧ Int.gcd N D = 1

theorem cop_dvd {a b c : Int} (h : Int.gcd a b = 1) (d : a ∣ b * c) : a ∣ c := by
  have h1 : a.natAbs.Coprime b.natAbs := h
  have h2 : a.natAbs ∣ b.natAbs * c.natAbs := by rw [← Int.natAbs_mul]; exact Int.natAbs_dvd_natAbs.2 d
  exact Int.natAbs_dvd_natAbs.1 (h1.dvd_of_dvd_mul_left h2)

theorem cop_mul {a b c : Int} (h1 : Int.gcd a c = 1) (h2 : Int.gcd b c = 1) : Int.gcd (a * b) c = 1 := by
  have h3 : a.natAbs.Coprime c.natAbs := h1
  have h4 : b.natAbs.Coprime c.natAbs := h2
  show Nat.gcd (a * b).natAbs c.natAbs = 1
  rw [Int.natAbs_mul]; exact h3.mul_left h4

theorem cop_mul' {a b c : Int} (h1 : Int.gcd a b = 1) (h2 : Int.gcd a c = 1) : Int.gcd a (b * c) = 1 := by
  rw [Int.gcd_comm]; exact cop_mul (by rw [Int.gcd_comm]; exact h1) (by rw [Int.gcd_comm]; exact h2)

theorem cop_left {a b c : Int} (h : Int.gcd b c = 1) (d : a ∣ b) : Int.gcd a c = 1 := by
  have := Int.gcd_dvd_gcd_of_dvd_left c d
  rw [h] at this; exact Nat.dvd_one.1 this
theorem cop_right {a b c : Int} (h : Int.gcd c b = 1) (d : a ∣ b) : Int.gcd c a = 1 := by
  rw [Int.gcd_comm]; exact cop_left (by rw [Int.gcd_comm]; exact h) d

theorem eq_of_dvd {a b : Int} (ha : 0 < a) (hb : 0 < b) (h1 : a ∣ b) (h2 : b ∣ a) : a = b := by
  have := Int.le_of_dvd hb h1
  have := Int.le_of_dvd ha h2
  omega

theorem mul_same {a b c : Int} (h : a ≠ 0) (e : a * b = a * c) : b = c := Int.eq_of_mul_eq_mul_left h e

theorem low_eq {N D N' D' : Int} (h : Low N D) (h' : Low N' D') (e : N * D' = N' * D) : N = N' ∧ D = D' := by
  have d1 : D ∣ D' := by
    apply cop_dvd (b := N) (by rw [Int.gcd_comm]; exact h.2)
    exact ⟨N', by rw [e, Int.mul_comm]⟩
  have d2 : D' ∣ D := by
    apply cop_dvd (b := N') (by rw [Int.gcd_comm]; exact h'.2)
    exact ⟨N, by rw [← e, Int.mul_comm]⟩
  have ed := eq_of_dvd h.1 h'.1 d1 d2
  subst ed
  refine ⟨?_, rfl⟩
  rw [Int.mul_comm, Int.mul_comm N'] at e
  exact mul_same (by have := h.1; omega) e

theorem low_unique {N D N' D' n d : Int} (hd : d ≠ 0) (h : Low N D) (h' : Low N' D') (e : N * d = n * D) (e' : N' * d = n * D') : N = N' ∧ D = D' := by
  apply low_eq h h'
  apply mul_same hd
  calc d * (N * D') = N * d * D' := by rw [← Int.mul_assoc, Int.mul_comm d N]
    _ = n * D * D' := by rw [e]
    _ = n * D' * D := by rw [Int.mul_assoc, Int.mul_comm D, ← Int.mul_assoc]
    _ = N' * d * D := by rw [e']
    _ = d * (N' * D) := by rw [← Int.mul_assoc, Int.mul_comm d N']

/-- what divides both taken out -/
theorem gcd_out {a b : Int} (h : b ≠ 0) : ∃ g x y : Int, 0 < g ∧ g = (Int.gcd a b : Int) ∧ a = g * x ∧ b = g * y ∧ Int.gcd x y = 1 ∧ y ≠ 0 := by
  have h1 : 0 < Int.gcd a b := Int.gcd_pos_of_ne_zero_right a h
  obtain ⟨x, hx⟩ := Int.gcd_dvd_left a b
  obtain ⟨y, hy⟩ := Int.gcd_dvd_right a b
  refine ⟨(Int.gcd a b : Int), x, y, by omega, rfl, hx, hy, ?_, ?_⟩
  · have h2 : Int.gcd a b = Int.gcd ((Int.gcd a b : Int) * x) ((Int.gcd a b : Int) * y) := by rw [← hx, ← hy]
    rw [Int.gcd_mul_left] at h2
    simp only [Int.natAbs_natCast] at h2
    exact Nat.eq_of_mul_eq_mul_left h1 (by omega)
  · intro e; subst e; rw [Int.mul_zero] at hy; exact h hy

theorem low_ex (n : Int) {d : Int} (hd : d ≠ 0) : ∃ N D, Low N D ∧ N * d = n * D := by
  obtain ⟨g, x, y, h0, _, ea, eb, hc, hy⟩ := gcd_out (a := n) hd
  subst ea eb
  by_cases c : 0 < y
  · exact ⟨x, y, ⟨c, hc⟩, by rw [Int.mul_comm g x, Int.mul_assoc]⟩
  · exact ⟨-x, -y, ⟨by omega, by rw [Int.neg_gcd, Int.gcd_neg]; exact hc⟩, by rw [Int.neg_mul, Int.mul_neg, Int.mul_comm g x, Int.mul_assoc]⟩

/-- what the ratio of n and d is, or that it does not fit -/
def Rat1 (n d N D er : Int) : Prop := (er = 0 ∧ Low N D ∧ N * d = n * D ∧ Fit1 N ∧ Fit1 D) ∨ (er = 2 ∧ N = 0 ∧ D = 0 ∧ ∀ N' D', Low N' D' → N' * d = n * D' → ¬ (Fit1 N' ∧ Fit1 D'))

theorem rat1_ex (n : Int) {d : Int} (hd : d ≠ 0) : ∃ N D er, Rat1 n d N D er := by
  obtain ⟨N, D, hl, he⟩ := low_ex n hd
  by_cases c : Fit1 N ∧ Fit1 D
  · exact ⟨N, D, 0, .inl ⟨rfl, hl, he, c.1, c.2⟩⟩
  · exact ⟨0, 0, 2, .inr ⟨rfl, rfl, rfl, fun N' D' hl' he' => by have := low_unique hd hl hl' he he'; rw [← this.1, ← this.2]; exact c⟩⟩

theorem rat1_unique {n d N D er N' D' er' : Int} (hd : d ≠ 0) (h : Rat1 n d N D er) (h' : Rat1 n d N' D' er') : N = N' ∧ D = D' ∧ er = er' := by
  rcases h with ⟨rfl, l, e, f⟩ | ⟨rfl, rfl, rfl, no⟩ <;> rcases h' with ⟨rfl, l', e', f'⟩ | ⟨rfl, rfl, rfl, no'⟩
  · have := low_unique hd l l' e e'; exact ⟨this.1, this.2, rfl⟩
  · exact absurd f (no' _ _ l e)
  · exact absurd f' (no _ _ l' e')
  · exact ⟨rfl, rfl, rfl⟩

theorem rat1_fit {n d N D er : Int} (h : Rat1 n d N D er) : Fit1 N ∧ Fit1 D := by
  rcases h with ⟨_, _, _, f⟩ | ⟨_, rfl, rfl, _⟩
  · exact f
  · unfold Fit1; omega

/-- what fitting answers of two numbers -/
def FitRes (n d N D er : Int) : Prop := (er = 0 ∧ N = n ∧ D = d ∧ Fit1 n ∧ Fit1 d) ∨ (er = 2 ∧ N = 0 ∧ D = 0 ∧ ¬ (Fit1 n ∧ Fit1 d))

theorem fitres_of {n d n' d' N D er : Int} (hd : d ≠ 0) (l : Low n' d') (e : n' * d = n * d') (r : Rat1 n d N D er) : FitRes n' d' N D er := by
  rcases r with ⟨rfl, l', e', f⟩ | ⟨rfl, rfl, rfl, no⟩
  · have := low_unique hd l l' e e'; rw [this.1, this.2]; exact .inl ⟨rfl, rfl, rfl, f⟩
  · exact .inr ⟨rfl, rfl, rfl, no _ _ l e⟩

/-- the sum of two ratios, cut by what divides both denominators once -/
theorem plus_low {x p y q s g p' q' t h t' k : Int} (hx : Int.gcd x p = 1) (hy : Int.gcd y q = 1) (hs : s = 1 ∨ s = -1) (hp : 0 < p) (hq : 0 < q) (g0 : 0 < g)
    (ep : p = g * p') (eq : q = g * q') (hc : Int.gcd p' q' = 1) (et : t = x * q' + s * y * p') (h0 : 0 < h) (et' : t = h * t') (eg : g = h * k) (hh : Int.gcd t' k = 1) :
    Low t' (p' * (q' * k)) ∧ t' * (p * q) = (x * q + s * (y * p)) * (p' * (q' * k)) := by
  have hs' : s * s = 1 := by rcases hs with rfl | rfl <;> rfl
  have p0 : 0 < p' := by
    rcases Int.lt_trichotomy p' 0 with c | c | c
    · have : g * p' < 0 := Int.mul_neg_of_pos_of_neg g0 c
      omega
    · subst c; rw [Int.mul_zero] at ep; omega
    · exact c
  have q0 : 0 < q' := by
    rcases Int.lt_trichotomy q' 0 with c | c | c
    · have : g * q' < 0 := Int.mul_neg_of_pos_of_neg g0 c
      omega
    · subst c; rw [Int.mul_zero] at eq; omega
    · exact c
  have k0 : 0 < k := by
    rcases Int.lt_trichotomy k 0 with c | c | c
    · have : h * k < 0 := Int.mul_neg_of_pos_of_neg h0 c
      omega
    · subst c; rw [Int.mul_zero] at eg; omega
    · exact c
  -- the sum has nothing in common with p', nor with q'
  have tp : Int.gcd t p' = 1 := by
    have xp : Int.gcd x p' = 1 := cop_right hx ⟨g, by rw [ep, Int.mul_comm]⟩
    have : Int.gcd (x * q') p' = 1 := cop_mul xp (by rw [Int.gcd_comm]; exact hc)
    rw [et, Int.add_comm]
    have e2 := Int.gcd_mul_right_add_left p' (x * q') (s * y)
    rw [e2]; exact this
  have tq : Int.gcd t q' = 1 := by
    have yq : Int.gcd y q' = 1 := cop_right hy ⟨g, by rw [eq, Int.mul_comm]⟩
    have sq : Int.gcd (s * y) q' = 1 := by rcases hs with rfl | rfl <;> simp [yq]
    have : Int.gcd (s * y * p') q' = 1 := cop_mul sq hc
    rw [et]
    have e2 := Int.gcd_mul_right_add_left q' (s * y * p') x
    rw [e2]; exact this
  have d : t' ∣ t := ⟨h, by rw [et', Int.mul_comm]⟩
  refine ⟨⟨Int.mul_pos p0 (Int.mul_pos q0 k0), cop_mul' (cop_left tp d) (cop_mul' (cop_left tq d) hh)⟩, ?_⟩
  have e1 : x * q + s * (y * p) = g * t := by
    rw [et, ep, eq, Int.mul_add]
    have a1 : x * (g * q') = g * (x * q') := by rw [← Int.mul_assoc, Int.mul_comm x g, Int.mul_assoc]
    have a2 : s * (y * (g * p')) = g * (s * y * p') := by
      rw [← Int.mul_assoc y, Int.mul_comm y g, Int.mul_assoc g, ← Int.mul_assoc s, Int.mul_comm s g, Int.mul_assoc g, ← Int.mul_assoc s]
    rw [a1, a2]
  rw [e1, et', ep, eq]
  have e2 : t' * (g * p' * (g * q')) = g * t' * g * (p' * q') := by ac_rfl
  have e3 : g * (h * t') * (p' * (q' * k)) = g * t' * (h * k) * (p' * q') := by ac_rfl
  rw [e2, e3, ← eg]

theorem cop_sign {a b a' b' : Int} (h : Int.gcd a b = 1) (e : (a' = a ∧ b' = b) ∨ (a' = -a ∧ b' = -b)) : Int.gcd a' b' = 1 := by
  rcases e with ⟨rfl, rfl⟩ | ⟨rfl, rfl⟩
  · exact h
  · rw [Int.neg_gcd, Int.gcd_neg]; exact h

/-- the product of x by p and n by d, each numerator cut against the other's denominator -/
theorem times_low {x p n d g1 x' d' g2 n' p' : Int} (hx : Int.gcd x p = 1) (hn : Int.gcd n d = 1) (ex : x = g1 * x') (ed : d = g1 * d') (h1 : Int.gcd x' d' = 1)
    (en : n = g2 * n') (ep : p = g2 * p') (h2 : Int.gcd n' p' = 1) (hD : 0 < p' * d') :
    Low (x' * n') (p' * d') ∧ x' * n' * (p * d) = x * n * (p' * d') := by
  have c1 : Int.gcd x' p' = 1 := cop_right (cop_left hx ⟨g1, by rw [ex, Int.mul_comm]⟩) ⟨g2, by rw [ep, Int.mul_comm]⟩
  have c2 : Int.gcd n' d' = 1 := cop_right (cop_left hn ⟨g2, by rw [en, Int.mul_comm]⟩) ⟨g1, by rw [ed, Int.mul_comm]⟩
  refine ⟨⟨hD, cop_mul (cop_mul' c1 h1) (cop_mul' h2 c2)⟩, ?_⟩
  rw [ex, ed, en, ep]
  ac_rfl

/-- what Make answers -/
def MakeRes (n d N D er : Int) : Prop := (d = 0 ∧ N = 0 ∧ D = 0 ∧ er = 3) ∨ (d ≠ 0 ∧ Rat1 n d N D er)
theorem makeres_ex (n d : Int) : ∃ N D er, MakeRes n d N D er := by
  by_cases c : d = 0
  · exact ⟨0, 0, 3, .inl ⟨c, rfl, rfl, rfl⟩⟩
  · obtain ⟨N, D, er, r⟩ := rat1_ex n c
    exact ⟨N, D, er, .inr ⟨c, r⟩⟩

/-- what is counted of a by b and c by d: the ratio of n and m, if both may be -/
def OpRes (a b c d n m N D er : Int) : Prop := (Low a b ∧ Low c d ∧ Rat1 n m N D er) ∨ (¬ (Low a b ∧ Low c d) ∧ N = 0 ∧ D = 0 ∧ er = 1)
theorem opres_ex {a b c d n m : Int} (h : Low a b → Low c d → m ≠ 0) : ∃ N D er, OpRes a b c d n m N D er := by
  by_cases k : Low a b ∧ Low c d
  · obtain ⟨N, D, er, r⟩ := rat1_ex n (h k.1 k.2)
    exact ⟨N, D, er, .inl ⟨k.1, k.2, r⟩⟩
  · exact ⟨0, 0, 1, .inr ⟨k, rfl, rfl, rfl⟩⟩
/-- what Div answers -/
def DivRes2 (a b c d N D er : Int) : Prop := (Low a b ∧ Low c d ∧ MakeRes (a * d) (b * c) N D er) ∨ (¬ (Low a b ∧ Low c d) ∧ N = 0 ∧ D = 0 ∧ er = 1)
theorem divres2_ex (a b c d : Int) : ∃ N D er, DivRes2 a b c d N D er := by
  by_cases k : Low a b ∧ Low c d
  · obtain ⟨N, D, er, r⟩ := makeres_ex (a * d) (b * c)
    exact ⟨N, D, er, .inl ⟨k.1, k.2, r⟩⟩
  · exact ⟨0, 0, 1, .inr ⟨k, rfl, rfl, rfl⟩⟩

/-- what Cmp answers, of a by b and c by d -/
def CmpRes (a b c d v er : Int) : Prop := (Low a b ∧ Low c d ∧ v = cv (a * d) (c * b) ∧ er = 0) ∨ (¬ (Low a b ∧ Low c d) ∧ v = 0 ∧ er = 1)
theorem cmpres_ex (a b c d : Int) : ∃ v er, CmpRes a b c d v er := by
  by_cases k : Low a b ∧ Low c d
  · exact ⟨_, 0, .inl ⟨k.1, k.2, rfl, rfl⟩⟩
  · exact ⟨0, 1, .inr ⟨k, rfl, rfl⟩⟩
/-- what Floor and Ceil answer -/
def FloorRes (a b v er : Int) : Prop := (Low a b ∧ v = a / b ∧ er = 0) ∨ (¬ Low a b ∧ v = 0 ∧ er = 1)
def CeilRes (a b v er : Int) : Prop := (Low a b ∧ v = (if a % b = 0 then a / b else a / b + 1) ∧ er = 0) ∨ (¬ Low a b ∧ v = 0 ∧ er = 1)
theorem floorres_ex (a b : Int) : ∃ v er, FloorRes a b v er := by
  by_cases k : Low a b
  · exact ⟨_, 0, .inl ⟨k, rfl, rfl⟩⟩
  · exact ⟨0, 1, .inr ⟨k, rfl, rfl⟩⟩
theorem ceilres_ex (a b : Int) : ∃ v er, CeilRes a b v er := by
  by_cases k : Low a b
  · exact ⟨_, 0, .inl ⟨k, rfl, rfl⟩⟩
  · exact ⟨0, 1, .inr ⟨k, rfl, rfl⟩⟩

theorem prod_small {a b : Int} (fa : Fit1 a) (b0 : -9223372036854775807 ≤ b) (b1 : b ≤ 9223372036854775807) :
    -85070591730234615856620279821087277056 ≤ a * b ∧ a * b ≤ 85070591730234615856620279821087277056 := by
  unfold Fit1 at fa
  have h1 : (a * b).natAbs ≤ 9223372036854775808 * 9223372036854775807 := by
    rw [Int.natAbs_mul]; exact Nat.mul_le_mul (by omega) (by omega)
  omega

end Go.Proofs.Ytapddciodoobfaa.Qm
