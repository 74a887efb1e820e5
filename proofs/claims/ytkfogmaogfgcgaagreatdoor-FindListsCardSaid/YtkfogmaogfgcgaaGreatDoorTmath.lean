/- Plain facts on digits, and on days as texts; nothing of the program. -/
import Derived.Test.YtkfogmaogfgcgaaGreatDoorJP
import Derived.Lib.ItoaMem
import Derived.Laws.Strings2
import Derived.Laws.Concat
import Derived.Laws.Strings
namespace Go.Proofs.YtkfogmaogfgcgaaGreatDoor.Tm
set_option linter.unusedSimpArgs false
set_option linter.unusedVariables false
open Go.Proofs.YtkfogmaogfgcgaaGreatDoor.Cm Go.Proofs.YtkfogmaogfgcgaaGreatDoor.Em

/-- a digit as a byte -/
def dg (k : Int) : UInt8 := UInt8.ofNat (48 + k.toNat)
theorem dg_val {k : Int} (h0 : 0 ≤ k) (h1 : k ≤ 9) : ((dg k).toNat : Int) = 48 + k := by
  unfold dg
  rw [UInt8.toNat_ofNat', Nat.mod_eq_of_lt (by omega)]
  omega
theorem dg_nat {k : Int} (h0 : 0 ≤ k) (h1 : k ≤ 9) : (dg k).toNat = 48 + k.toNat := by
  have := dg_val h0 h1; omega
/-- a byte that is a digit -/
theorem dg_of {c : UInt8} (h0 : 48 ≤ c.toNat) (h1 : c.toNat ≤ 57) : c = dg ((c.toNat : Int) - 48) := by
  apply UInt8.toNat_inj.1
  rw [dg_nat (by omega) (by omega)]; omega
theorem dg_inj {a b : Int} (a0 : 0 ≤ a) (a1 : a ≤ 9) (b0 : 0 ≤ b) (b1 : b ≤ 9) (h : dg a = dg b) : a = b := by
  have := dg_val a0 a1
  have := dg_val b0 b1
  rw [h] at *; omega

/-- the digits of numbers of one, two and four digits -/
def s1 (n : Int) : ByteArray := ⟨#[dg n]⟩
def s2 (n : Int) : ByteArray := ⟨#[dg (n / 10), dg (n % 10)]⟩
def s4 (n : Int) : ByteArray := ⟨#[dg (n / 1000), dg (n / 100 % 10), dg (n / 10 % 10), dg (n % 10)]⟩
theorem s1_size (n : Int) : (s1 n).size = 1 := rfl
theorem s2_size (n : Int) : (s2 n).size = 2 := rfl
theorem s4_size (n : Int) : (s4 n).size = 4 := rfl

theorem itoa_1 {n : Nat} (h : n ≤ 9) : (⟨(Go.Lib.decDigits n).toArray⟩ : ByteArray) = s1 n := by
  rw [Go.Lib.decDigits_one (by omega)]
  unfold s1 dg
  rfl
theorem itoa_2 {n : Nat} (h0 : 10 ≤ n) (h : n ≤ 99) : (⟨(Go.Lib.decDigits n).toArray⟩ : ByteArray) = s2 n := by
  rw [Go.Lib.decDigits_two (by omega) (by omega)]
  unfold s2 dg
  rw [show ((n : Int) / 10).toNat = n / 10 by omega, show ((n : Int) % 10).toNat = n % 10 by omega]
theorem itoa_4 {n : Nat} (h0 : 1000 ≤ n) (h : n ≤ 9999) : (⟨(Go.Lib.itoa n).toArray⟩ : ByteArray) = s4 n := by
  rw [Go.Lib.itoa_nonneg]
  have e : Go.Lib.decDigits n = [dg ((n : Int) / 1000), dg ((n : Int) / 100 % 10), dg ((n : Int) / 10 % 10), dg ((n : Int) % 10)] := by
    rw [Go.Lib.decDigits, dif_neg (by omega), Go.Lib.decDigits, dif_neg (by omega), Go.Lib.decDigits_two (by omega) (by omega)]
    unfold dg
    rw [show ((n : Int) / 1000).toNat = n / 10 / 10 / 10 by omega, show ((n : Int) / 100 % 10).toNat = n / 10 / 10 % 10 by omega, show ((n : Int) / 10 % 10).toNat = n / 10 % 10 by omega, show ((n : Int) % 10).toNat = n % 10 by omega]
    rfl
  rw [e]; rfl
theorem pad_2 {n : Int} (h0 : 0 ≤ n) (h : n ≤ 9) : (⟨#[48]⟩ : ByteArray) ++ s1 n = s2 n := by
  unfold s1 s2
  rw [show n / 10 = 0 by omega, show n % 10 = n by omega]
  exact ByteArray.mk_append_mk [48] [dg n]

/-- a day, and an ISO day, written -/
def dstr (y m d : Int) : ByteArray := ⟨#[dg (y / 1000), dg (y / 100 % 10), dg (y / 10 % 10), dg (y % 10), 45, dg (m / 10), dg (m % 10), 45, dg (d / 10), dg (d % 10)]⟩
def istr (y k d : Int) : ByteArray := ⟨#[dg (y / 1000), dg (y / 100 % 10), dg (y / 10 % 10), dg (y % 10), 45, 87, dg (k / 10), dg (k % 10), 45, dg d]⟩
theorem dstr_size (y m d : Int) : (dstr y m d).size = 10 := rfl
theorem istr_size (y m d : Int) : (istr y m d).size = 10 := rfl
theorem dstr_is (y m d : Int) : s4 y ++ ⟨#[45]⟩ ++ s2 m ++ ⟨#[45]⟩ ++ s2 d = dstr y m d := by
  unfold s4 s2 dstr
  rw [ByteArray.mk_append_mk [_, _, _, _] [45], ByteArray.mk_append_mk _ [_, _], ByteArray.mk_append_mk _ [45], ByteArray.mk_append_mk _ [_, _]]
  rfl
theorem istr_is (y k d : Int) : s4 y ++ ⟨#[45, 87]⟩ ++ s2 k ++ ⟨#[45]⟩ ++ s1 d = istr y k d := by
  unfold s4 s2 s1 istr
  rw [ByteArray.mk_append_mk [_, _, _, _] [45, 87], ByteArray.mk_append_mk _ [_, _], ByteArray.mk_append_mk _ [45], ByteArray.mk_append_mk _ [_]]
  rfl

/-- may c stand where a form has p? -/
def okAt (c p : UInt8) : Prop := (p = 48 ∧ 48 ≤ c.toNat ∧ c.toNat ≤ 57) ∨ (p ≠ 48 ∧ c = p)
instance (c p : UInt8) : Decidable (okAt c p) := by unfold okAt; exact inferInstance
def Like (s f : ByteArray) : Prop := s.size = f.size ∧ ∀ i (h : i < s.size) (h' : i < f.size), okAt s[i] f[i]
def dateF : ByteArray := ⟨#[48, 48, 48, 48, 45, 48, 48, 45, 48, 48]⟩
def isoF : ByteArray := ⟨#[48, 48, 48, 48, 45, 87, 48, 48, 45, 48]⟩

/-- ten bytes -/
theorem ten {s : ByteArray} (h : s.size = 10) : ∃ a b c d e f g i j k : UInt8, s = ⟨#[a, b, c, d, e, f, g, i, j, k]⟩ := by
  obtain ⟨⟨l⟩⟩ := s
  have hl : l.length = 10 := h
  match l, hl with
  | [a, b, c, d, e, f, g, i, j, k], _ => exact ⟨a, b, c, d, e, f, g, i, j, k, rfl⟩
theorem digit {c : UInt8} (h : okAt c 48) : ∃ k : Int, 0 ≤ k ∧ k ≤ 9 ∧ c = dg k := by
  rcases h with ⟨_, h0, h1⟩ | ⟨h, _⟩
  · exact ⟨(c.toNat : Int) - 48, by omega, by omega, dg_of h0 h1⟩
  · exact absurd rfl h
theorem okAt_dg {k : Int} (h0 : 0 ≤ k) (h1 : k ≤ 9) : okAt (dg k) 48 := by
  have := dg_val h0 h1
  exact .inl ⟨rfl, by omega, by omega⟩
theorem sep {c p : UInt8} (h : okAt c p) (hp : p ≠ 48) : c = p := by
  rcases h with ⟨e, _⟩ | ⟨_, h⟩
  · exact absurd e hp
  · exact h

/-- what is like a form is written so -/
theorem like_date {s : ByteArray} (h : Like s dateF) : ∃ y m d : Int, 0 ≤ y ∧ y ≤ 9999 ∧ 0 ≤ m ∧ m ≤ 99 ∧ 0 ≤ d ∧ d ≤ 99 ∧ s = dstr y m d := by
  have h10 : s.size = 10 := h.1
  obtain ⟨b0, b1, b2, b3, b4, b5, b6, b7, b8, b9, rfl⟩ := ten h10
  have k := h.2
  obtain ⟨k0, z0, t0, rfl⟩ := digit (k 0 (show 0 < 10 by decide) (show 0 < 10 by decide))
  obtain ⟨k1, z1, t1, rfl⟩ := digit (k 1 (show 1 < 10 by decide) (show 1 < 10 by decide))
  obtain ⟨k2, z2, t2, rfl⟩ := digit (k 2 (show 2 < 10 by decide) (show 2 < 10 by decide))
  obtain ⟨k3, z3, t3, rfl⟩ := digit (k 3 (show 3 < 10 by decide) (show 3 < 10 by decide))
  have e4 : b4 = 45 := sep (k 4 (show 4 < 10 by decide) (show 4 < 10 by decide)) (show (45 : UInt8) ≠ 48 by decide)
  obtain ⟨k5, z5, t5, rfl⟩ := digit (k 5 (show 5 < 10 by decide) (show 5 < 10 by decide))
  obtain ⟨k6, z6, t6, rfl⟩ := digit (k 6 (show 6 < 10 by decide) (show 6 < 10 by decide))
  have e7 : b7 = 45 := sep (k 7 (show 7 < 10 by decide) (show 7 < 10 by decide)) (show (45 : UInt8) ≠ 48 by decide)
  obtain ⟨k8, z8, t8, rfl⟩ := digit (k 8 (show 8 < 10 by decide) (show 8 < 10 by decide))
  obtain ⟨k9, z9, t9, rfl⟩ := digit (k 9 (show 9 < 10 by decide) (show 9 < 10 by decide))
  subst e4 e7
  refine ⟨1000 * k0 + 100 * k1 + 10 * k2 + k3, 10 * k5 + k6, 10 * k8 + k9, by omega, by omega, by omega, by omega, by omega, by omega, ?_⟩
  unfold dstr
  rw [show (1000 * k0 + 100 * k1 + 10 * k2 + k3) / 1000 = k0 by omega, show (1000 * k0 + 100 * k1 + 10 * k2 + k3) / 100 % 10 = k1 by omega, show (1000 * k0 + 100 * k1 + 10 * k2 + k3) / 10 % 10 = k2 by omega,
    show (1000 * k0 + 100 * k1 + 10 * k2 + k3) % 10 = k3 by omega, show (10 * k5 + k6) / 10 = k5 by omega, show (10 * k5 + k6) % 10 = k6 by omega, show (10 * k8 + k9) / 10 = k8 by omega, show (10 * k8 + k9) % 10 = k9 by omega]
theorem like_iso {s : ByteArray} (h : Like s isoF) : ∃ y m d : Int, 0 ≤ y ∧ y ≤ 9999 ∧ 0 ≤ m ∧ m ≤ 99 ∧ 0 ≤ d ∧ d ≤ 9 ∧ s = istr y m d := by
  have h10 : s.size = 10 := h.1
  obtain ⟨b0, b1, b2, b3, b4, b5, b6, b7, b8, b9, rfl⟩ := ten h10
  have k := h.2
  obtain ⟨k0, z0, t0, rfl⟩ := digit (k 0 (show 0 < 10 by decide) (show 0 < 10 by decide))
  obtain ⟨k1, z1, t1, rfl⟩ := digit (k 1 (show 1 < 10 by decide) (show 1 < 10 by decide))
  obtain ⟨k2, z2, t2, rfl⟩ := digit (k 2 (show 2 < 10 by decide) (show 2 < 10 by decide))
  obtain ⟨k3, z3, t3, rfl⟩ := digit (k 3 (show 3 < 10 by decide) (show 3 < 10 by decide))
  have e4 : b4 = 45 := sep (k 4 (show 4 < 10 by decide) (show 4 < 10 by decide)) (show (45 : UInt8) ≠ 48 by decide)
  have e5 : b5 = 87 := sep (k 5 (show 5 < 10 by decide) (show 5 < 10 by decide)) (show (87 : UInt8) ≠ 48 by decide)
  obtain ⟨k6, z6, t6, rfl⟩ := digit (k 6 (show 6 < 10 by decide) (show 6 < 10 by decide))
  obtain ⟨k7, z7, t7, rfl⟩ := digit (k 7 (show 7 < 10 by decide) (show 7 < 10 by decide))
  have e8 : b8 = 45 := sep (k 8 (show 8 < 10 by decide) (show 8 < 10 by decide)) (show (45 : UInt8) ≠ 48 by decide)
  obtain ⟨k9, z9, t9, rfl⟩ := digit (k 9 (show 9 < 10 by decide) (show 9 < 10 by decide))
  subst e4 e5 e8
  refine ⟨1000 * k0 + 100 * k1 + 10 * k2 + k3, 10 * k6 + k7, k9, by omega, by omega, by omega, by omega, by omega, by omega, ?_⟩
  unfold istr
  rw [show (1000 * k0 + 100 * k1 + 10 * k2 + k3) / 1000 = k0 by omega, show (1000 * k0 + 100 * k1 + 10 * k2 + k3) / 100 % 10 = k1 by omega, show (1000 * k0 + 100 * k1 + 10 * k2 + k3) / 10 % 10 = k2 by omega,
    show (1000 * k0 + 100 * k1 + 10 * k2 + k3) % 10 = k3 by omega, show (10 * k6 + k7) / 10 = k6 by omega, show (10 * k6 + k7) % 10 = k7 by omega]
theorem date_like {y m d : Int} (y0 : 0 ≤ y) (y1 : y ≤ 9999) (m0 : 0 ≤ m) (m1 : m ≤ 99) (d0 : 0 ≤ d) (d1 : d ≤ 99) : Like (dstr y m d) dateF := by
  refine ⟨rfl, fun i h h' => ?_⟩
  have hi : i = 0 ∨ i = 1 ∨ i = 2 ∨ i = 3 ∨ i = 4 ∨ i = 5 ∨ i = 6 ∨ i = 7 ∨ i = 8 ∨ i = 9 := by
    have : i < 10 := h
    omega
  rcases hi with rfl | rfl | rfl | rfl | rfl | rfl | rfl | rfl | rfl | rfl
  · exact okAt_dg (k := y / 1000) (by omega) (by omega)
  · exact okAt_dg (k := y / 100 % 10) (by omega) (by omega)
  · exact okAt_dg (k := y / 10 % 10) (by omega) (by omega)
  · exact okAt_dg (k := y % 10) (by omega) (by omega)
  · exact .inr ⟨(show (45 : UInt8) ≠ 48 by decide), rfl⟩
  · exact okAt_dg (k := m / 10) (by omega) (by omega)
  · exact okAt_dg (k := m % 10) (by omega) (by omega)
  · exact .inr ⟨(show (45 : UInt8) ≠ 48 by decide), rfl⟩
  · exact okAt_dg (k := d / 10) (by omega) (by omega)
  · exact okAt_dg (k := d % 10) (by omega) (by omega)
theorem iso_like {y m d : Int} (y0 : 0 ≤ y) (y1 : y ≤ 9999) (m0 : 0 ≤ m) (m1 : m ≤ 99) (d0 : 0 ≤ d) (d1 : d ≤ 9) : Like (istr y m d) isoF := by
  refine ⟨rfl, fun i h h' => ?_⟩
  have hi : i = 0 ∨ i = 1 ∨ i = 2 ∨ i = 3 ∨ i = 4 ∨ i = 5 ∨ i = 6 ∨ i = 7 ∨ i = 8 ∨ i = 9 := by
    have : i < 10 := h
    omega
  rcases hi with rfl | rfl | rfl | rfl | rfl | rfl | rfl | rfl | rfl | rfl
  · exact okAt_dg (k := y / 1000) (by omega) (by omega)
  · exact okAt_dg (k := y / 100 % 10) (by omega) (by omega)
  · exact okAt_dg (k := y / 10 % 10) (by omega) (by omega)
  · exact okAt_dg (k := y % 10) (by omega) (by omega)
  · exact .inr ⟨(show (45 : UInt8) ≠ 48 by decide), rfl⟩
  · exact .inr ⟨(show (87 : UInt8) ≠ 48 by decide), rfl⟩
  · exact okAt_dg (k := m / 10) (by omega) (by omega)
  · exact okAt_dg (k := m % 10) (by omega) (by omega)
  · exact .inr ⟨(show (45 : UInt8) ≠ 48 by decide), rfl⟩
  · exact okAt_dg (k := d) (by omega) (by omega)
/-- no text has both forms -/
theorem not_both {s : ByteArray} (h : Like s dateF) (h' : Like s isoF) : False := by
  obtain ⟨y, m, d, _, _, _, _, _, _, rfl⟩ := like_date h
  have a := h'.2 5 (show 5 < 10 by decide) (show 5 < 10 by decide)
  have b := h.2 5 (show 5 < 10 by decide) (show 5 < 10 by decide)
  have e := sep a (show (87 : UInt8) ≠ 48 by decide)
  rw [e] at b
  revert b
  show ¬ okAt 87 48
  decide

/-- the number that digits tell -/
def vl (f : Nat → Int) : Nat → Int
  | 0 => 0
  | k + 1 => 10 * vl f k + f k
theorem vl_bd {f : Nat → Int} {n k : Nat} (h : ∀ i, i < n → 0 ≤ f i ∧ f i ≤ 9) (hk : k ≤ n) (h4 : n ≤ 4) : 0 ≤ vl f k ∧ vl f k ≤ 9999 := by
  have b : ∀ i, i < n → 0 ≤ f i ∧ f i ≤ 9 := h
  match k, hk with
  | k + 5, hk => omega
  | 0, _ => simp [vl]
  | 1, hk => have := b 0 (by omega); simp [vl]; omega
  | 2, hk => have := b 0 (by omega); have := b 1 (by omega); simp [vl]; omega
  | 3, hk => have := b 0 (by omega); have := b 1 (by omega); have := b 2 (by omega); simp [vl]; omega
  | 4, hk => have := b 0 (by omega); have := b 1 (by omega); have := b 2 (by omega); have := b 3 (by omega); simp [vl]; omega

/-! what is cut out of a day's text -/
theorem dcut_y (y m d : Int) : (dstr y m d).extract 0 4 = s4 y := by unfold dstr s4; exact ByteArray.extract_mk [_, _, _, _, _, _, _, _, _, _] 0 4
theorem dcut_m (y m d : Int) : (dstr y m d).extract 5 7 = s2 m := by unfold dstr s2; exact ByteArray.extract_mk [_, _, _, _, _, _, _, _, _, _] 5 7
theorem dcut_d (y m d : Int) : (dstr y m d).extract 8 10 = s2 d := by unfold dstr s2; exact ByteArray.extract_mk [_, _, _, _, _, _, _, _, _, _] 8 10
theorem icut_y (y m d : Int) : (istr y m d).extract 0 4 = s4 y := by unfold istr s4; exact ByteArray.extract_mk [_, _, _, _, _, _, _, _, _, _] 0 4
theorem icut_m (y m d : Int) : (istr y m d).extract 6 8 = s2 m := by unfold istr s2; exact ByteArray.extract_mk [_, _, _, _, _, _, _, _, _, _] 6 8
theorem icut_d (y m d : Int) : (istr y m d).extract 9 10 = s1 d := by unfold istr s1; exact ByteArray.extract_mk [_, _, _, _, _, _, _, _, _, _] 9 10

/-! what the functions answer -/
def PrRes (n : Int) (s : ByteArray) (er : Int) : Prop := (0 ≤ n ∧ n ≤ 3068036 ∧ ∃ y m d, DateOk y m d ∧ num y m d = n ∧ s = dstr y m d ∧ er = 0) ∨ (¬ (0 ≤ n ∧ n ≤ 3068036) ∧ s = ⟨#[]⟩ ∧ er = 4)
def PiRes (n : Int) (s : ByteArray) (er : Int) : Prop := (0 ≤ n ∧ n ≤ 3068036 ∧ ∃ y k d, IsoOk y k d ∧ inum y k d = n ∧ s = istr y k d ∧ er = 0) ∨ (¬ (0 ≤ n ∧ n ≤ 3068036) ∧ s = ⟨#[]⟩ ∧ er = 4)
def PaRes (s : ByteArray) (v er : Int) : Prop := (∃ y m d, 0 ≤ y ∧ y ≤ 9999 ∧ 0 ≤ m ∧ m ≤ 99 ∧ 0 ≤ d ∧ d ≤ 99 ∧ s = dstr y m d ∧ DayRes y m d v er) ∨ (¬ Like s dateF ∧ v = 0 ∧ er = 5)
def PsRes (s : ByteArray) (v er : Int) : Prop := (∃ y k d, 0 ≤ y ∧ y ≤ 9999 ∧ 0 ≤ k ∧ k ≤ 99 ∧ 0 ≤ d ∧ d ≤ 9 ∧ s = istr y k d ∧ IDayRes y k d v er) ∨ (¬ Like s isoF ∧ v = 0 ∧ er = 5)
theorem prres_ex (n : Int) : ∃ s er, PrRes n s er := by
  by_cases h : 0 ≤ n ∧ n ≤ 3068036
  · obtain ⟨y, m, d, h1, h2⟩ := num_ex h.1 h.2
    exact ⟨_, 0, .inl ⟨h.1, h.2, y, m, d, h1, h2, rfl, rfl⟩⟩
  · exact ⟨_, 4, .inr ⟨h, rfl, rfl⟩⟩
theorem pires_ex (n : Int) : ∃ s er, PiRes n s er := by
  by_cases h : 0 ≤ n ∧ n ≤ 3068036
  · obtain ⟨y, m, d, h1, h2⟩ := iso_ex h.1 h.2
    exact ⟨_, 0, .inl ⟨h.1, h.2, y, m, d, h1, h2, rfl, rfl⟩⟩
  · exact ⟨_, 4, .inr ⟨h, rfl, rfl⟩⟩
theorem pares_ex (s : ByteArray) : ∃ v er, PaRes s v er := by
  by_cases h : Like s dateF
  · obtain ⟨y, m, d, a, b, c, e, f, g, h⟩ := like_date h
    obtain ⟨v, er, R⟩ := dayres_ex y m d
    exact ⟨v, er, .inl ⟨y, m, d, a, b, c, e, f, g, h, R⟩⟩
  · exact ⟨0, 5, .inr ⟨h, rfl, rfl⟩⟩
theorem psres_ex (s : ByteArray) : ∃ v er, PsRes s v er := by
  by_cases h : Like s isoF
  · obtain ⟨y, m, d, a, b, c, e, f, g, h⟩ := like_iso h
    obtain ⟨v, er, R⟩ := idayres_ex y m d
    exact ⟨v, er, .inl ⟨y, m, d, a, b, c, e, f, g, h, R⟩⟩
  · exact ⟨0, 5, .inr ⟨h, rfl, rfl⟩⟩

end Go.Proofs.YtkfogmaogfgcgaaGreatDoor.Tm
