/- Which texts say a unit, and the digits of numbers; plain mathematics, nothing of the program. -/
import Derived.Test.YtfjckgnclhpmcaaDoorNmath
import Derived.Test.YtfjckgnclhpmcaaDoorTlaw
namespace Go.Proofs.YtfjckgnclhpmcaaDoor.Nm
set_option linter.unusedSimpArgs false
set_option linter.unusedVariables false
open Go.Proofs.YtfjckgnclhpmcaaDoor.Tm

theorem dig_of {b : UInt8} (h : IsDig (b.toNat : Int)) : ∃ k : Int, 0 ≤ k ∧ k ≤ 9 ∧ b = dg k ∧ (b.toNat : Int) - 48 = k := by
  unfold IsDig at h
  exact ⟨(b.toNat : Int) - 48, by omega, by omega, dg_of (by omega) (by omega), rfl⟩
theorem dig_dg {k : Int} (h0 : 0 ≤ k) (h1 : k ≤ 9) : IsDig ((dg k).toNat : Int) := by
  have := dg_val h0 h1
  unfold IsDig; omega
theorem s4_of {u : ByteArray} (h : u.size = 4) (a : AllDig u) : ∃ y : Int, 0 ≤ y ∧ y ≤ 9999 ∧ u = s4 y ∧ val u 4 = y := by
  obtain ⟨⟨l⟩⟩ := u
  have hl : l.length = 4 := h
  match l, hl with
  | [p, q, r, s], _ =>
    have a0 : IsDig (p.toNat : Int) := a 0 (show 0 < 4 by decide)
    have a1 : IsDig (q.toNat : Int) := a 1 (show 1 < 4 by decide)
    have a2 : IsDig (r.toNat : Int) := a 2 (show 2 < 4 by decide)
    have a3 : IsDig (s.toNat : Int) := a 3 (show 3 < 4 by decide)
    obtain ⟨k0, z0, t0, rfl, e0⟩ := dig_of a0
    obtain ⟨k1, z1, t1, rfl, e1⟩ := dig_of a1
    obtain ⟨k2, z2, t2, rfl, e2⟩ := dig_of a2
    obtain ⟨k3, z3, t3, rfl, e3⟩ := dig_of a3
    refine ⟨1000 * k0 + 100 * k1 + 10 * k2 + k3, by omega, by omega, ?_, ?_⟩
    · unfold s4
      rw [show (1000 * k0 + 100 * k1 + 10 * k2 + k3) / 1000 = k0 by omega, show (1000 * k0 + 100 * k1 + 10 * k2 + k3) / 100 % 10 = k1 by omega, show (1000 * k0 + 100 * k1 + 10 * k2 + k3) / 10 % 10 = k2 by omega, show (1000 * k0 + 100 * k1 + 10 * k2 + k3) % 10 = k3 by omega]
    · show 10 * (10 * (10 * (10 * 0 + (((dg k0).toNat : Int) - 48)) + (((dg k1).toNat : Int) - 48)) + (((dg k2).toNat : Int) - 48)) + (((dg k3).toNat : Int) - 48) = _
      omega
theorem s4_dig {y : Int} (h0 : 0 ≤ y) (h1 : y ≤ 9999) : AllDig (s4 y) ∧ val (s4 y) 4 = y := by
  have e0 := dg_val (k := y / 1000) (by omega) (by omega)
  have e1 := dg_val (k := y / 100 % 10) (by omega) (by omega)
  have e2 := dg_val (k := y / 10 % 10) (by omega) (by omega)
  have e3 := dg_val (k := y % 10) (by omega) (by omega)
  constructor
  · intro k hk
    have hk4 : k < 4 := hk
    have : k = 0 ∨ k = 1 ∨ k = 2 ∨ k = 3 := by omega
    rcases this with rfl | rfl | rfl | rfl
    · show IsDig ((dg (y / 1000)).toNat : Int); unfold IsDig; omega
    · show IsDig ((dg (y / 100 % 10)).toNat : Int); unfold IsDig; omega
    · show IsDig ((dg (y / 10 % 10)).toNat : Int); unfold IsDig; omega
    · show IsDig ((dg (y % 10)).toNat : Int); unfold IsDig; omega
  · show 10 * (10 * (10 * (10 * 0 + (((dg (y / 1000)).toNat : Int) - 48)) + (((dg (y / 100 % 10)).toNat : Int) - 48)) + (((dg (y / 10 % 10)).toNat : Int) - 48)) + (((dg (y % 10)).toNat : Int) - 48) = _
    omega
/-- digits of a level -/
theorem sd_of {L : Int} (hL : 1 ≤ L ∧ L ≤ 5) {u : ByteArray} (h : u.size = dgc L) (a : AllDig u) : ∃ i : Int, NumOk L i ∧ u = sd L i ∧ (L ≠ 1 → val u (dgc L) = i) := by
  obtain ⟨⟨l⟩⟩ := u
  have hl : l.length = dgc L := h
  have O : L = 1 ∨ (L = 2 ∨ L = 3) ∨ (L = 4 ∨ L = 5) := by omega
  rcases O with rfl | O | O
  · have : l = [] := List.eq_nil_of_length_eq_zero hl
    subst this
    exact ⟨1, .inl ⟨rfl, rfl⟩, rfl, fun q => absurd rfl q⟩
  · have hd : dgc L = 1 := by rcases O with rfl | rfl <;> rfl
    rw [hd] at hl ⊢
    match l, hl with
    | [p], _ =>
      have a0 : IsDig (p.toNat : Int) := a 0 (show 0 < 1 by decide)
      obtain ⟨k, z, t, rfl, e⟩ := dig_of a0
      refine ⟨k, .inr (.inl ⟨O, z, t⟩), ?_, fun _ => ?_⟩
      · rcases O with rfl | rfl <;> rfl
      · show 10 * 0 + (((dg k).toNat : Int) - 48) = _
        omega
  · have hd : dgc L = 2 := by rcases O with rfl | rfl <;> rfl
    rw [hd] at hl ⊢
    match l, hl with
    | [p, q], _ =>
      have a0 : IsDig (p.toNat : Int) := a 0 (show 0 < 2 by decide)
      have a1 : IsDig (q.toNat : Int) := a 1 (show 1 < 2 by decide)
      obtain ⟨k, z, t, rfl, e⟩ := dig_of a0
      obtain ⟨m, z', t', rfl, e'⟩ := dig_of a1
      refine ⟨10 * k + m, .inr (.inr ⟨O, by omega, by omega⟩), ?_, fun _ => ?_⟩
      · have : sd L (10 * k + m) = s2 (10 * k + m) := by rcases O with rfl | rfl <;> rfl
        rw [this]; unfold s2
        rw [show (10 * k + m) / 10 = k by omega, show (10 * k + m) % 10 = m by omega]
      · show 10 * (10 * 0 + (((dg k).toNat : Int) - 48)) + (((dg m).toNat : Int) - 48) = _
        omega
theorem sd_dig {L i : Int} (h : NumOk L i) : AllDig (sd L i) ∧ (L ≠ 1 → val (sd L i) (dgc L) = i) := by
  rcases h with ⟨rfl, rfl⟩ | ⟨O, z, t⟩ | ⟨O, z, t⟩
  · exact ⟨fun k hk => absurd (show k < 0 from hk) (by omega), fun q => absurd rfl q⟩
  · have e : sd L i = s1 i := by rcases O with rfl | rfl <;> rfl
    have hd : dgc L = 1 := by rcases O with rfl | rfl <;> rfl
    rw [e, hd]
    have v := dg_val z t
    constructor
    · intro k hk
      have hk' : k < 1 := hk
      obtain rfl : k = 0 := by omega
      exact dig_dg z t
    · intro _
      show 10 * 0 + (((dg i).toNat : Int) - 48) = _
      omega
  · have e : sd L i = s2 i := by rcases O with rfl | rfl <;> rfl
    have hd : dgc L = 2 := by rcases O with rfl | rfl <;> rfl
    rw [e, hd]
    have v := dg_val (k := i / 10) (by omega) (by omega)
    have v' := dg_val (k := i % 10) (by omega) (by omega)
    constructor
    · intro k hk
      have hk' : k < 2 := hk
      have : k = 0 ∨ k = 1 := by omega
      rcases this with rfl | rfl
      · exact dig_dg (k := i / 10) (by omega) (by omega)
      · exact dig_dg (k := i % 10) (by omega) (by omega)
    · intro _
      show 10 * (10 * 0 + (((dg (i / 10)).toNat : Int) - 48)) + (((dg (i % 10)).toNat : Int) - 48) = _
      omega

/-- the text behind the first four bytes -/
def tl4 (s : ByteArray) : ByteArray := s.extract 4 s.size
def hd4 (s : ByteArray) : ByteArray := s.extract 0 4
/-- t is the sign of L, and as many digits -/
def Match (t : ByteArray) (L : Int) : Prop := ∃ u, t = sgn L ++ u ∧ u.size = dgc L ∧ AllDig u
theorem hd_tl {s : ByteArray} (h : 4 ≤ s.size) : hd4 s ++ tl4 s = s := by
  unfold hd4 tl4
  rw [ByteArray.extract_append_extract, Nat.min_eq_left (by omega), Nat.max_eq_right (by omega)]
  exact ByteArray.extract_zero_size
theorem hd_size {s : ByteArray} (h : 4 ≤ s.size) : (hd4 s).size = 4 := by unfold hd4; rw [ByteArray.size_extract]; omega
theorem s4_app (y : Int) (t : ByteArray) : hd4 (s4 y ++ t) = s4 y ∧ tl4 (s4 y ++ t) = t := by
  unfold hd4 tl4
  constructor
  · exact ByteArray.extract_append_eq_left (s4_size y).symm
  · exact ByteArray.extract_append_eq_right (s4_size y).symm ByteArray.size_append
/-- which texts have a form -/
theorem form_iff {s : ByteArray} (L : Int) (hL : 1 ≤ L ∧ L ≤ 5) : (∃ y i, Form s L y i) ↔ 4 ≤ s.size ∧ AllDig (hd4 s) ∧ Match (tl4 s) L := by
  constructor
  · rintro ⟨y, i, y0, y1, n, rfl⟩
    unfold ustr
    rw [ByteArray.append_assoc]
    have a := s4_app y (sgn L ++ sd L i)
    rw [a.1, a.2]
    refine ⟨by rw [ByteArray.size_append, s4_size]; omega, (s4_dig y0 y1).1, sd L i, rfl, sd_size L i, (sd_dig n).1⟩
  · rintro ⟨h4, a, u, e, z, d⟩
    obtain ⟨y, y0, y1, e4, _⟩ := s4_of (hd_size h4) a
    obtain ⟨i, n, eu, _⟩ := sd_of hL z d
    refine ⟨y, i, y0, y1, n, ?_⟩
    unfold ustr
    rw [← hd_tl h4, e4, e, eu, ByteArray.append_assoc]
theorem form_level {s : ByteArray} {L y i : Int} (h : Form s L y i) : 1 ≤ L ∧ L ≤ 5 := by
  have := h.2.2.1
  unfold NumOk at this
  omega
/-- what a form's parts are -/
theorem form_parts {s : ByteArray} {L y i : Int} (h : Form s L y i) : 4 ≤ s.size ∧ hd4 s = s4 y ∧ tl4 s = sgn L ++ sd L i ∧ val (hd4 s) 4 = y ∧ AllDig (hd4 s) ∧ AllDig (sd L i) ∧ (L ≠ 1 → val (sd L i) (dgc L) = i) ∧ (L = 1 → i = 1) := by
  obtain ⟨y0, y1, n, rfl⟩ := h
  unfold ustr
  rw [ByteArray.append_assoc]
  have a := s4_app y (sgn L ++ sd L i)
  rw [a.1, a.2]
  have d := s4_dig y0 y1
  have e := sd_dig n
  refine ⟨by rw [ByteArray.size_append, s4_size]; omega, rfl, rfl, d.2, d.1, e.1, e.2, fun q => ?_⟩
  unfold NumOk at n; omega

end Go.Proofs.YtfjckgnclhpmcaaDoor.Nm
