/- The units of a span by a finer level lie in those by a coarser one; plain mathematics, nothing of the program. -/
import Derived.Test.YtoeifpeiogeenaaGreatDoorPday
namespace Go.Proofs.YtoeifpeiogeenaaGreatDoor.Am
set_option linter.unusedSimpArgs false
set_option linter.unusedVariables false
open Go.Proofs.YtoeifpeiogeenaaGreatDoor.Cm Go.Proofs.YtoeifpeiogeenaaGreatDoor.Em Go.Proofs.YtoeifpeiogeenaaGreatDoor.Rk Go.Proofs.YtoeifpeiogeenaaGreatDoor.Sm

section
variable {c : CalZ} {L a b y0 i0 y n : Int} {N k : Nat}
theorem Cut.at0 (h : Cut c L a b y0 i0 y n N) (k : Nat) (hk : k ≤ N) : sm (pday c L a b (y0, i0)) k = pfst c L a (y0, i0) k - a ∧ sm (pday c L a b (y0, i0)) (k + 1) = plst c L b (y0, i0) k - a + 1 := by
  have s := h.sum_to k hk
  refine ⟨?_, s⟩
  have e : sm (pday c L a b (y0, i0)) (k + 1) = sm (pday c L a b (y0, i0)) k + pday c L a b (y0, i0) k := rfl
  have d : pday c L a b (y0, i0) k = plst c L b (y0, i0) k - pfst c L a (y0, i0) k + 1 := rfl
  omega
/-- each day of a span lies in one of its units -/
theorem Cut.find (h : Cut c L a b y0 i0 y n N) (x : Int) (x0 : a ≤ x) (x1 : x ≤ b) : ∃ j, j ≤ N ∧ sm (pday c L a b (y0, i0)) j ≤ x - a ∧ x - a < sm (pday c L a b (y0, i0)) (j + 1) := by
  have go : ∀ m, m ≤ N + 1 → (x - a < sm (pday c L a b (y0, i0)) m) → ∃ j, j < m ∧ sm (pday c L a b (y0, i0)) j ≤ x - a ∧ x - a < sm (pday c L a b (y0, i0)) (j + 1) := by
    intro m
    induction m with
    | zero => intro _ q; exfalso; have : sm (pday c L a b (y0, i0)) 0 = 0 := rfl; omega
    | succ m ih =>
      intro hm q
      by_cases p : x - a < sm (pday c L a b (y0, i0)) m
      · obtain ⟨j, h1, h2, h3⟩ := ih (by omega) p
        exact ⟨j, by omega, h2, h3⟩
      · exact ⟨m, by omega, by omega, q⟩
  obtain ⟨j, h1, h2, h3⟩ := go (N + 1) (Nat.le_refl _) (by rw [h.sum]; omega)
  exact ⟨j, by omega, h2, h3⟩
theorem Cut.pos (h : Cut c L a b y0 i0 y n N) {j k : Nat} (hj : j < k) (hk : k ≤ N + 1) : sm (pday c L a b (y0, i0)) j < sm (pday c L a b (y0, i0)) k := by
  induction k with
  | zero => omega
  | succ k ih =>
    have d := (h.day k (by omega)).1
    have e : sm (pday c L a b (y0, i0)) (k + 1) = sm (pday c L a b (y0, i0)) k + pday c L a b (y0, i0) k := rfl
    by_cases q : j = k
    · subst q; omega
    · have := ih (by omega) (by omega)
      omega
theorem Cut.ne (h : Cut c L a b y0 i0 y n N) {j k : Nat} (hj : j < k) (hk : k ≤ N) : itu c L (y0, i0) j ≠ itu c L (y0, i0) k := fun e => by
  have r := h.way.rise (j := j) (k := k) (by omega) hk
  unfold ulst at r
  rw [e] at r
  omega
/-- a unit of the list in which a day of the span lies -/
theorem Cut.is (h : Cut c L a b y0 i0 y n N) {p r x : Int} {j : Nat} (hj : j ≤ N) (u : UnitOk c L p r) (ux : uend c p L (r - 1) < x) (xu : x ≤ uend c p L r) (x1 : ufst c L (y0, i0) j ≤ x) (x2 : x ≤ ulst c L (y0, i0) j) : itu c L (y0, i0) j = (p, r) := by
  have v := (h.way.ok j hj).1
  obtain ⟨⟨q, s⟩, e⟩ : ∃ z, itu c L (y0, i0) j = z := ⟨_, rfl⟩
  unfold ufst at x1
  unfold ulst at x2
  rw [e] at v x1 x2 ⊢
  simp only at v x1 x2
  have y1 := unit_year u ux xu
  have y2 := unit_year v (n := x) (by omega) x2
  have ey := year_uniq u.1.1 (by omega) (by omega) y1.1 y1.2.1 (by omega) (by omega) y2.1 y2.2.1
  subst ey
  have := inu_uniq u.1.1 (by omega) (by omega) u.2.1 ⟨u.2.2.2.1, u.2.2.2.2, ux, xu⟩ ⟨v.2.2.2.1, v.2.2.2.2, by omega, x2⟩
  subst this
  rfl
variable {F z0 j0 z m : Int} {K : Nat}
/-- the k-th unit by the finer level lies in the j-th one by the coarser -/
theorem nest (h : Cut c L a b y0 i0 y n N) (g : Cut c F a b z0 j0 z m K) (lf : L ≤ F) (k : Nat) (hk : k ≤ K) : ∃ j, j ≤ N ∧ (UnitOk c F (itu c F (z0, j0) k).1 (itu c F (z0, j0) k).2 ∧ 1 ≤ L ∧ L ≤ F ∧ InU c (itu c F (z0, j0) k).1 L (uend c (itu c F (z0, j0) k).1 F ((itu c F (z0, j0) k).2 - 1) + 1) (itu c L (y0, i0) j).2 ∧ (itu c L (y0, i0) j).1 = (itu c F (z0, j0) k).1) ∧
    sm (pday c L a b (y0, i0)) j ≤ sm (pday c F a b (z0, j0)) k ∧ sm (pday c F a b (z0, j0)) (k + 1) ≤ sm (pday c L a b (y0, i0)) (j + 1) := by
  have u := (g.way.ok k hk).1
  have dk := g.day k hk
  have lg := g.way.long k hk
  have sk := g.at0 k hk
  have su := g.upto k (by omega)
  have su2 := g.upto (k + 1) (by omega)
  have gp := g.part k hk
  have f0 := g.first
  have l0 := g.last
  have st := served_told u.1 u.2.2.1
  have ll := h.way.u.2.1
  have lf' := g.way.u.2.1
  have ab := g.ab
  obtain ⟨⟨p, q⟩, e⟩ : ∃ s, itu c F (z0, j0) k = s := ⟨_, rfl⟩
  have ef : ufst c F (z0, j0) k = uend c p F (q - 1) + 1 := by unfold ufst; rw [e]
  have el : ulst c F (z0, j0) k = uend c p F q := by unfold ulst; rw [e]
  rw [e] at u st ⊢
  simp only at u st ⊢
  have ud := unit_year u (n := ufst c F (z0, j0) k) (by omega) (by omega)
  have zz := pend_zero c p
  have zl := pend_last (c := c) (y := p) u.1.1 (by omega) (by omega)
  obtain ⟨r, hr⟩ := inu_ex (c := c) (y := p) (L := L) (d := uend c p F (q - 1) + 1) u.1.1 (by omega) (by omega) ll (by omega) (by omega)
  have ins := inside u.1.1 (by omega) (by omega) ll.1 lf'.2 lf u.2.2.2.1 u.2.2.2.2 hr
  have ur : UnitOk c L p r := ⟨u.1, ll, u.2.2.1, hr.1, hr.2.1⟩
  -- a day of it that lies in the span
  obtain ⟨x, hx⟩ : ∃ x, pfst c F a (z0, j0) k = x := ⟨_, rfl⟩
  have xf : ufst c F (z0, j0) k ≤ x ∧ a ≤ x ∧ (x = a ∨ x = ufst c F (z0, j0) k) := by
    rw [← hx]
    unfold pfst
    by_cases w : ufst c F (z0, j0) k < a
    · rw [if_pos w]; omega
    · rw [if_neg w]; omega
  have xl : x ≤ plst c F b (z0, j0) k := by omega
  have xp : plst c F b (z0, j0) k ≤ b ∧ plst c F b (z0, j0) k ≤ ulst c F (z0, j0) k ∧ (plst c F b (z0, j0) k = b ∨ plst c F b (z0, j0) k = ulst c F (z0, j0) k) := by
    unfold plst
    by_cases w : b < ulst c F (z0, j0) k
    · rw [if_pos w]; omega
    · rw [if_neg w]; omega
  obtain ⟨j, hj, s1, s2⟩ := h.find x xf.2.1 (by omega)
  have hs := h.at0 j hj
  have hd := h.day j hj
  have xf2 : ufst c L (y0, i0) j ≤ pfst c L a (y0, i0) j ∧ (pfst c L a (y0, i0) j = a ∨ pfst c L a (y0, i0) j = ufst c L (y0, i0) j) := by
    unfold pfst
    by_cases w : ufst c L (y0, i0) j < a
    · rw [if_pos w]; omega
    · rw [if_neg w]; omega
  have xl2 : plst c L b (y0, i0) j ≤ ulst c L (y0, i0) j ∧ (plst c L b (y0, i0) j = b ∨ plst c L b (y0, i0) j = ulst c L (y0, i0) j) := by
    unfold plst
    by_cases w : b < ulst c L (y0, i0) j
    · rw [if_pos w]; omega
    · rw [if_neg w]; omega
  have is := h.is hj ur (x := x) (by omega) (by omega) (by omega) (by omega)
  have jf : ufst c L (y0, i0) j = uend c p L (r - 1) + 1 := by unfold ufst; rw [is]
  have jl : ulst c L (y0, i0) j = uend c p L r := by unfold ulst; rw [is]
  refine ⟨j, hj, ?_, ?_, ?_⟩
  · rw [is]
    exact ⟨u, ll.1, lf, hr, rfl⟩
  · omega
  · omega
/-- where the walk through the finer units stands: behind k of them, in the t-th of the coarser -/
def NestAt (P Q : Nat → Int) (k t : Nat) (s : Int) : Prop :=
  (k = 0 ∧ t = 0 ∧ s = 0) ∨ (0 < k ∧ P t ≤ Q (k - 1) ∧ Q k ≤ P (t + 1) ∧ s = Q k - P t)
theorem nest_step (h : Cut c L a b y0 i0 y n N) (g : Cut c F a b z0 j0 z m K) {k t j : Nat} {s : Int} (hk : k ≤ K) (ht : t ≤ N) (hj : j ≤ N)
    (I : NestAt (sm (pday c L a b (y0, i0))) (sm (pday c F a b (z0, j0))) k t s) (s1 : sm (pday c L a b (y0, i0)) j ≤ sm (pday c F a b (z0, j0)) k) (s2 : sm (pday c F a b (z0, j0)) (k + 1) ≤ sm (pday c L a b (y0, i0)) (j + 1)) :
    (j = t ∧ NestAt (sm (pday c L a b (y0, i0))) (sm (pday c F a b (z0, j0))) (k + 1) t (s + pday c F a b (z0, j0) k)) ∨
    (j = t + 1 ∧ s = pday c L a b (y0, i0) t ∧ NestAt (sm (pday c L a b (y0, i0))) (sm (pday c F a b (z0, j0))) (k + 1) (t + 1) (pday c F a b (z0, j0) k)) := by
  have eq : sm (pday c F a b (z0, j0)) (k + 1) = sm (pday c F a b (z0, j0)) k + pday c F a b (z0, j0) k := rfl
  have ep : sm (pday c L a b (y0, i0)) (t + 1) = sm (pday c L a b (y0, i0)) t + pday c L a b (y0, i0) t := rfl
  have gk := g.pos (j := k) (k := k + 1) (by omega) (by omega)
  rcases I with ⟨rfl, rfl, rfl⟩ | ⟨k0, i1, i2, e⟩
  · have z1 : sm (pday c F a b (z0, j0)) 0 = 0 := rfl
    have z2 : sm (pday c L a b (y0, i0)) 0 = 0 := rfl
    have : j = 0 := by
      by_cases q : 0 < j
      · have := h.pos q (by omega); omega
      · omega
    subst this
    exact .inl ⟨rfl, .inr ⟨by omega, by simp only [Nat.add_sub_cancel]; omega, by omega, by omega⟩⟩
  · have gk1 := g.pos (j := k - 1) (k := k) (by omega) (by omega)
    have jt : t ≤ j := by
      by_cases q : j < t
      · by_cases q2 : j + 1 = t
        · subst q2; omega
        · have := h.pos (j := j + 1) (k := t) (by omega) (by omega); omega
      · omega
    by_cases q : j = t
    · subst q
      exact .inl ⟨rfl, .inr ⟨by omega, by simp only [Nat.add_sub_cancel]; omega, by omega, by omega⟩⟩
    · have j1 : j = t + 1 := by
        by_cases q2 : j = t + 1
        · exact q2
        · have := h.pos (j := t + 1) (k := j) (by omega) (by omega); omega
      subst j1
      exact .inr ⟨rfl, by omega, .inr ⟨by omega, by simp only [Nat.add_sub_cancel]; omega, by omega, by omega⟩⟩
theorem nest_end (h : Cut c L a b y0 i0 y n N) (g : Cut c F a b z0 j0 z m K) {t : Nat} {s : Int} (ht : t ≤ N)
    (I : NestAt (sm (pday c L a b (y0, i0))) (sm (pday c F a b (z0, j0))) (K + 1) t s) : t = N ∧ s = pday c L a b (y0, i0) t := by
  have s1 := h.sum
  have s2 := g.sum
  have ep : sm (pday c L a b (y0, i0)) (t + 1) = sm (pday c L a b (y0, i0)) t + pday c L a b (y0, i0) t := rfl
  rcases I with ⟨h0, _⟩ | ⟨_, _, i2, e⟩
  · omega
  · have tn : t = N := by
      by_cases q : t = N
      · exact q
      · have := h.pos (j := t + 1) (k := N + 1) (by omega) (by omega); omega
    subst tn
    exact ⟨rfl, by omega⟩
theorem nest_bd (h : Cut c L a b y0 i0 y n N) (g : Cut c F a b z0 j0 z m K) {k t : Nat} {s : Int} (hk : k ≤ K + 1) (ht : t ≤ N)
    (I : NestAt (sm (pday c L a b (y0, i0))) (sm (pday c F a b (z0, j0))) k t s) : 0 ≤ s ∧ s ≤ b - a + 1 := by
  have ab := h.ab
  have b1 := h.upto t (by omega)
  have b2 := g.upto k hk
  rcases I with ⟨_, _, rfl⟩ | ⟨k0, i1, i2, e⟩
  · omega
  · have := g.pos (j := k - 1) (k := k) (by omega) hk
    omega
end

end Go.Proofs.YtoeifpeiogeenaaGreatDoor.Am
