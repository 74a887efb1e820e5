/- The weeks with which a unit is compared are those of its parts, one behind the other; plain mathematics, nothing of the program. -/
import Derived.Test.YtoeifpeiogeenaaGreatDoorJB
namespace Go.Proofs.YtoeifpeiogeenaaGreatDoor.Am
set_option linter.unusedSimpArgs false
set_option linter.unusedVariables false
open Go.Proofs.YtoeifpeiogeenaaGreatDoor.Cm Go.Proofs.YtoeifpeiogeenaaGreatDoor.Em Go.Proofs.YtoeifpeiogeenaaGreatDoor.Rk

section
variable {c : CalZ} {L M y z i t k a b : Int} {l : List U3}
/-- the period with which a unit of a level above the weeks ends -/
def pidx (c : CalZ) (L i : Int) : Int := if L = 1 then (if i ≤ 0 then 0 else per c) else if L = 2 then per c * (2 * i) / 4 else if L = 3 then per c * i / 4 else i
theorem uend_pidx (hL : LevOk L) (l4 : L ≠ 5) : uend c y L i = pend c y (pidx c L i) := by
  have : L = 1 ∨ L = 2 ∨ L = 3 ∨ L = 4 := by have := hL.1; have := hL.2; omega
  rcases this with rfl | rfl | rfl | rfl
  · simp only [uend, pidx, if_true]; split <;> rfl
  · simp [uend, pidx]
  · simp [uend, pidx]
  · simp [uend, pidx]
theorem pidx_bd (h : KindOk c) (hL : LevOk L) (l4 : L ≠ 5) (i0 : 0 ≤ i) (i1 : i ≤ ucount c y L) : 0 ≤ pidx c L i ∧ pidx c L i ≤ per c := by
  have pb := per_bd h
  have : L = 1 ∨ L = 2 ∨ L = 3 ∨ L = 4 := by have := hL.1; have := hL.2; omega
  rcases this with rfl | rfl | rfl | rfl
  · simp only [pidx, if_true]; split <;> omega
  · simp only [pidx, ucount] at i1 ⊢
    simp at i1
    have : i = 0 ∨ i = 1 ∨ i = 2 := by omega
    rcases this with rfl | rfl | rfl <;> simp <;> omega
  · simp only [pidx, ucount] at i1 ⊢
    simp at i1
    have : i = 0 ∨ i = 1 ∨ i = 2 ∨ i = 3 ∨ i = 4 := by omega
    rcases this with rfl | rfl | rfl | rfl | rfl <;> simp <;> omega
  · simp only [pidx, ucount] at i1 ⊢
    simp at i1 ⊢
    omega
/-- what begins, or ends, together in one year does in each -/
theorem ends_too (h : KindOk c) (y0 : 1601 ≤ y) (y1 : y ≤ 9997) (hL : LevOk L) (l4 : L ≠ 5) (hM : LevOk M) (m4 : M ≠ 5) (i0 : 0 ≤ i) (i1 : i ≤ ucount c y L) (a0 : 0 ≤ a) (a1 : a ≤ ucount c y M) (e : uend c y M a = uend c y L i) : uend c z M a = uend c z L i := by
  have b1 := pidx_bd h hL l4 i0 i1
  have b2 := pidx_bd h hM m4 a0 a1
  rw [uend_pidx hM m4, uend_pidx hL l4] at e ⊢
  have : pidx c M a = pidx c L i := by
    by_cases q : pidx c M a ≤ pidx c L i
    · have := pend_mono h y0 y1 b2.1 q b1.2; omega
    · have := pend_mono h y0 y1 b1.1 (show pidx c L i ≤ pidx c M a by omega) b2.2; omega
  rw [this]
/-- the weeks with which units of a level end -/
theorem wk_ends (h : KindOk c) (z0 : 1601 ≤ z) (z1 : z ≤ 9997) (hM : LevOk M) : ∃ W : Int → Int, ∀ x, 0 ≤ x → x ≤ ucount c z M → 0 ≤ W x ∧ W x ≤ ucount c z 5 ∧ uend c z 5 (W x) = uend c z M x := by
  have e : ∀ x : Int, ∃ w : Int, 0 ≤ x → x ≤ ucount c z M → 0 ≤ w ∧ w ≤ ucount c z 5 ∧ uend c z 5 w = uend c z M x := fun x => by
    by_cases q : 0 ≤ x ∧ x ≤ ucount c z M
    · obtain ⟨w, w0, w1, e⟩ := edge h z0 z1 (L := M) (M := 5) hM.1 (by omega) hM.2 (i := x) q.1 q.2
      exact ⟨w, fun _ _ => ⟨w0, w1, e⟩⟩
    · exact ⟨0, fun h1 h2 => absurd ⟨h1, h2⟩ q⟩
  exact ⟨fun x => (e x).choose, fun x => (e x).choose_spec⟩
variable {W : Int → Int}
theorem wk_rise (h : KindOk c) (z0 : 1601 ≤ z) (z1 : z ≤ 9997) (hM : LevOk M) (hW : ∀ x, 0 ≤ x → x ≤ ucount c z M → 0 ≤ W x ∧ W x ≤ ucount c z 5 ∧ uend c z 5 (W x) = uend c z M x) (x : Int) (x0 : 1 ≤ x) (x1 : x ≤ ucount c z M) : W (x - 1) + 1 ≤ W x := by
  have p := hW (x - 1) (by omega) (by omega)
  have q := hW x (by omega) x1
  have s := uend_step (c := c) (L := M) (y := z) (i := x - 1) h z0 z1 hM (by omega) (by omega)
  rw [show x - 1 + 1 = x by omega] at s
  by_cases r : W x ≤ W (x - 1)
  · have := uend_mono (c := c) (L := 5) (y := z) h z0 z1 ⟨by omega, by omega⟩ (a := W x) (b := W (x - 1)) q.1 r p.2.1
    omega
  · omega
/-- first and last week of what goes from the end of unit x to that of unit v -/
theorem wk_span (h : KindOk c) (z0 : 1601 ≤ z) (z1 : z ≤ 9997) (hW : ∀ x, 0 ≤ x → x ≤ ucount c z M → 0 ≤ W x ∧ W x ≤ ucount c z 5 ∧ uend c z 5 (W x) = uend c z M x) {x v : Int} (x0 : 0 ≤ x) (x1 : x ≤ ucount c z M) (v0 : 0 ≤ v) (v1 : v ≤ ucount c z M) (lt : W x + 1 ≤ W v) (e1 : uend c z M x = uend c z L (i - 1)) (e2 : uend c z M v = uend c z L i) : WkOf c L z i (W x + 1) (W v) := by
  have p := hW x x0 x1
  have q := hW v v0 v1
  have l5 : LevOk 5 := ⟨by omega, by omega⟩
  have s1 := uend_step (c := c) (L := 5) (y := z) (i := W x) h z0 z1 l5 p.1 (by omega)
  have s2 := uend_step (c := c) (L := 5) (y := z) (i := W v - 1) h z0 z1 l5 (by omega) (by omega)
  rw [show W v - 1 + 1 = W v by omega] at s2
  refine ⟨⟨by omega, by omega, ?_, ?_⟩, ⟨by omega, q.2.1, ?_, ?_⟩⟩
  · rw [show W x + 1 - 1 = W x by omega]; omega
  · omega
  · omega
  · omega
theorem cmp_pre {A : Int} {n m : Nat} (h : cmpW c y t A (n + m) = some l) : ∃ p q, cmpW c y t A n = some p ∧ cmpW c y t (A + n) m = some q ∧ l = p ++ q := by
  rw [cmpW_add] at h
  cases e : cmpW c y t A n with
  | none => rw [e] at h; cases h
  | some p =>
    rw [e] at h
    cases e2 : cmpW c y t (A + n) m with
    | none => rw [e2] at h; cases h
    | some q =>
      rw [e2] at h
      cases h
      exact ⟨p, q, rfl, rfl, rfl⟩
theorem parts_ex (R : TwA c L y i k l 0) (u : UnitOk c L y i) (lm : L ≤ M) (m5 : M ≤ 5) (Ia : InU c y M (uend c y L (i - 1) + 1) a) (Ib : InU c y M (uend c y L i) b) (no : ¬ (c.k = 6 ∧ M = 5)) :
    ∃ pre : Nat → List U3, ∃ n : Nat, (n : Int) = b - a + 1 ∧ 1 ≤ a ∧ 1 ≤ n ∧ b ≤ 60 ∧ pre 0 = [] ∧ pre n = l ∧ ∀ j : Nat, j < n → ∃ lj ej, TwA c M y (a + j) k lj ej ∧ (ej = 0 ∨ (ej = 12 ∧ lj = [])) ∧ pre (j + 1) = pre j ++ lj := by
  have ty := served_told u.1 u.2.2.1
  have hL := u.2.1
  have hM : LevOk M := ⟨by have := hL.1; omega, m5⟩
  have i0 := u.2.2.2.1
  have i1 := u.2.2.2.2
  obtain ⟨a', Ia', ea⟩ := first_in (c := c) (y := y) (L := L) (M := M) (i := i) u.1.1 (by omega) (by omega) hL.1 m5 lm i0 i1
  obtain rfl := inu_uniq u.1.1 (by omega) (by omega) hM Ia Ia'
  obtain ⟨b', Ib', eb⟩ := last_in (c := c) (y := y) (L := L) (M := M) (i := i) u.1.1 (by omega) (by omega) hL.1 m5 lm i0 i1
  obtain rfl := inu_uniq u.1.1 (by omega) (by omega) hM Ib Ib'
  have ab : a ≤ b := by
    have s := uend_step (c := c) (L := L) (y := y) (i := i - 1) u.1.1 (by omega) (by omega) hL (by omega) (by omega)
    rw [show i - 1 + 1 = i by omega] at s
    by_cases q : a ≤ b
    · exact q
    · have := uend_mono (c := c) (L := M) (y := y) u.1.1 (by omega) (by omega) hM (a := b) (b := a - 1) (by have := Ib.1; omega) (by omega) (by have := Ia.2.1; omega)
      omega
  have a1 := Ia.1
  have b1 := Ib.2.1
  have ub := ucount_bd (c := c) (L := M) (y := y) u.1.1 (by omega) (by omega)
  obtain ⟨n, hn⟩ : ∃ n : Nat, (n : Int) = b - a + 1 := ⟨(b - a + 1).toNat, by omega⟩
  have uM : ∀ j : Nat, j < n → UnitOk c M y (a + j) := fun j hj => ⟨u.1, hM, u.2.2.1, by omega, by omega⟩
  rcases R with ⟨_, st, o, wf, ⟨_, _, h⟩ | ⟨_, _, h⟩ | ⟨rfl, ne, _⟩⟩ | ⟨_, _, _, h⟩ | ⟨no', ck, _⟩
  · omega
  · omega
  · rcases wf with ⟨k6, A, B, WK, e⟩ | ⟨k6, hL5, A, B, WK, e⟩ | ⟨k6, hL5, _⟩
    · -- weeks, one by one
      obtain ⟨W, hW⟩ := wk_ends (c := c) (z := y) (M := M) u.1.1 (by omega) (by omega) hM
      have rise := wk_rise u.1.1 (by omega) (by omega) hM hW
      have up : ∀ j : Nat, j ≤ n → W (a - 1) + j ≤ W (a - 1 + j) := by
        intro j
        induction j with
        | zero => intro _; simp
        | succ j ih =>
          intro hj
          have ih := ih (by omega)
          have r := rise (a - 1 + ((j + 1 : Nat) : Int)) (by omega) (by omega)
          rw [show a - 1 + ((j + 1 : Nat) : Int) - 1 = a - 1 + j by omega] at r
          omega
      have un := up n (Nat.le_refl _)
      rw [show a - 1 + (n : Int) = b by omega] at un
      have WT := wk_span (L := L) (i := i) u.1.1 (by omega) (by omega) hW (x := a - 1) (v := b) (by omega) (by omega) (by omega) b1 (by omega) ea eb
      have l5 : LevOk 5 := ⟨by omega, by omega⟩
      obtain rfl := inu_uniq u.1.1 (by omega) (by omega) l5 WK.1 WT.1
      obtain rfl := inu_uniq u.1.1 (by omega) (by omega) l5 WK.2 WT.2
      obtain ⟨N, hN⟩ : ∃ N : Nat → Nat, ∀ j, N j = (W (a - 1 + j) - W (a - 1)).toNat := ⟨_, fun j => rfl⟩
      have e' : cmpW c y (y + k) (W (a - 1) + 1) (N n) = some l := by
        rw [hN n, show a - 1 + (n : Int) = b by omega, e]
        congr 1; omega
      have le : ∀ j, j ≤ n → N j ≤ N n := fun j hj => by
        have q : ∀ m : Nat, j ≤ m → m ≤ n → N j ≤ N m := by
          intro m
          induction m with
          | zero => intro h _; obtain rfl : j = 0 := by omega
                    exact Nat.le_refl _
          | succ m ih =>
            intro h1 h2
            by_cases z : j = m + 1
            · subst z; exact Nat.le_refl _
            · have := ih (by omega) (by omega)
              have r := rise (a - 1 + ((m + 1 : Nat) : Int)) (by omega) (by omega)
              rw [show a - 1 + ((m + 1 : Nat) : Int) - 1 = a - 1 + m by omega] at r
              have := hN m
              have := hN (m + 1)
              omega
        exact q n hj (Nat.le_refl _)
      have P : ∀ j, j ≤ n → ∃ p, cmpW c y (y + k) (W (a - 1) + 1) (N j) = some p := fun j hj => by
        have h := le j hj
        obtain ⟨p, q, h1, _⟩ := cmp_pre (n := N j) (m := N n - N j) (l := l) (by rw [show N j + (N n - N j) = N n by omega]; exact e')
        exact ⟨p, h1⟩
      refine ⟨fun j => (cmpW c y (y + k) (W (a - 1) + 1) (N j)).getD [], n, hn, a1, by omega, by omega, ?_, ?_, fun j hj => ?_⟩
      · have : N 0 = 0 := by rw [hN 0]; simp
        simp only [this]; rfl
      · simp only [e']; rfl
      · obtain ⟨p, hp⟩ := P (j + 1) (by omega)
        have r := rise (a - 1 + ((j + 1 : Nat) : Int)) (by omega) (by omega)
        rw [show a - 1 + ((j + 1 : Nat) : Int) - 1 = a - 1 + j by omega] at r
        have n1 := hN j
        have n2 := hN (j + 1)
        have u1 := up j (by omega)
        obtain ⟨p1, q1, h1, h2, h3⟩ := cmp_pre (n := N j) (m := N (j + 1) - N j) (l := p) (by rw [show N j + (N (j + 1) - N j) = N (j + 1) by omega]; exact hp)
        have xe : a - 1 + ((j + 1 : Nat) : Int) = a + j := by omega
        have WJ := wk_span (L := M) (i := a + j) u.1.1 (by omega) (by omega) hW (x := a - 1 + j) (v := a + j) (by omega) (by omega) (by omega) (by omega) (by rw [xe] at r; omega) (by rw [show a - 1 + (j : Int) = a + j - 1 by omega]) rfl
        rw [xe] at n2 r
        have A1 : W (a - 1) + 1 + (N j : Int) = W (a - 1 + j) + 1 := by omega
        have A2 : N (j + 1) - N j = (W (a + j) - (W (a - 1 + j) + 1) + 1).toNat := by omega
        rw [A1, A2] at h2
        refine ⟨q1, if q1 = [] then 12 else 0, .inl ⟨uM j hj, st, _, .inl ⟨k6, _, _, WJ, rfl⟩, ?_⟩, ?_, ?_⟩
        · rw [h2]
          by_cases z : q1 = []
          · exact .inr (.inl ⟨by rw [z], z, by rw [if_pos z]⟩)
          · exact .inr (.inr ⟨rfl, z, by rw [if_neg z]⟩)
        · by_cases z : q1 = []
          · exact .inr ⟨by rw [if_pos z], z⟩
          · exact .inl (by rw [if_neg z])
        · simp only [hp, h1, Option.getD_some]
          exact h3
    · -- by months: weeks of the other year
      have m4 : M ≠ 5 := fun e => no ⟨k6, e⟩
      have tt := served_told u.1 st
      have ea2 := ends_too (z := y + k) u.1.1 (by omega) (by omega) hL hL5 hM m4 (i := i - 1) (a := a - 1) (by omega) (by omega) (by omega) (by omega) ea
      have eb2 := ends_too (z := y + k) u.1.1 (by omega) (by omega) hL hL5 hM m4 (i := i) (a := b) (by omega) i1 (by omega) b1 eb
      have cc : ucount c (y + k) M = ucount c y M := by
        have : M = 1 ∨ M = 2 ∨ M = 3 ∨ M = 4 := by have := hM.1; omega
        rcases this with rfl | rfl | rfl | rfl <;> simp [ucount]
      obtain ⟨W, hW⟩ := wk_ends (c := c) (z := y + k) (M := M) u.1.1 (by omega) (by omega) hM
      have rise := wk_rise u.1.1 (by omega) (by omega) hM hW
      have up : ∀ j : Nat, j ≤ n → W (a - 1) + j ≤ W (a - 1 + j) := by
        intro j
        induction j with
        | zero => intro _; simp
        | succ j ih =>
          intro hj
          have ih := ih (by omega)
          have r := rise (a - 1 + ((j + 1 : Nat) : Int)) (by omega) (by omega)
          rw [show a - 1 + ((j + 1 : Nat) : Int) - 1 = a - 1 + j by omega] at r
          omega
      have un := up n (Nat.le_refl _)
      rw [show a - 1 + (n : Int) = b by omega] at un
      have WT := wk_span (L := L) (i := i) u.1.1 (by omega) (by omega) hW (x := a - 1) (v := b) (by omega) (by omega) (by omega) (by omega) (by omega) ea2 eb2
      have l5 : LevOk 5 := ⟨by omega, by omega⟩
      obtain rfl := inu_uniq u.1.1 (by omega) (by omega) l5 WK.1 WT.1
      obtain rfl := inu_uniq u.1.1 (by omega) (by omega) l5 WK.2 WT.2
      cases e
      obtain ⟨N, hN⟩ : ∃ N : Nat → Nat, ∀ j, N j = (W (a - 1 + j) - W (a - 1)).toNat := ⟨_, fun j => rfl⟩
      refine ⟨fun j => wkL (y + k) (W (a - 1) + 1) (N j), n, hn, a1, by omega, by omega, ?_, ?_, fun j hj => ?_⟩
      · have : N 0 = 0 := by rw [hN 0]; simp
        simp only [this]; rfl
      · simp only [hN n, show a - 1 + (n : Int) = b by omega]
        congr 1; omega
      · have r := rise (a - 1 + ((j + 1 : Nat) : Int)) (by omega) (by omega)
        rw [show a - 1 + ((j + 1 : Nat) : Int) - 1 = a - 1 + j by omega] at r
        have n1 := hN j
        have n2 := hN (j + 1)
        have u1 := up j (by omega)
        have xe : a - 1 + ((j + 1 : Nat) : Int) = a + j := by omega
        rw [xe] at n2 r
        have WJ := wk_span (L := M) (i := a + j) u.1.1 (by omega) (by omega) hW (x := a - 1 + j) (v := a + j) (by omega) (by omega) (by omega) (by omega) (by omega) (by rw [show a - 1 + (j : Int) = a + j - 1 by omega]) rfl
        have A1 : W (a - 1) + 1 + (N j : Int) = W (a - 1 + j) + 1 := by omega
        refine ⟨_, 0, .inl ⟨uM j hj, st, _, .inr (.inl ⟨k6, m4, _, _, WJ, rfl⟩), .inr (.inr ⟨rfl, ?_, rfl⟩)⟩, .inl rfl, ?_⟩
        · intro z
          have := congrArg List.length z
          rw [wkL_len] at this
          simp at this
          omega
        · have := wkL_add (y + k) (W (a - 1) + 1) (N j) (W (a + j) - (W (a - 1 + j) + 1) + 1).toNat
          rw [A1] at this
          have A2 : N (j + 1) = N j + (W (a + j) - (W (a - 1 + j) + 1) + 1).toNat := by omega
          simp only [A2]
          exact this
    · subst hL5
      exact absurd ⟨k6, by omega⟩ no
  · omega
  · exact absurd u no'
end

end Go.Proofs.YtoeifpeiogeenaaGreatDoor.Am
