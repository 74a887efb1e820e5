/- Plain facts on places that are sorted by keys: insertion, rotation, merging; nothing of the program. -/
import Derived.Test.YtodpmdmfdnbehabSmath
namespace Go.Proofs.Ytodpmdmfdnbehab.Om
set_option linter.unusedSimpArgs false
set_option linter.unusedVariables false
open Go.Proofs.Ytodpmdmfdnbehab.Sm

theorem sm_flat {F : Nat → Int} {a : Nat} : ∀ {b : Nat}, a ≤ b → (∀ i, a ≤ i → i < b → F i = 0) → sm F b = sm F a
  | 0, h, _ => by obtain rfl : a = 0 := by omega
                  rfl
  | b + 1, h, z => by
    by_cases e : a = b + 1
    · subst e; rfl
    · unfold sm
      have h1 := sm_flat (F := F) (a := a) (b := b) (by omega) (fun i h1 h2 => z i h1 (by omega))
      have h2 := z b (by omega) (by omega)
      rw [h1, h2]
      cases a with
      | zero => simp [sm]
      | succ a => simp [sm]
theorem sm_up {F : Nat → Int} {a : Nat} : ∀ {b : Nat}, a ≤ b → (∀ i, a ≤ i → i < b → 0 ≤ F i) → sm F a ≤ sm F b
  | 0, h, _ => by obtain rfl : a = 0 := by omega
                  exact Int.le_refl _
  | b + 1, h, z => by
    by_cases e : a = b + 1
    · subst e; exact Int.le_refl _
    · have h1 := sm_up (F := F) (a := a) (b := b) (by omega) (fun i h1 h2 => z i h1 (by omega))
      have h2 := z b (by omega) (by omega)
      have e1 : sm F (b + 1) = sm F b + F b := rfl
      omega
theorem sm_more {F : Nat → Int} {a b k : Nat} (ka : a ≤ k) (kb : k < b) (z : ∀ i, a ≤ i → i < b → 0 ≤ F i) (hk : 1 ≤ F k) : sm F a + 1 ≤ sm F b := by
  have h1 := sm_up (F := F) (a := a) (b := k) ka (fun i h1 h2 => z i h1 (by omega))
  have h2 := sm_up (F := F) (a := k + 1) (b := b) (by omega) (fun i h1 h2 => z i (by omega) h2)
  have e1 : sm F (k + 1) = sm F k + F k := rfl
  omega
theorem sm_tail {F G : Nat → Int} {b : Nat} : ∀ {c : Nat}, b ≤ c → sm F b = sm G b → (∀ i, b ≤ i → i < c → F i = G i) → sm F c = sm G c
  | 0, h, e, _ => by obtain rfl : b = 0 := by omega
                     exact e
  | c + 1, h, e, z => by
    by_cases k : b = c + 1
    · subst k; exact e
    · have h1 := sm_tail (F := F) (G := G) (b := b) (c := c) (by omega) e (fun i h1 h2 => z i h1 (by omega))
      have h2 := z c (by omega) (by omega)
      have e1 : sm F (c + 1) = sm F c + F c := rfl
      have e2 : sm G (c + 1) = sm G c + G c := rfl
      omega
theorem sm_part (F : Nat → Int) (a : Nat) : ∀ k, sm F (a + k) = sm F a + sm (fun i => F (a + i)) k
  | 0 => by simp [sm]
  | k + 1 => by
    have h := sm_part F a k
    have e1 : sm F (a + (k + 1)) = sm F (a + k) + F (a + k) := rfl
    have e2 : sm (fun i => F (a + i)) (k + 1) = sm (fun i => F (a + i)) k + F (a + k) := rfl
    omega

/-- the same values on [a, b), in another order -/
structure Pm (f f' : Nat → Nat) (a b : Nat) : Prop where
  lo : ∀ i, i < a → f' i = f i
  hi : ∀ i, b ≤ i → f' i = f i
  ev : ∀ h : Nat → Int, sm (fun i => h (f' i)) b = sm (fun i => h (f i)) b

theorem Pm.refl (f : Nat → Nat) (a b : Nat) : Pm f f a b := ⟨fun _ _ => rfl, fun _ _ => rfl, fun _ => rfl⟩
theorem Pm.trans {f g k : Nat → Nat} {a b : Nat} (x : Pm f g a b) (y : Pm g k a b) : Pm f k a b :=
  ⟨fun i h => (y.lo i h).trans (x.lo i h), fun i h => (y.hi i h).trans (x.hi i h), fun h => (y.ev h).trans (x.ev h)⟩
theorem Pm.mono {f g : Nat → Nat} {a b a' b' : Nat} (x : Pm f g a b) (h1 : a' ≤ a) (h2 : b ≤ b') : Pm f g a' b' :=
  ⟨fun i h => x.lo i (by omega), fun i h => x.hi i (by omega), fun h => sm_tail h2 (x.ev h) (fun i hi _ => by rw [x.hi i hi])⟩
theorem Pm.all {f f' : Nat → Nat} {a b : Nat} (x : Pm f f' a b) {P : Nat → Prop} (hp : ∀ i, a ≤ i → i < b → P (f i)) : ∀ i, a ≤ i → i < b → P (f' i) := by
  classical
  intro k ka kb
  by_cases hk : P (f' k)
  · exact hk
  · exfalso
    have e := x.ev (fun v => if P v then 0 else 1)
    have e1 : sm (fun i => if P (f i) then (0 : Int) else 1) b = sm (fun i => if P (f i) then (0 : Int) else 1) a :=
      sm_flat (by omega) (fun i h1 h2 => by simp [hp i h1 h2])
    have e2 := sm_more (F := fun i => if P (f' i) then (0 : Int) else 1) (a := a) (b := b) ka kb (fun i _ _ => by split <;> omega) (by rw [if_neg hk]; omega)
    have e3 : sm (fun i => if P (f' i) then (0 : Int) else 1) a = sm (fun i => if P (f i) then (0 : Int) else 1) a := sm_congr (fun i hi => by rw [x.lo i hi])
    omega

/-- two places changed -/
def sw (f : Nat → Nat) (i j k : Nat) : Nat := if k = i then f j else if k = j then f i else f k
theorem sw_pm (f : Nat → Nat) {i j a b : Nat} (ia : a ≤ i) (ib : i < b) (ja : a ≤ j) (jb : j < b) (ne : i ≠ j) : Pm f (sw f i j) a b := by
  refine ⟨fun k h => by unfold sw; rw [if_neg (by omega), if_neg (by omega)], fun k h => by unfold sw; rw [if_neg (by omega), if_neg (by omega)], fun h => ?_⟩
  have e : sm (fun k => h (sw f i j k)) b = sm (fun k => if k = i then h (f j) else (fun k => if k = j then h (f i) else h (f k)) k) b :=
    sm_congr (fun k _ => by
      unfold sw
      by_cases c1 : k = i
      · rw [if_pos c1, if_pos c1]
      · rw [if_neg c1, if_neg c1]
        by_cases c2 : k = j
        · rw [if_pos c2]; show _ = if k = j then _ else _; rw [if_pos c2]
        · rw [if_neg c2]; show _ = if k = j then _ else _; rw [if_neg c2])
  rw [e, sm_set _ _ i ib, sm_set (fun k => h (f k)) _ j jb]
  simp only [ne, if_false]
  omega

theorem ahead_trans {r : Nat → Int} {x y z : Nat} (h : Ahead r x y) (k : Ahead r y z) : Ahead r x z := by unfold Ahead at *; omega
theorem ahead_lt {r : Nat → Int} {x y : Nat} (h : y < x) : Ahead r x y ↔ r y < r x := by unfold Ahead; omega
theorem ahead_ge {r : Nat → Int} {x y : Nat} (h : y < x) (k : ¬ r y < r x) : Ahead r y x := by unfold Ahead; omega

def Srt (r : Nat → Int) (f : Nat → Nat) (a b : Nat) : Prop := ∀ i j, a ≤ i → i < j → j < b → Ahead r (f i) (f j)
def Lo (f : Nat → Nat) (a m b : Nat) : Prop := ∀ i j, a ≤ i → i < m → m ≤ j → j < b → f i < f j
def Asc (f : Nat → Nat) (a b : Nat) : Prop := ∀ i j, a ≤ i → i < j → j < b → f i < f j

/-- the one at j is on its way down from i -/
structure Ins (r : Nat → Int) (f0 f : Nat → Nat) (a i j : Nat) : Prop where
  pm : Pm f0 f a (i + 1)
  s : ∀ p q, a ≤ p → p < q → q ≤ i → p ≠ j → q ≠ j → Ahead r (f p) (f q)
  up : ∀ q, j < q → q ≤ i → Ahead r (f j) (f q)
  big : ∀ q, a ≤ q → q ≤ i → q ≠ j → f q < f j
theorem Ins.start {r : Nat → Int} {f0 f : Nat → Nat} {a i : Nat} (p : Pm f0 f a i) (s : Srt r f a i) (b : ∀ q, a ≤ q → q < i → f q < f i) : Ins r f0 f a i i :=
  ⟨p.mono (Nat.le_refl _) (by omega), fun p q h1 h2 h3 h4 h5 => s p q h1 h2 (by omega), fun q h1 h2 => by omega, fun q h1 h2 h3 => b q h1 (by omega)⟩
theorem Ins.step {r : Nat → Int} {f0 f : Nat → Nat} {a i k : Nat} (x : Ins r f0 f a i (k + 1)) (ka : a ≤ k) (ki : k + 1 ≤ i) (h : r (f k) < r (f (k + 1))) : Ins r f0 (sw f (k + 1) k) a i k := by
  have ah : Ahead r (f (k + 1)) (f k) := .inl h
  have e0 : sw f (k + 1) k k = f (k + 1) := by unfold sw; rw [if_neg (by omega), if_pos rfl]
  have e1 : sw f (k + 1) k (k + 1) = f k := by unfold sw; rw [if_pos rfl]
  have e2 : ∀ q, q ≠ k → q ≠ k + 1 → sw f (k + 1) k q = f q := fun q h1 h2 => by unfold sw; rw [if_neg h2, if_neg h1]
  refine ⟨x.pm.trans (sw_pm f (by omega) (by omega) ka (by omega) (by omega)), ?_, ?_, ?_⟩
  · intro p q h1 h2 h3 h4 h5
    by_cases c1 : p = k + 1
    · subst c1
      rw [e1, e2 q h5 (by omega)]
      exact x.s k q ka (by omega) h3 (by omega) (by omega)
    · by_cases c2 : q = k + 1
      · subst c2
        rw [e1, e2 p h4 c1]
        exact x.s p k h1 (by omega) (by omega) c1 (by omega)
      · rw [e2 p h4 c1, e2 q h5 c2]
        exact x.s p q h1 h2 h3 c1 c2
  · intro q h1 h2
    rw [e0]
    by_cases c2 : q = k + 1
    · subst c2; rw [e1]; exact ah
    · rw [e2 q (by omega) c2]; exact x.up q (by omega) h2
  · intro q h1 h2 h3
    rw [e0]
    by_cases c2 : q = k + 1
    · subst c2; rw [e1]; exact x.big k ka (by omega) (by omega)
    · rw [e2 q h3 c2]; exact x.big q h1 h2 c2
theorem Ins.stop {r : Nat → Int} {f0 f : Nat → Nat} {a i j : Nat} (x : Ins r f0 f a i j) (ja : a ≤ j) (ji : j ≤ i) (h : ∀ k, j = k + 1 → a ≤ k → ¬ r (f k) < r (f j)) : Srt r f a (i + 1) := by
  intro p q h1 h2 h3
  by_cases c1 : p = j
  · subst c1; exact x.up q h2 (by omega)
  · by_cases c2 : q = j
    · subst c2
      obtain ⟨k, rfl⟩ : ∃ k, q = k + 1 := ⟨q - 1, by omega⟩
      have l := h k rfl (by omega)
      have ak := ahead_ge (x.big k (by omega) (by omega) (by omega)) l
      by_cases c3 : p = k
      · subst c3; exact ak
      · exact ahead_trans (x.s p k h1 (by omega) (by omega) c1 (by omega)) ak
    · exact x.s p q h1 h2 (by omega) c1 c2

/-- [s, m) and [m, e) change places -/
def rot (f : Nat → Nat) (s m e k : Nat) : Nat := if k < s then f k else if k < s + (e - m) then f (m + (k - s)) else if k < e then f (s + (k - (s + (e - m)))) else f k
theorem rot_none_l (f : Nat → Nat) {m e : Nat} (h : m ≤ e) : rot f m m e = f := by
  funext k; unfold rot
  split
  · rfl
  · split
    · congr 1; omega
    · split
      · omega
      · rfl
theorem rot_none_r (f : Nat → Nat) {s m : Nat} (h : s ≤ m) : rot f s m m = f := by
  funext k; unfold rot
  split
  · rfl
  · split
    · omega
    · split
      · congr 1; omega
      · rfl
theorem rot_pm (f : Nat → Nat) {s m e : Nat} (h1 : s ≤ m) (h2 : m ≤ e) : Pm f (rot f s m e) s e := by
  refine ⟨fun k h => by unfold rot; rw [if_pos h], fun k h => by unfold rot; rw [if_neg (by omega), if_neg (by omega), if_neg (by omega)], fun h => ?_⟩
  have ee : e = s + ((e - m) + (m - s)) := by omega
  obtain ⟨F, hF⟩ : ∃ F : Nat → Int, F = fun i => h (rot f s m e i) := ⟨_, rfl⟩
  obtain ⟨G, hG⟩ : ∃ G : Nat → Int, G = fun i => h (f i) := ⟨_, rfl⟩
  rw [← hF, ← hG]
  have p1 := sm_part F s ((e - m) + (m - s))
  have p2 := sm_part (fun i => F (s + i)) (e - m) (m - s)
  have q1 := sm_part G s ((m - s) + (e - m))
  have q2 := sm_part (fun i => G (s + i)) (m - s) (e - m)
  rw [← ee] at p1
  rw [show s + (m - s + (e - m)) = e by omega] at q1
  have a1 : sm F s = sm G s := sm_congr (fun i hi => by rw [hF, hG]; show h (rot f s m e i) = h (f i); unfold rot; rw [if_pos hi])
  have a2 : sm (fun i => F (s + i)) (e - m) = sm (fun i => G (s + (m - s + i))) (e - m) :=
    sm_congr (fun i hi => by
      rw [hF, hG]; show h (rot f s m e (s + i)) = h (f (s + (m - s + i)))
      unfold rot; rw [if_neg (by omega), if_pos (by omega)]
      congr 2; omega)
  have a3 : sm (fun i => F (s + (e - m + i))) (m - s) = sm (fun i => G (s + i)) (m - s) :=
    sm_congr (fun i hi => by
      rw [hF, hG]; show h (rot f s m e (s + (e - m + i))) = h (f (s + i))
      unfold rot; rw [if_neg (by omega), if_neg (by omega), if_pos (by omega)]
      congr 2; omega)
  omega

/-- n places from a change with those from b -/
def sr (f : Nat → Nat) (a b n k : Nat) : Nat := if a ≤ k ∧ k < a + n then f (b + (k - a)) else if b ≤ k ∧ k < b + n then f (a + (k - b)) else f k
theorem sr_zero (f : Nat → Nat) (a b : Nat) : sr f a b 0 = f := by funext k; unfold sr; rw [if_neg (by omega), if_neg (by omega)]
theorem sr_succ (f : Nat → Nat) {a b n : Nat} (h : a + (n + 1) ≤ b) : sw (sr f a b n) (a + n) (b + n) = sr f a b (n + 1) := by
  funext k; unfold sw sr
  repeat' split
  all_goals first | rfl | omega | (congr 1; omega)
theorem rot_same (f : Nat → Nat) {m i : Nat} (h : i ≤ m) : sr f (m - i) m i = rot f (m - i) m (m + i) := by
  funext k; unfold sr rot
  repeat' split
  all_goals first | rfl | omega | (congr 1; omega)
theorem rot_left (f : Nat → Nat) {m i j : Nat} (h : i ≤ m) (hj : j < i) : rot (sr f (m - i) m j) (m - (i - j)) m (m + j) = rot f (m - i) m (m + j) := by
  funext k; unfold rot sr
  repeat' split
  all_goals first | rfl | omega | (congr 1; omega)
theorem rot_right (f : Nat → Nat) {m i j : Nat} (h : i ≤ m) (hj : i < j) : rot (sr f (m - i) (m + j - i) i) (m - i) m (m + (j - i)) = rot f (m - i) m (m + j) := by
  funext k; unfold rot sr
  repeat' split
  all_goals first | rfl | omega | (congr 1; omega)

/-- what stands in front of the new middle goes ahead of what stands behind it -/
theorem cross {r : Nat → Int} {f : Nat → Nat} {a s m e b : Nat} (sl : Srt r f a m) (sr : Srt r f m b) (h0 : a ≤ s) (h1 : s ≤ m) (h2 : m ≤ e) (h3 : e ≤ b)
    (hA : a < s → e < b → Ahead r (f (s - 1)) (f e)) (hB : s < m → m < e → Ahead r (f (e - 1)) (f s)) :
    ∀ p q, a ≤ p → p < s + (e - m) → s + (e - m) ≤ q → q < b → Ahead r (rot f s m e p) (rot f s m e q) := by
  intro p q p0 p1 q0 q1
  unfold rot
  rw [if_neg (show ¬ q < s by omega), if_neg (show ¬ q < s + (e - m) by omega)]
  by_cases c1 : p < s
  · rw [if_pos c1]
    by_cases c2 : q < e
    · rw [if_pos c2]; exact sl _ _ p0 (by omega) (by omega)
    · rw [if_neg c2]
      have k := hA (by omega) (by omega)
      have k1 : Ahead r (f p) (f e) := by
        by_cases d : p = s - 1
        · rw [d]; exact k
        · exact ahead_trans (sl p (s - 1) p0 (by omega) (by omega)) k
      by_cases d : q = e
      · rw [d]; exact k1
      · exact ahead_trans k1 (sr e q (by omega) (by omega) q1)
  · rw [if_neg c1, if_pos p1]
    by_cases c2 : q < e
    · rw [if_pos c2]
      have k := hB (by omega) (by omega)
      have k1 : Ahead r (f (m + (p - s))) (f s) := by
        by_cases d : m + (p - s) = e - 1
        · rw [d]; exact k
        · exact ahead_trans (sr _ (e - 1) (by omega) (by omega) (by omega)) k
      by_cases d : s + (q - (s + (e - m))) = s
      · rw [d]; exact k1
      · exact ahead_trans k1 (sl s _ h0 (by omega) (by omega))
    · rw [if_neg c2]; exact sr _ _ (by omega) (by omega) q1

/-- what is merged behind a rotation: the two parts of each half -/
theorem rot_parts {r : Nat → Int} {f : Nat → Nat} {a s m e b : Nat} (sl : Srt r f a m) (sr : Srt r f m b) (lo : Lo f a m b) (h0 : a ≤ s) (h1 : s ≤ m) (h2 : m ≤ e) (h3 : e ≤ b) :
    Srt r (rot f s m e) a s ∧ Srt r (rot f s m e) s (s + (e - m)) ∧ Lo (rot f s m e) a s (s + (e - m)) ∧
    Srt r (rot f s m e) (s + (e - m)) e ∧ Srt r (rot f s m e) e b ∧ Lo (rot f s m e) (s + (e - m)) e b := by
  have e1 : ∀ k, k < s → rot f s m e k = f k := fun k h => by unfold rot; rw [if_pos h]
  have e2 : ∀ k, s ≤ k → k < s + (e - m) → rot f s m e k = f (m + (k - s)) := fun k h h' => by unfold rot; rw [if_neg (by omega), if_pos h']
  have e3 : ∀ k, s + (e - m) ≤ k → k < e → rot f s m e k = f (s + (k - (s + (e - m)))) := fun k h h' => by unfold rot; rw [if_neg (by omega), if_neg (by omega), if_pos h']
  have e4 : ∀ k, e ≤ k → rot f s m e k = f k := fun k h => by unfold rot; rw [if_neg (by omega), if_neg (by omega), if_neg (by omega)]
  refine ⟨?_, ?_, ?_, ?_, ?_, ?_⟩
  · intro i j x y z; rw [e1 i (by omega), e1 j z]; exact sl i j x y (by omega)
  · intro i j x y z; rw [e2 i x (by omega), e2 j (by omega) z]; exact sr _ _ (by omega) (by omega) (by omega)
  · intro i j x y z t; rw [e1 i y, e2 j z t]; exact lo i _ x (by omega) (by omega) (by omega)
  · intro i j x y z; rw [e3 i x (by omega), e3 j (by omega) z]; exact sl _ _ (by omega) (by omega) (by omega)
  · intro i j x y z; rw [e4 i x, e4 j (by omega)]; exact sr i j (by omega) y z
  · intro i j x y z t; rw [e3 i x y, e4 j z]; exact lo _ j (by omega) (by omega) (by omega) t

/-- both halves merged, all is -/
theorem halves {r : Nat → Int} {f f1 f2 f3 : Nat → Nat} {a c b : Nat} (ac : a ≤ c) (cb : c ≤ b) (p1 : Pm f f1 a b) (p2 : Pm f1 f2 a c) (p3 : Pm f2 f3 c b) (s2 : Srt r f2 a c) (s3 : Srt r f3 c b)
    (x : ∀ p q, a ≤ p → p < c → c ≤ q → q < b → Ahead r (f1 p) (f1 q)) : Srt r f3 a b ∧ Pm f f3 a b := by
  have low : ∀ i, i < c → f3 i = f2 i := fun i h => p3.lo i h
  have x2 : ∀ q, c ≤ q → q < b → ∀ p, a ≤ p → p < c → Ahead r (f2 p) (f1 q) := fun q h h' => p2.all (P := fun v => Ahead r v (f1 q)) (fun p h1 h2 => x p q h1 h2 h h')
  have x3 : ∀ p, a ≤ p → p < c → ∀ q, c ≤ q → q < b → Ahead r (f2 p) (f3 q) := fun p h h' => p3.all (P := fun v => Ahead r (f2 p) v) (fun q h1 h2 => by rw [p2.hi q h1]; exact x2 q h1 h2 p h h')
  refine ⟨fun i j h1 h2 h3 => ?_, p1.trans ((p2.mono (Nat.le_refl _) cb).trans (p3.mono ac (Nat.le_refl _)))⟩
  by_cases c1 : j < c
  · rw [low i (by omega), low j c1]; exact s2 i j h1 h2 c1
  · by_cases c2 : i < c
    · rw [low i c2]; exact x3 i h1 c2 j (by omega) h3
    · exact s3 i j (by omega) h2 h3

/-- one on the left is put into the right -/
theorem one_left {r : Nat → Int} {f : Nat → Nat} {a i b : Nat} (sr : Srt r f (a + 1) b) (h2 : a + 1 ≤ i) (h3 : i ≤ b) (hA : a + 1 < i → Ahead r (f (i - 1)) (f a)) (hB : i < b → Ahead r (f a) (f i)) :
    Srt r (rot f a (a + 1) i) a b ∧ Pm f (rot f a (a + 1) i) a b := by
  have sl : Srt r f a (a + 1) := fun i j h1 h2 h3 => by omega
  refine ⟨?_, (rot_pm f (by omega) h2).mono (Nat.le_refl _) h3⟩
  have e2 : ∀ k, a ≤ k → k < i - 1 → rot f a (a + 1) i k = f (k + 1) := fun k h h' => by
    unfold rot; rw [if_neg (by omega), if_pos (by omega)]; congr 1; omega
  have e3 : rot f a (a + 1) i (i - 1) = f a := by unfold rot; rw [if_neg (by omega), if_neg (by omega), if_pos (by omega)]; congr 1; omega
  have e4 : ∀ k, i ≤ k → rot f a (a + 1) i k = f k := fun k h => by unfold rot; rw [if_neg (by omega), if_neg (by omega), if_neg (by omega)]
  have up : ∀ k, i ≤ k → k < b → Ahead r (f a) (f k) := fun k h h' => by
    by_cases d : k = i
    · rw [d]; exact hB (by omega)
    · exact ahead_trans (hB (by omega)) (sr i k (by omega) (by omega) h')
  have dn : ∀ k, a + 1 ≤ k → k < i → Ahead r (f k) (f a) := fun k h h' => by
    by_cases d : k = i - 1
    · rw [d]; exact hA (by omega)
    · exact ahead_trans (sr k (i - 1) h (by omega) (by omega)) (hA (by omega))
  intro p q x y z
  by_cases c1 : p < i - 1
  · rw [e2 p x c1]
    by_cases c2 : q < i - 1
    · rw [e2 q (by omega) c2]; exact sr _ _ (by omega) (by omega) (by omega)
    · by_cases c3 : q = i - 1
      · rw [c3, e3]; exact dn _ (by omega) (by omega)
      · rw [e4 q (by omega)]; exact sr _ _ (by omega) (by omega) z
  · by_cases c3 : p = i - 1
    · rw [c3, e3, e4 q (by omega)]; exact up q (by omega) z
    · rw [e4 p (by omega), e4 q (by omega)]; exact sr p q (by omega) y z

/-- one on the right is put into the left -/
theorem one_right {r : Nat → Int} {f : Nat → Nat} {a i m : Nat} (sl : Srt r f a m) (h1 : a ≤ i) (h2 : i ≤ m) (hA : a < i → Ahead r (f (i - 1)) (f m)) (hB : i < m → Ahead r (f m) (f i)) :
    Srt r (rot f i m (m + 1)) a (m + 1) ∧ Pm f (rot f i m (m + 1)) a (m + 1) := by
  refine ⟨?_, (rot_pm f h2 (by omega)).mono h1 (Nat.le_refl _)⟩
  have e1 : ∀ k, k < i → rot f i m (m + 1) k = f k := fun k h => by unfold rot; rw [if_pos h]
  have e2 : rot f i m (m + 1) i = f m := by unfold rot; rw [if_neg (by omega), if_pos (by omega)]; congr 1; omega
  have e3 : ∀ k, i < k → k < m + 1 → rot f i m (m + 1) k = f (k - 1) := fun k h h' => by
    unfold rot; rw [if_neg (by omega), if_neg (by omega), if_pos h']; congr 1; omega
  have up : ∀ k, i ≤ k → k < m → Ahead r (f m) (f k) := fun k h h' => by
    by_cases d : k = i
    · rw [d]; exact hB (by omega)
    · exact ahead_trans (hB (by omega)) (sl i k h1 (by omega) h')
  have dn : ∀ k, a ≤ k → k < i → Ahead r (f k) (f m) := fun k h h' => by
    by_cases d : k = i - 1
    · rw [d]; exact hA (by omega)
    · exact ahead_trans (sl k (i - 1) h (by omega) (by omega)) (hA (by omega))
  intro p q x y z
  by_cases c1 : p < i
  · rw [e1 p c1]
    by_cases c2 : q < i
    · rw [e1 q c2]; exact sl p q x y (by omega)
    · by_cases c3 : q = i
      · rw [c3, e2]; exact dn p x c1
      · rw [e3 q (by omega) z]; exact sl p _ x (by omega) (by omega)
  · by_cases c3 : p = i
    · rw [c3, e2, e3 q (by omega) z]; exact up _ (by omega) (by omega)
    · rw [e3 p (by omega) (by omega), e3 q (by omega) z]; exact sl _ _ (by omega) (by omega) (by omega)

theorem rot_one_l (f : Nat → Nat) {a k : Nat} (h : a ≤ k) : sw (rot f a (a + 1) (k + 1)) k (k + 1) = rot f a (a + 1) (k + 2) := by
  funext x; unfold sw rot
  repeat' split
  all_goals first | rfl | omega | (congr 1; omega)
theorem rot_one_r (f : Nat → Nat) {m k : Nat} (h : k + 1 ≤ m) : sw (rot f (k + 1) m (m + 1)) (k + 1) k = rot f k m (m + 1) := by
  funext x; unfold sw rot
  repeat' split
  all_goals first | rfl | omega | (congr 1; omega)

/-- what a comparison answers -/
def sg (p q : Int) : Int := if p < q then -1 else if q < p then 1 else 0
theorem sg_neg {p q : Int} : sg p q < 0 ↔ p < q := by unfold sg; split <;> (try split) <;> omega
theorem sg_bd (p q : Int) : -1 ≤ sg p q ∧ sg p q ≤ 1 := by unfold sg; split <;> (try split) <;> omega

end Go.Proofs.Ytodpmdmfdnbehab.Om
