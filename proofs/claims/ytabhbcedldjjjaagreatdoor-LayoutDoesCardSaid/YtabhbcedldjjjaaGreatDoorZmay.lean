/- Whether a token may be, and its text, by package lex. -/
import Derived.Test.YtabhbcedldjjjaaGreatDoorZcode2
import Derived.Test.YtabhbcedldjjjaaGreatDoorZtok
import Derived.Deep.RegionHeld3
import Derived.Deep.DeepCutAuto
import Derived.RegionTactic
namespace Go.Proofs.YtabhbcedldjjjaaGreatDoor.Zp
set_option linter.unusedSimpArgs false
set_option linter.unusedVariables false
open Go.RowKit Go.Maps Go.Proofs.YtabhbcedldjjjaaGreatDoor.Zm Go.Proofs.YtabhbcedldjjjaaGreatDoor.Zr Go.Proofs.YtabhbcedldjjjaaGreatDoor.Bn Go.Proofs.YtabhbcedldjjjaaGreatDoor.Zk

set_option maxHeartbeats 1000000

/-- Cut could tell it, its place aside -/
def FineI (t : TkI) : Prop :=
  (t.k = 1 ∧ t.n = 0 ∧ name (by_ t.s) = true) ∨ (t.k = 2 ∧ t.s = ⟨#[]⟩ ∧ 0 ≤ t.n ∧ t.n ≤ 999999999) ∨ ((t.k = 3 ∨ t.k = 4 ∨ t.k = 5) ∧ t.s = ⟨#[]⟩ ∧ t.n = 0)

theorem tok_eql (a b c a' b' c' : Int) (s s' : ByteArray) (w : World) :
    (binOp .eql 72 (.agg #[.int .i64 a, .int .i64 b, .int .i64 c, .string s]) (.agg #[.int .i64 a', .int .i64 b', .int .i64 c', .string s'])).run Tryz.prog w = .ok (.bool (decide (a = a' ∧ b = b' ∧ c = c' ∧ s = s'))) w := by
  by_cases h1 : a = a'
  · by_cases h2 : b = b'
    · by_cases h3 : c = c'
      · by_cases h4 : s = s'
        · subst h1 h2 h3 h4; simp [go_sem]
        · simp [go_sem, h1, h2, h3, h4]; intro e; exact h4 (by rw [ByteArray.toList_eq, ByteArray.toList_eq] at e; exact ByteArray.ext (Array.toList_inj.1 e))
      · simp [go_sem, h1, h2, h3]
    · simp [go_sem, h1, h2]
  · simp [go_sem, h1]

/-- behind a case of mayBe: the token, and what it should be like -/
def MayMid (w : World) (k a n n' : Int) (s s' : ByteArray) (v : Bool) (s6 : Value) (wx : World) : Prop :=
  s6 = .bool v ∧ Below w.heap.size w wx ∧ Box wx w.heap.size [.int .i64 k, .int .i64 a, .int .i64 n, .string s] ∧ Box wx (w.heap.size + 1) [.int .i64 k, .int .i64 a, .int .i64 n', .string s']

theorem may_boxes (w : World) (k a n : Int) (s : ByteArray) :
    MayMid w k a n 0 s ⟨#[]⟩ false (.bool false) ((w.alloc (.cells #[.int .i64 k, .int .i64 a, .int .i64 n, .string s] 72)).alloc (.cells #[.int .i64 k, .int .i64 a, .int .i64 0, .string ⟨#[]⟩] 72)) := by
  refine ⟨rfl, balloc (balloc (Below.refl _ _) _) _, (Box.new w _ _).alloc _, ?_⟩
  have := Box.new (w.alloc (.cells #[.int .i64 k, .int .i64 a, .int .i64 n, .string s] 72)) #[.int .i64 k, .int .i64 a, .int .i64 0, .string ⟨#[]⟩] 72
  simpa using this

set_option maxRecDepth 100000 in
theorem mayBe_any (k a n : Int) (s : ByteArray) (b : Nat) (v : Bool) (w : World) (S : SgTexts w b) (hm : s.size ≤ maxLen) (hk64 : (Lit.int .i64 k).wf = true) (hv : Hid (v = true ↔ FineI ⟨k, a, n, s⟩)) :
    Calls Tryz.prog 71 #[.agg #[.int .i64 k, .int .i64 a, .int .i64 n, .string s], .map (some b)] w fun e w' => e = .returned (.bool v) ∧ Below w.heap.size w w' := by
  by_cases h1 : k = 1
  · subst h1
    obtain ⟨nv, hnv⟩ : ∃ nv, name (by_ s) = nv := ⟨_, rfl⟩
    have cn := fun w => Name_any s w hm
    rw [hnv] at cn
    have hq := fun w => tok_eql 1 a n 1 a 0 s s w
    obtain ⟨d, hd⟩ : ∃ d, decide ((1 : Int) = 1 ∧ a = a ∧ n = 0 ∧ s = s) = d := ⟨_, rfl⟩
    rw [hd] at hq
    have HV : Hid (v = (nv && d)) := Lib.hid (by
      rw [Bool.eq_iff_iff, hv.out, ← hd, ← hnv]
      simp [FineI]
      exact And.comm)
    clear hd hnv hv
    have M0 := may_boxes w 1 a n s
    cases nv with
    | true =>
      go_enter Tryz.func71, Tryz.ntmps71
      go_wp2_with fail
      obtain ⟨_, hB, T, L⟩ := M0
      generalize (w.alloc (.cells #[.int .i64 1, .int .i64 a, .int .i64 n, .string s] 72)).alloc (.cells #[.int .i64 1, .int .i64 a, .int .i64 0, .string ⟨#[]⟩] 72) = W0 at *
      obtain ⟨z, t0, t1, t2, t3, _, _, _, _⟩ := id T.four
      obtain ⟨zl, l0, l1, l2, l3, f0, f1, f2, f3⟩ := id L.four
      go_region_held3 (fun w' => w'.cell? ⟨w.heap.size, 3, none⟩ = some (.string s))
        (first | exact t3 | (simp [go_sem, t3]))
        (first
          | (go_at_call 80; (with_reducible refine (cn _).mono ?_); rintro e w4 ⟨rfl, rfl⟩))
      have T2 := ((T.other (g := w.heap.size + 1) 3 (.string s) (by omega)).drewN 1)
      have L2 := ((L.set 3 (by simp) (.string s)).drewN 1)
      have hB2 : Below w.heap.size w ((W0.setCell ⟨w.heap.size + 1, 3, none⟩ (.string s)).drewN 1) := bdrewN (bset hB (by omega) _ _) 1
      change Box (W0.setCell ⟨w.heap.size + 1, 3, none⟩ (.string s)).drew _ _ at T2
      change Box (W0.setCell ⟨w.heap.size + 1, 3, none⟩ (.string s)).drew _ _ at L2
      change Below w.heap.size w (W0.setCell ⟨w.heap.size + 1, 3, none⟩ (.string s)).drew at hB2
      generalize (W0.setCell ⟨w.heap.size + 1, 3, none⟩ (.string s)).drew = W1 at *
      clear T L hB t0 t1 t2 t3 l0 l1 l2 l3 f0 f1 f2 f3 z zl
      obtain ⟨_, t0, t1, t2, t3, _⟩ := id T2.four
      obtain ⟨_, l0, l1, l2, l3, _⟩ := id L2.four
      go_wp2_with fail
      go_ret
      exact ⟨by rw [HV.out]; rfl, hB2⟩
    | false =>
      go_enter Tryz.func71, Tryz.ntmps71
      go_wp2_with fail
      obtain ⟨_, hB, T, L⟩ := M0
      generalize (w.alloc (.cells #[.int .i64 1, .int .i64 a, .int .i64 n, .string s] 72)).alloc (.cells #[.int .i64 1, .int .i64 a, .int .i64 0, .string ⟨#[]⟩] 72) = W0 at *
      obtain ⟨z, t0, t1, t2, t3, _, _, _, _⟩ := id T.four
      obtain ⟨zl, l0, l1, l2, l3, f0, f1, f2, f3⟩ := id L.four
      go_region_held3 (fun w' => w'.cell? ⟨w.heap.size, 3, none⟩ = some (.string s))
        (first | exact t3 | (simp [go_sem, t3]))
        (first
          | (go_at_call 80; (with_reducible refine (cn _).mono ?_); rintro e w4 ⟨rfl, rfl⟩))
      have T2 := ((T.other (g := w.heap.size + 1) 3 (.string s) (by omega)).drewN 1)
      have L2 := ((L.set 3 (by simp) (.string s)).drewN 1)
      have hB2 : Below w.heap.size w ((W0.setCell ⟨w.heap.size + 1, 3, none⟩ (.string s)).drewN 1) := bdrewN (bset hB (by omega) _ _) 1
      change Box (W0.setCell ⟨w.heap.size + 1, 3, none⟩ (.string s)).drew _ _ at T2
      change Box (W0.setCell ⟨w.heap.size + 1, 3, none⟩ (.string s)).drew _ _ at L2
      change Below w.heap.size w (W0.setCell ⟨w.heap.size + 1, 3, none⟩ (.string s)).drew at hB2
      generalize (W0.setCell ⟨w.heap.size + 1, 3, none⟩ (.string s)).drew = W1 at *
      clear T L hB t0 t1 t2 t3 l0 l1 l2 l3 f0 f1 f2 f3 z zl
      obtain ⟨_, t0, t1, t2, t3, _⟩ := id T2.four
      obtain ⟨_, l0, l1, l2, l3, _⟩ := id L2.four
      go_wp2_with fail
      go_ret
      exact ⟨by rw [HV.out]; rfl, hB2⟩
  have e1 : (k == 1) = false := beq_eq_false_iff_ne.2 h1
  by_cases h2 : k = 2
  · subst h2
    have hq := fun w => tok_eql 2 a n 2 a n s ⟨#[]⟩ w
    obtain ⟨d, hd⟩ : ∃ d, decide ((2 : Int) = 2 ∧ a = a ∧ n = n ∧ s = ⟨#[]⟩) = d := ⟨_, rfl⟩
    rw [hd] at hq
    have M0 := may_boxes w 2 a n s
    by_cases g0 : 0 ≤ n
    · have p0 : decide (0 ≤ n) = true := decide_eq_true g0
      by_cases g9 : n ≤ 999999999
      · have p9 : decide (n ≤ 999999999) = true := decide_eq_true g9
        have HV : Hid (v = d) := Lib.hid (by
          rw [Bool.eq_iff_iff, hv.out, ← hd]
          simp [FineI, g0, g9])
        clear hd hv g0 g9 h1 e1
        go_enter Tryz.func71, Tryz.ntmps71
        go_wp2_with fail
        obtain ⟨_, hB, T, L⟩ := M0
        generalize (w.alloc (.cells #[.int .i64 2, .int .i64 a, .int .i64 n, .string s] 72)).alloc (.cells #[.int .i64 2, .int .i64 a, .int .i64 0, .string ⟨#[]⟩] 72) = W0 at *
        obtain ⟨z, t0, t1, t2, t3, _, _, _, _⟩ := id T.four
        obtain ⟨zl, l0, l1, l2, l3, f0, f1, f2, f3⟩ := id L.four
        go_region_held3 (fun w' => w'.cell? ⟨w.heap.size, 2, none⟩ = some (.int .i64 n))
          (first | exact t2 | (simp [go_sem, t2]))
          (first
            | fail)
        have T2 := ((T.other (g := w.heap.size + 1) 2 (.int .i64 n) (by omega)).drewN 1)
        have L2 := ((L.set 2 (by simp) (.int .i64 n)).drewN 1)
        have hB2 : Below w.heap.size w ((W0.setCell ⟨w.heap.size + 1, 2, none⟩ (.int .i64 n)).drewN 1) := bdrewN (bset hB (by omega) _ _) 1
        change Box (W0.setCell ⟨w.heap.size + 1, 2, none⟩ (.int .i64 n)).drew _ _ at T2
        change Box (W0.setCell ⟨w.heap.size + 1, 2, none⟩ (.int .i64 n)).drew _ _ at L2
        change Below w.heap.size w (W0.setCell ⟨w.heap.size + 1, 2, none⟩ (.int .i64 n)).drew at hB2
        generalize (W0.setCell ⟨w.heap.size + 1, 2, none⟩ (.int .i64 n)).drew = W1 at *
        clear T L hB t0 t1 t2 t3 l0 l1 l2 l3 f0 f1 f2 f3 z zl
        obtain ⟨_, t0, t1, t2, t3, _⟩ := id T2.four
        obtain ⟨_, l0, l1, l2, l3, _⟩ := id L2.four
        go_wp2_with fail
        go_ret
        exact ⟨by rw [HV.out]; rfl, hB2⟩
      · have p9 : decide (n ≤ 999999999) = false := decide_eq_false g9
        have HV : Hid (v = false) := Lib.hid (by
          cases v with
          | false => rfl
          | true => have := hv.out.1 rfl; simp [FineI] at this; omega)
        clear hd hv g0 g9 h1 e1
        go_enter Tryz.func71, Tryz.ntmps71
        go_wp2_with fail
        obtain ⟨_, hB, T, L⟩ := M0
        generalize (w.alloc (.cells #[.int .i64 2, .int .i64 a, .int .i64 n, .string s] 72)).alloc (.cells #[.int .i64 2, .int .i64 a, .int .i64 0, .string ⟨#[]⟩] 72) = W0 at *
        obtain ⟨z, t0, t1, t2, t3, _, _, _, _⟩ := id T.four
        obtain ⟨zl, l0, l1, l2, l3, f0, f1, f2, f3⟩ := id L.four
        go_region_held3 (fun w' => w'.cell? ⟨w.heap.size, 2, none⟩ = some (.int .i64 n))
          (first | exact t2 | (simp [go_sem, t2]))
          (first
            | fail)
        have T2 := ((T.other (g := w.heap.size + 1) 2 (.int .i64 n) (by omega)).drewN 1)
        have L2 := ((L.set 2 (by simp) (.int .i64 n)).drewN 1)
        have hB2 : Below w.heap.size w ((W0.setCell ⟨w.heap.size + 1, 2, none⟩ (.int .i64 n)).drewN 1) := bdrewN (bset hB (by omega) _ _) 1
        change Box (W0.setCell ⟨w.heap.size + 1, 2, none⟩ (.int .i64 n)).drew _ _ at T2
        change Box (W0.setCell ⟨w.heap.size + 1, 2, none⟩ (.int .i64 n)).drew _ _ at L2
        change Below w.heap.size w (W0.setCell ⟨w.heap.size + 1, 2, none⟩ (.int .i64 n)).drew at hB2
        generalize (W0.setCell ⟨w.heap.size + 1, 2, none⟩ (.int .i64 n)).drew = W1 at *
        clear T L hB t0 t1 t2 t3 l0 l1 l2 l3 f0 f1 f2 f3 z zl
        obtain ⟨_, t0, t1, t2, t3, _⟩ := id T2.four
        obtain ⟨_, l0, l1, l2, l3, _⟩ := id L2.four
        go_wp2_with fail
        go_ret
        exact ⟨by rw [HV.out]; rfl, hB2⟩
    · have p0 : decide (0 ≤ n) = false := decide_eq_false g0
      have HV : Hid (v = false) := Lib.hid (by
        cases v with
        | false => rfl
        | true => have := hv.out.1 rfl; simp [FineI] at this; omega)
      clear hd hv g0 h1 e1
      go_enter Tryz.func71, Tryz.ntmps71
      go_wp2_with fail
      obtain ⟨_, hB, T, L⟩ := M0
      generalize (w.alloc (.cells #[.int .i64 2, .int .i64 a, .int .i64 n, .string s] 72)).alloc (.cells #[.int .i64 2, .int .i64 a, .int .i64 0, .string ⟨#[]⟩] 72) = W0 at *
      obtain ⟨z, t0, t1, t2, t3, _, _, _, _⟩ := id T.four
      obtain ⟨zl, l0, l1, l2, l3, f0, f1, f2, f3⟩ := id L.four
      go_region
      have T2 := ((T.other (g := w.heap.size + 1) 2 (.int .i64 n) (by omega)).drewN 1)
      have L2 := ((L.set 2 (by simp) (.int .i64 n)).drewN 1)
      have hB2 : Below w.heap.size w ((W0.setCell ⟨w.heap.size + 1, 2, none⟩ (.int .i64 n)).drewN 1) := bdrewN (bset hB (by omega) _ _) 1
      change Box (W0.setCell ⟨w.heap.size + 1, 2, none⟩ (.int .i64 n)).drew _ _ at T2
      change Box (W0.setCell ⟨w.heap.size + 1, 2, none⟩ (.int .i64 n)).drew _ _ at L2
      change Below w.heap.size w (W0.setCell ⟨w.heap.size + 1, 2, none⟩ (.int .i64 n)).drew at hB2
      generalize (W0.setCell ⟨w.heap.size + 1, 2, none⟩ (.int .i64 n)).drew = W1 at *
      clear T L hB t0 t1 t2 t3 l0 l1 l2 l3 f0 f1 f2 f3 z zl
      obtain ⟨_, t0, t1, t2, t3, _⟩ := id T2.four
      obtain ⟨_, l0, l1, l2, l3, _⟩ := id L2.four
      go_wp2_with fail
      go_ret
      exact ⟨by rw [HV.out]; rfl, hB2⟩
  have e2 : (k == 2) = false := beq_eq_false_iff_ne.2 h2
  obtain ⟨D, hD, hat0⟩ := S
  have HD : ((w.alloc (.cells #[.int .i64 k, .int .i64 a, .int .i64 n, .string s] 72)).alloc (.cells #[.int .i64 k, .int .i64 a, .int .i64 0, .string ⟨#[]⟩] 72)).ownsMap Tryz.prog 3 (plainElem Tryz.prog 9) b 3 D := (hD.alloc _).alloc _
  obtain ⟨S0, hS0⟩ : ∃ S0 : ByteArray, S0 = ⟨(sgText k).toArray⟩ := ⟨_, rfl⟩
  have hsv : ∀ sv : ByteArray, D.atKey (.int .i64 k) (.lit (.string [])) = .lit (.string sv.data.toList) → sv = S0 := fun sv h => by
    rw [hat0 k] at h
    injection h with h; injection h with h
    rw [hS0]; apply ByteArray.ext; rw [h]
  have hB := (may_boxes w k a n s).2.1
  by_cases h345 : k = 3 ∨ k = 4 ∨ k = 5
  · have hz : 0 < S0.size := by
      rw [hS0]; rcases h345 with rfl | rfl | rfl <;> decide
    obtain ⟨en, ee⟩ := text_not_empty S0 hz
    have hq := fun w => tok_eql k a n k a 0 s ⟨#[]⟩ w
    obtain ⟨d, hd⟩ : ∃ d, decide (k = k ∧ a = a ∧ n = 0 ∧ s = ⟨#[]⟩) = d := ⟨_, rfl⟩
    rw [hd] at hq
    have HV : Hid (v = d) := Lib.hid (by
      rw [Bool.eq_iff_iff, hv.out, ← hd]
      simp [FineI, h1, h2, h345]
      exact And.comm)
    clear hd hv h1 h2 h345 hS0 hat0 hD hz
    go_enter Tryz.func71, Tryz.ntmps71
    go_wp2_with (at_lookup; refine wpList_lookup_own_string _ rfl _ _ 114 rfl 3 9 lawI Tryz.underlying114 Tryz.underlying9 (zeroS _) b 3 D rfl HD _ _ rfl (keyOf_int_mk Tryz.underlying3 hk64) ?_; intro sv hat; obtain rfl := hsv sv hat)
    go_ret
    exact ⟨by rw [HV.out]; rfl, hB⟩
  · have hz : S0 = ⟨#[]⟩ := by
      rw [hS0]; simp only [sgText]
      rw [if_neg (fun e => h345 (.inl e)), if_neg (fun e => h345 (.inr (.inl e))), if_neg (fun e => h345 (.inr (.inr e)))]
    have HV : Hid (v = false) := Lib.hid (by
      cases v with
      | false => rfl
      | true => have := hv.out.1 rfl; simp [FineI, h1, h2] at this; exact absurd this.1 h345)
    rw [hz] at hsv
    clear hv h1 h2 h345 hS0 hat0 hD hz
    go_enter Tryz.func71, Tryz.ntmps71
    go_wp2_with (at_lookup; refine wpList_lookup_own_string _ rfl _ _ 114 rfl 3 9 lawI Tryz.underlying114 Tryz.underlying9 (zeroS _) b 3 D rfl HD _ _ rfl (keyOf_int_mk Tryz.underlying3 hk64) ?_; intro sv hat; obtain rfl := hsv sv hat)
    go_ret
    exact ⟨by rw [HV.out]; rfl, hB⟩

end Go.Proofs.YtabhbcedldjjjaaGreatDoor.Zp
