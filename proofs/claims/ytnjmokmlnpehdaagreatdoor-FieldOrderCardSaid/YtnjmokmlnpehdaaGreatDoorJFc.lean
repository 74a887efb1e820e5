/- Texts that are joined: Zmay, Zbuf, Zjoin. -/
import Derived.Test.YtnjmokmlnpehdaaGreatDoorJFb
import Derived.Deep.RegionHeld3
import Derived.Deep.DeepCutAuto
import Derived.RegionTactic
import Derived.Test.YtnjmokmlnpehdaaGreatDoorShelf
import Derived.Test.YtnjmokmlnpehdaaGreatDoorJK
import Derived.Lib.AppendStr
import Derived.Lib.OthersKept
import Derived.OwnWalk
import Derived.Lib.LaidTab
import Derived.Lib.AppendIntMem
namespace Go.Proofs.YtnjmokmlnpehdaaGreatDoor.Zp
set_option linter.unusedSimpArgs false
set_option linter.unusedVariables false
open Go.RowKit Go.Maps Go.Proofs.YtnjmokmlnpehdaaGreatDoor.Zm Go.Proofs.YtnjmokmlnpehdaaGreatDoor.Zr Go.Proofs.YtnjmokmlnpehdaaGreatDoor.Bn Go.Proofs.YtnjmokmlnpehdaaGreatDoor.Zk

set_option maxHeartbeats 1000000

/-- Cut could tell it, its place aside -/
def FineI (t : TkI) : Prop :=
  (t.k = 1 ∧ t.n = 0 ∧ name (by_ t.s) = true) ∨ (t.k = 2 ∧ t.s = ⟨#[]⟩ ∧ 0 ≤ t.n ∧ t.n ≤ 999999999) ∨ ((t.k = 3 ∨ t.k = 4 ∨ t.k = 5) ∧ t.s = ⟨#[]⟩ ∧ t.n = 0)

theorem tok_eql (a b c a' b' c' : Int) (s s' : ByteArray) (w : World) :
    (binOp .eql 80 (.agg #[.int .i64 a, .int .i64 b, .int .i64 c, .string s]) (.agg #[.int .i64 a', .int .i64 b', .int .i64 c', .string s'])).run Tryz.prog w = .ok (.bool (decide (a = a' ∧ b = b' ∧ c = c' ∧ s = s'))) w := by
  by_cases h1 : a = a'
  · by_cases h2 : b = b'
    · by_cases h3 : c = c'
      · by_cases h4 : s = s'
        · subst h1 h2 h3 h4; simp [go_sem]
        · simp [go_sem, h1, h2, h3, h4]; intro e; exact h4 (by rw [ByteArray.toList_eq, ByteArray.toList_eq] at e; exact ByteArray.ext (Array.toList_inj.1 e))
      · simp [go_sem, h1, h2, h3]
    · simp [go_sem, h1, h2]
  · simp [go_sem, h1]

/-- behind a case of mayBe: the token, and what it should be like -/
def MayMid (w : World) (k a n n' : Int) (s s' : ByteArray) (v : Bool) (s6 : Value) (wx : World) : Prop :=
  s6 = .bool v ∧ Below w.heap.size w wx ∧ Box wx w.heap.size [.int .i64 k, .int .i64 a, .int .i64 n, .string s] ∧ Box wx (w.heap.size + 1) [.int .i64 k, .int .i64 a, .int .i64 n', .string s']

theorem may_boxes (w : World) (k a n : Int) (s : ByteArray) :
    MayMid w k a n 0 s ⟨#[]⟩ false (.bool false) ((w.alloc (.cells #[.int .i64 k, .int .i64 a, .int .i64 n, .string s] 80)).alloc (.cells #[.int .i64 k, .int .i64 a, .int .i64 0, .string ⟨#[]⟩] 80)) := by
  refine ⟨rfl, balloc (balloc (Below.refl _ _) _) _, (Box.new w _ _).alloc _, ?_⟩
  have := Box.new (w.alloc (.cells #[.int .i64 k, .int .i64 a, .int .i64 n, .string s] 80)) #[.int .i64 k, .int .i64 a, .int .i64 0, .string ⟨#[]⟩] 80
  simpa using this

set_option maxRecDepth 100000 in
theorem mayBe_any (k a n : Int) (s : ByteArray) (b : Nat) (v : Bool) (w : World) (S : SgTexts w b) (hm : s.size ≤ maxLen) (hk64 : (Lit.int .i64 k).wf = true) (hv : Hid (v = true ↔ FineI ⟨k, a, n, s⟩)) :
    Calls Tryz.prog 101 #[.agg #[.int .i64 k, .int .i64 a, .int .i64 n, .string s], .map (some b)] w fun e w' => e = .returned (.bool v) ∧ Below w.heap.size w w' := by
  by_cases h1 : k = 1
  · subst h1
    obtain ⟨nv, hnv⟩ : ∃ nv, name (by_ s) = nv := ⟨_, rfl⟩
    have cn := fun w => Name_any s w hm
    rw [hnv] at cn
    have hq := fun w => tok_eql 1 a n 1 a 0 s s w
    obtain ⟨d, hd⟩ : ∃ d, decide ((1 : Int) = 1 ∧ a = a ∧ n = 0 ∧ s = s) = d := ⟨_, rfl⟩
    rw [hd] at hq
    have HV : Hid (v = (nv && d)) := Lib.hid (by
      rw [Bool.eq_iff_iff, hv.out, ← hd, ← hnv]
      simp [FineI]
      exact And.comm)
    clear hd hnv hv
    have M0 := may_boxes w 1 a n s
    cases nv with
    | true =>
      go_enter Tryz.func101, Tryz.ntmps101
      go_wp2_with fail
      obtain ⟨_, hB, T, L⟩ := M0
      generalize (w.alloc (.cells #[.int .i64 1, .int .i64 a, .int .i64 n, .string s] 80)).alloc (.cells #[.int .i64 1, .int .i64 a, .int .i64 0, .string ⟨#[]⟩] 80) = W0 at *
      obtain ⟨z, t0, t1, t2, t3, _, _, _, _⟩ := id T.four
      obtain ⟨zl, l0, l1, l2, l3, f0, f1, f2, f3⟩ := id L.four
      go_region_held3 (fun w' => w'.cell? ⟨w.heap.size, 3, none⟩ = some (.string s))
        (first | exact t3 | (simp [go_sem, t3]))
        (first
          | (go_at_call 24; (with_reducible refine (cn _).mono ?_); rintro e w4 ⟨rfl, rfl⟩))
      have T2 := ((T.other (g := w.heap.size + 1) 3 (.string s) (by omega)).drewN 1)
      have L2 := ((L.set 3 (by simp) (.string s)).drewN 1)
      have hB2 : Below w.heap.size w ((W0.setCell ⟨w.heap.size + 1, 3, none⟩ (.string s)).drewN 1) := bdrewN (bset hB (by omega) _ _) 1
      change Box (W0.setCell ⟨w.heap.size + 1, 3, none⟩ (.string s)).drew _ _ at T2
      change Box (W0.setCell ⟨w.heap.size + 1, 3, none⟩ (.string s)).drew _ _ at L2
      change Below w.heap.size w (W0.setCell ⟨w.heap.size + 1, 3, none⟩ (.string s)).drew at hB2
      generalize (W0.setCell ⟨w.heap.size + 1, 3, none⟩ (.string s)).drew = W1 at *
      clear T L hB t0 t1 t2 t3 l0 l1 l2 l3 f0 f1 f2 f3 z zl
      obtain ⟨_, t0, t1, t2, t3, _⟩ := id T2.four
      obtain ⟨_, l0, l1, l2, l3, _⟩ := id L2.four
      go_wp2_with fail
      go_ret
      exact ⟨by rw [HV.out]; rfl, hB2⟩
    | false =>
      go_enter Tryz.func101, Tryz.ntmps101
      go_wp2_with fail
      obtain ⟨_, hB, T, L⟩ := M0
      generalize (w.alloc (.cells #[.int .i64 1, .int .i64 a, .int .i64 n, .string s] 80)).alloc (.cells #[.int .i64 1, .int .i64 a, .int .i64 0, .string ⟨#[]⟩] 80) = W0 at *
      obtain ⟨z, t0, t1, t2, t3, _, _, _, _⟩ := id T.four
      obtain ⟨zl, l0, l1, l2, l3, f0, f1, f2, f3⟩ := id L.four
      go_region_held3 (fun w' => w'.cell? ⟨w.heap.size, 3, none⟩ = some (.string s))
        (first | exact t3 | (simp [go_sem, t3]))
        (first
          | (go_at_call 24; (with_reducible refine (cn _).mono ?_); rintro e w4 ⟨rfl, rfl⟩))
      have T2 := ((T.other (g := w.heap.size + 1) 3 (.string s) (by omega)).drewN 1)
      have L2 := ((L.set 3 (by simp) (.string s)).drewN 1)
      have hB2 : Below w.heap.size w ((W0.setCell ⟨w.heap.size + 1, 3, none⟩ (.string s)).drewN 1) := bdrewN (bset hB (by omega) _ _) 1
      change Box (W0.setCell ⟨w.heap.size + 1, 3, none⟩ (.string s)).drew _ _ at T2
      change Box (W0.setCell ⟨w.heap.size + 1, 3, none⟩ (.string s)).drew _ _ at L2
      change Below w.heap.size w (W0.setCell ⟨w.heap.size + 1, 3, none⟩ (.string s)).drew at hB2
      generalize (W0.setCell ⟨w.heap.size + 1, 3, none⟩ (.string s)).drew = W1 at *
      clear T L hB t0 t1 t2 t3 l0 l1 l2 l3 f0 f1 f2 f3 z zl
      obtain ⟨_, t0, t1, t2, t3, _⟩ := id T2.four
      obtain ⟨_, l0, l1, l2, l3, _⟩ := id L2.four
      go_wp2_with fail
      go_ret
      exact ⟨by rw [HV.out]; rfl, hB2⟩
  have e1 : (k == 1) = false := beq_eq_false_iff_ne.2 h1
  by_cases h2 : k = 2
  · subst h2
    have hq := fun w => tok_eql 2 a n 2 a n s ⟨#[]⟩ w
    obtain ⟨d, hd⟩ : ∃ d, decide ((2 : Int) = 2 ∧ a = a ∧ n = n ∧ s = ⟨#[]⟩) = d := ⟨_, rfl⟩
    rw [hd] at hq
    have M0 := may_boxes w 2 a n s
    by_cases g0 : 0 ≤ n
    · have p0 : decide (0 ≤ n) = true := decide_eq_true g0
      by_cases g9 : n ≤ 999999999
      · have p9 : decide (n ≤ 999999999) = true := decide_eq_true g9
        have HV : Hid (v = d) := Lib.hid (by
          rw [Bool.eq_iff_iff, hv.out, ← hd]
          simp [FineI, g0, g9])
        clear hd hv g0 g9 h1 e1
        go_enter Tryz.func101, Tryz.ntmps101
        go_wp2_with fail
        obtain ⟨_, hB, T, L⟩ := M0
        generalize (w.alloc (.cells #[.int .i64 2, .int .i64 a, .int .i64 n, .string s] 80)).alloc (.cells #[.int .i64 2, .int .i64 a, .int .i64 0, .string ⟨#[]⟩] 80) = W0 at *
        obtain ⟨z, t0, t1, t2, t3, _, _, _, _⟩ := id T.four
        obtain ⟨zl, l0, l1, l2, l3, f0, f1, f2, f3⟩ := id L.four
        go_region_held3 (fun w' => w'.cell? ⟨w.heap.size, 2, none⟩ = some (.int .i64 n))
          (first | exact t2 | (simp [go_sem, t2]))
          (first
            | fail)
        have T2 := ((T.other (g := w.heap.size + 1) 2 (.int .i64 n) (by omega)).drewN 1)
        have L2 := ((L.set 2 (by simp) (.int .i64 n)).drewN 1)
        have hB2 : Below w.heap.size w ((W0.setCell ⟨w.heap.size + 1, 2, none⟩ (.int .i64 n)).drewN 1) := bdrewN (bset hB (by omega) _ _) 1
        change Box (W0.setCell ⟨w.heap.size + 1, 2, none⟩ (.int .i64 n)).drew _ _ at T2
        change Box (W0.setCell ⟨w.heap.size + 1, 2, none⟩ (.int .i64 n)).drew _ _ at L2
        change Below w.heap.size w (W0.setCell ⟨w.heap.size + 1, 2, none⟩ (.int .i64 n)).drew at hB2
        generalize (W0.setCell ⟨w.heap.size + 1, 2, none⟩ (.int .i64 n)).drew = W1 at *
        clear T L hB t0 t1 t2 t3 l0 l1 l2 l3 f0 f1 f2 f3 z zl
        obtain ⟨_, t0, t1, t2, t3, _⟩ := id T2.four
        obtain ⟨_, l0, l1, l2, l3, _⟩ := id L2.four
        go_wp2_with fail
        go_ret
        exact ⟨by rw [HV.out]; rfl, hB2⟩
      · have p9 : decide (n ≤ 999999999) = false := decide_eq_false g9
        have HV : Hid (v = false) := Lib.hid (by
          cases v with
          | false => rfl
          | true => have := hv.out.1 rfl; simp [FineI] at this; omega)
        clear hd hv g0 g9 h1 e1
        go_enter Tryz.func101, Tryz.ntmps101
        go_wp2_with fail
        obtain ⟨_, hB, T, L⟩ := M0
        generalize (w.alloc (.cells #[.int .i64 2, .int .i64 a, .int .i64 n, .string s] 80)).alloc (.cells #[.int .i64 2, .int .i64 a, .int .i64 0, .string ⟨#[]⟩] 80) = W0 at *
        obtain ⟨z, t0, t1, t2, t3, _, _, _, _⟩ := id T.four
        obtain ⟨zl, l0, l1, l2, l3, f0, f1, f2, f3⟩ := id L.four
        go_region_held3 (fun w' => w'.cell? ⟨w.heap.size, 2, none⟩ = some (.int .i64 n))
          (first | exact t2 | (simp [go_sem, t2]))
          (first
            | fail)
        have T2 := ((T.other (g := w.heap.size + 1) 2 (.int .i64 n) (by omega)).drewN 1)
        have L2 := ((L.set 2 (by simp) (.int .i64 n)).drewN 1)
        have hB2 : Below w.heap.size w ((W0.setCell ⟨w.heap.size + 1, 2, none⟩ (.int .i64 n)).drewN 1) := bdrewN (bset hB (by omega) _ _) 1
        change Box (W0.setCell ⟨w.heap.size + 1, 2, none⟩ (.int .i64 n)).drew _ _ at T2
        change Box (W0.setCell ⟨w.heap.size + 1, 2, none⟩ (.int .i64 n)).drew _ _ at L2
        change Below w.heap.size w (W0.setCell ⟨w.heap.size + 1, 2, none⟩ (.int .i64 n)).drew at hB2
        generalize (W0.setCell ⟨w.heap.size + 1, 2, none⟩ (.int .i64 n)).drew = W1 at *
        clear T L hB t0 t1 t2 t3 l0 l1 l2 l3 f0 f1 f2 f3 z zl
        obtain ⟨_, t0, t1, t2, t3, _⟩ := id T2.four
        obtain ⟨_, l0, l1, l2, l3, _⟩ := id L2.four
        go_wp2_with fail
        go_ret
        exact ⟨by rw [HV.out]; rfl, hB2⟩
    · have p0 : decide (0 ≤ n) = false := decide_eq_false g0
      have HV : Hid (v = false) := Lib.hid (by
        cases v with
        | false => rfl
        | true => have := hv.out.1 rfl; simp [FineI] at this; omega)
      clear hd hv g0 h1 e1
      go_enter Tryz.func101, Tryz.ntmps101
      go_wp2_with fail
      obtain ⟨_, hB, T, L⟩ := M0
      generalize (w.alloc (.cells #[.int .i64 2, .int .i64 a, .int .i64 n, .string s] 80)).alloc (.cells #[.int .i64 2, .int .i64 a, .int .i64 0, .string ⟨#[]⟩] 80) = W0 at *
      obtain ⟨z, t0, t1, t2, t3, _, _, _, _⟩ := id T.four
      obtain ⟨zl, l0, l1, l2, l3, f0, f1, f2, f3⟩ := id L.four
      go_region
      have T2 := ((T.other (g := w.heap.size + 1) 2 (.int .i64 n) (by omega)).drewN 1)
      have L2 := ((L.set 2 (by simp) (.int .i64 n)).drewN 1)
      have hB2 : Below w.heap.size w ((W0.setCell ⟨w.heap.size + 1, 2, none⟩ (.int .i64 n)).drewN 1) := bdrewN (bset hB (by omega) _ _) 1
      change Box (W0.setCell ⟨w.heap.size + 1, 2, none⟩ (.int .i64 n)).drew _ _ at T2
      change Box (W0.setCell ⟨w.heap.size + 1, 2, none⟩ (.int .i64 n)).drew _ _ at L2
      change Below w.heap.size w (W0.setCell ⟨w.heap.size + 1, 2, none⟩ (.int .i64 n)).drew at hB2
      generalize (W0.setCell ⟨w.heap.size + 1, 2, none⟩ (.int .i64 n)).drew = W1 at *
      clear T L hB t0 t1 t2 t3 l0 l1 l2 l3 f0 f1 f2 f3 z zl
      obtain ⟨_, t0, t1, t2, t3, _⟩ := id T2.four
      obtain ⟨_, l0, l1, l2, l3, _⟩ := id L2.four
      go_wp2_with fail
      go_ret
      exact ⟨by rw [HV.out]; rfl, hB2⟩
  have e2 : (k == 2) = false := beq_eq_false_iff_ne.2 h2
  obtain ⟨D, hD, hat0⟩ := S
  have HD : ((w.alloc (.cells #[.int .i64 k, .int .i64 a, .int .i64 n, .string s] 80)).alloc (.cells #[.int .i64 k, .int .i64 a, .int .i64 0, .string ⟨#[]⟩] 80)).ownsMap Tryz.prog 3 (plainElem Tryz.prog 9) b 3 D := (hD.alloc _).alloc _
  obtain ⟨S0, hS0⟩ : ∃ S0 : ByteArray, S0 = ⟨(sgText k).toArray⟩ := ⟨_, rfl⟩
  have hsv : ∀ sv : ByteArray, D.atKey (.int .i64 k) (.lit (.string [])) = .lit (.string sv.data.toList) → sv = S0 := fun sv h => by
    rw [hat0 k] at h
    injection h with h; injection h with h
    rw [hS0]; apply ByteArray.ext; rw [h]
  have hB := (may_boxes w k a n s).2.1
  by_cases h345 : k = 3 ∨ k = 4 ∨ k = 5
  · have hz : 0 < S0.size := by
      rw [hS0]; rcases h345 with rfl | rfl | rfl <;> decide
    obtain ⟨en, ee⟩ := text_not_empty S0 hz
    have hq := fun w => tok_eql k a n k a 0 s ⟨#[]⟩ w
    obtain ⟨d, hd⟩ : ∃ d, decide (k = k ∧ a = a ∧ n = 0 ∧ s = ⟨#[]⟩) = d := ⟨_, rfl⟩
    rw [hd] at hq
    have HV : Hid (v = d) := Lib.hid (by
      rw [Bool.eq_iff_iff, hv.out, ← hd]
      simp [FineI, h1, h2, h345]
      exact And.comm)
    clear hd hv h1 h2 h345 hS0 hat0 hD hz
    go_enter Tryz.func101, Tryz.ntmps101
    go_wp2_with (at_lookup; refine wpList_lookup_own_string _ rfl _ _ 123 rfl 3 9 lawI Tryz.underlying123 Tryz.underlying9 (zeroS _) b 3 D rfl HD _ _ rfl (keyOf_int_mk Tryz.underlying3 hk64) ?_; intro sv hat; obtain rfl := hsv sv hat)
    go_ret
    exact ⟨by rw [HV.out]; rfl, hB⟩
  · have hz : S0 = ⟨#[]⟩ := by
      rw [hS0]; simp only [sgText]
      rw [if_neg (fun e => h345 (.inl e)), if_neg (fun e => h345 (.inr (.inl e))), if_neg (fun e => h345 (.inr (.inr e)))]
    have HV : Hid (v = false) := Lib.hid (by
      cases v with
      | false => rfl
      | true => have := hv.out.1 rfl; simp [FineI, h1, h2] at this; exact absurd this.1 h345)
    rw [hz] at hsv
    clear hv h1 h2 h345 hS0 hat0 hD hz
    go_enter Tryz.func101, Tryz.ntmps101
    go_wp2_with (at_lookup; refine wpList_lookup_own_string _ rfl _ _ 123 rfl 3 9 lawI Tryz.underlying123 Tryz.underlying9 (zeroS _) b 3 D rfl HD _ _ rfl (keyOf_int_mk Tryz.underlying3 hk64) ?_; intro sv hat; obtain rfl := hsv sv hat)
    go_ret
    exact ⟨by rw [HV.out]; rfl, hB⟩

end Go.Proofs.YtnjmokmlnpehdaaGreatDoor.Zp

namespace Go.Proofs.YtnjmokmlnpehdaaGreatDoor.Zb
set_option linter.unusedSimpArgs false
set_option linter.unusedVariables false
open Go.RowKit Go.Proofs.YtnjmokmlnpehdaaGreatDoor.Pr

set_option maxHeartbeats 1000000

/-- block b is a builder which holds these bytes, from block B on -/
abbrev Bu (B b : Nat) (l : List UInt8) (w : World) : Prop := Lib.IsBuilder 122 5 B b (Lib.byteCells l) w

theorem infoB : (Tryz.prog.info? 122).map (·.size) = some 2 := by kernel_rfl
theorem infoU8 : (Tryz.prog.info? 5).map (fun i => (i.zero, i.size, i.bytes)) = some (some (.int .u8 0), 1, 1) := by kernel_rfl

theorem Bu.lt {B b : Nat} {l : List UInt8} {w : World} (h : Bu B b l w) : b < w.heap.size := by
  rcases h with h | h
  · exact h.lt
  · exact h.lt

/-- of what lies below B nothing turns, and a builder stays one while new blocks come -/
theorem Bu.kept {B b : Nat} {l : List UInt8} {w w' : World} (h : Bu B b l w) (hb : Below w.heap.size w w') : Bu B b l w' := by
  have go : ∀ p, Lib.BuilderAt 122 5 B b p (Lib.byteCells l) w → Lib.BuilderAt 122 5 B b p (Lib.byteCells l) w' := fun p h => by
    have hl := h.lt
    obtain ⟨hB, v, hbk, hown, hne⟩ := h
    exact ⟨hB, v, (hb.block b hl).trans hbk, hown.kept (row := none) ⟨hb.os, hb.tape, hb.output, hb.size, fun i hi _ => hb.block i hi⟩ (by cases v.ownBlock <;> simp), hne⟩
  exact h.imp (go _) (go _)

theorem own_kind {w : World} {B n : Nat} {e : TypeId} {v : Value} {xs : List Value} (h : w.ownsRow B e 1 v n xs) : ∀ g, v.ownBlock = some g → ∃ c fz, w.heap[g]? = some (.cells c e fz) := by
  intro g hg
  rcases h.2 with ⟨hv, _⟩ | ⟨g', cap, cur, hv, _, hc, _⟩
  · rw [hv] at hg; cases hg
  · rw [hv] at hg
    have e : g' = g := by simpa [Value.ownBlock] using hg
    subst e
    exact ⟨_, _, hc⟩

/-- what is no row of bytes, and not the builder itself, is kept -/
abbrev Oth (b : Nat) (w w' : World) : Prop := Lib.OthersKept 5 (some b) w w'

set_option maxRecDepth 100000 in
theorem copyCheck_any (B b : Nat) (l : List UInt8) (w : World) (h : Bu B b l w) :
    Calls Tryz.prog 114 #[.pointer (some ⟨b, 0, none⟩)] w fun e w' => e = .returned (.tuple #[]) ∧ Lib.BuilderAt 122 5 B b (.pointer (some ⟨b, 0, none⟩)) (Lib.byteCells l) w' ∧ Below B w w' ∧ Oth b w w' := by
  obtain ⟨j, hj, hjs⟩ := Option.map_eq_some_iff.1 infoB
  rcases h with h | h
  · have c0 := h.cell0
    have sh := h.shape
    have fz := h.frozen0
    have e1 : (convert 119 143 (.pointer (some ⟨b, 0, none⟩))).run Tryz.prog w = .ok (.pointer (some ⟨b, 0, none⟩)) w :=
      Lib.run_to_unsafe w ⟨b, 0, none⟩ Tryz.underlying119 Tryz.underlying143 hj (by rw [hjs]; decide) sh (Nat.zero_lt_succ 1)
    have e2 : (convert 143 119 (.pointer (some ⟨b, 0, none⟩))).run Tryz.prog w = .ok (.pointer (some ⟨b, 0, none⟩)) w :=
      Lib.run_from_unsafe w ⟨b, 0, none⟩ Tryz.underlying143 Tryz.underlying119 hj sh (by kernel_rfl)
    have e3 : ∀ W : World, (callFunc 120 #[.pointer (some ⟨b, 0, none⟩)]).run Tryz.prog W = .ok (.value (.pointer (some ⟨b, 0, none⟩))) W := fun W => by
      rw [run_callFunc_extern Tryz.func120 (by kernel_rfl) (by kernel_rfl) (by kernel_rfl) (e := Extern.AbiNoEscape.same) (by kernel_rfl), Lib.run_noEscape]; rfl
    have e4 := fun W : World => Lib.run_neq_ptr_same (P := Tryz.prog) W ⟨b, 0, none⟩ Tryz.underlying119 hj
    have H := Lib.hid h
    clear sh h
    go_enter Tryz.func114, Tryz.ntmps114
    go_wp2
    go_end0
    exact ⟨rfl, H.out.used _, (Below.refl B w).setCell (p := ⟨b, 0, none⟩) H.out.1 _, (Lib.OthersKept.refl _ (some b) w).setCell (b := b) ⟨b, 0, none⟩ rfl _⟩
  · have c0 := h.cell0
    have e4 := fun W : World => Lib.run_neq_ptr_same (P := Tryz.prog) W ⟨b, 0, none⟩ Tryz.underlying119 hj
    have H := Lib.hid h
    clear h
    go_enter Tryz.func114, Tryz.ntmps114
    go_wp2
    go_end0
    exact ⟨rfl, H.out, Below.refl B _, Lib.OthersKept.refl _ _ _⟩


set_option maxRecDepth 100000 in
theorem WriteByte_any (B b : Nat) (l : List UInt8) (c : UInt8) (w : World) (h : Bu B b l w) (hlen : l.length + 1 ≤ 1000000) (hBw : B ≤ w.heap.size) :
    Calls Tryz.prog 102 #[.pointer (some ⟨b, 0, none⟩), .int .u8 c.toNat] w fun e w' => e = .returned .nilIface ∧ Bu B b (l ++ [c]) w' ∧ Below B w w' ∧ Oth b w w' := by
  obtain ⟨i0, hi, hz0, hz1, hz2⟩ := info_parts infoU8
  have cc := copyCheck_any B b l w h
  have hbl := Lib.byteCells_length l
  clear h
  go_enter Tryz.func102, Tryz.ntmps102
  go_wp2_with fail
  refine cc.mono ?_
  rintro e w1 ⟨rfl, ⟨hB, v, hbk, hown, hne⟩, hb1, ho1⟩
  have c0 : w1.cell? ⟨b, 0, none⟩ = some (.pointer (some ⟨b, 0, none⟩)) := by rw [Lib.cell_of_heap hbk]; rfl
  have c1 : w1.cell? ⟨b, 1, none⟩ = some v := by rw [Lib.cell_of_heap hbk]; rfl
  go_wp2_with (at_builtin; refine wpList_append_own _ rfl _ _ 120 rfl B 5 i0 (.int .u8 0) 1 1 Tryz.underlying120 hi hz0 hz1 hz2 rfl (by decide) _ _ _ rfl (hown.alloc _) ⟨w1.heap.size, 0, none⟩ 1 1 [.int .u8 c.toNat] rfl rfl ?c1 ?c2 ?c3 ?c4 ?c5 ?_)
  case c1 =>
    intro j u hj
    match j, hj with
    | 0, hj => simp at hj; subst hj; simp [Addr.add, go_sem]
  case c2 => intro u hu; simp at hu; subst hu; rfl
  case c3 => unfold maxLen; omega
  case c4 => omega
  case c5 => have := hb1.size; simp; omega
  intro v' w2 hown' hgrow _
  have hlt : b < w1.heap.size := (Array.getElem?_eq_some_iff.1 hbk).1
  have hb2 : w2.heap[b]? = some (.cells #[.pointer (some ⟨b, 0, none⟩), v] 122 (0, 0)) := by
    rw [hgrow.block b (by simp; omega) (fun e => hne e.symm), Lib.alloc_old w1 _ b hlt]; exact hbk
  have d0 : w2.cell? ⟨b, 0, none⟩ = some (.pointer (some ⟨b, 0, none⟩)) := by rw [Lib.cell_of_heap hb2]; rfl
  have d1 : w2.cell? ⟨b, 1, none⟩ = some v := by rw [Lib.cell_of_heap hb2]; rfl
  have f1 : w2.frozen? ⟨b, 1, none⟩ = false := Lib.frozen_of_heap hb2 1
  have hw2 : Below B w w2 := (hb1.alloc (by have := hb1.size; omega) _).grown hgrow (by have := hb1.size; simp; omega) (fun k hk => (hown.lt k hk).1)
  have hown2 : w2.ownsRow B 5 1 v' (Lib.byteCells (l ++ [c])).length (Lib.byteCells (l ++ [c])) := by
    have e : Lib.byteCells (l ++ [c]) = Lib.byteCells l ++ [.int .u8 c.toNat] := by simp [Lib.byteCells]
    rw [e, List.length_append, hbl]; exact hown'
  have Y : ∀ u : Value, u = v' → Bu B b (l ++ [c]) (w2.setCell ⟨b, 1, none⟩ u) := fun u e => .inr (by rw [e]; exact Lib.BuilderAt.put hB hb2 hown2 (by decide))
  obtain ⟨g, cap, hv⟩ : ∃ g cap, v' = .slice (some ⟨g, 0, none⟩) (l.length + 1) cap := by
    rcases hown'.2 with ⟨_, h0⟩ | ⟨g, cap, cur, hv, _⟩
    · omega
    · exact ⟨g, cap, hv⟩
  have ho2 : Oth b w w2 := (ho1.alloc _).grown hgrow (fun g hg => by
    obtain ⟨c', fz, hc⟩ := own_kind hown g hg
    exact ⟨c', fz, (Lib.alloc_old w1 _ g (Array.getElem?_eq_some_iff.1 hc).1).trans hc⟩)
  clear hown' hown2 hown hgrow
  replace Y := Y _ hv.symm
  subst hv
  have HY := Lib.hid Y
  clear Y
  go_wp2_with fail
  go_ret
  exact ⟨rfl, HY.out, hw2.setCell (p := ⟨b, 1, none⟩) hB _, ho2.setCell ⟨b, 1, none⟩ rfl _⟩

set_option maxRecDepth 100000 in
theorem WriteString_any (B b : Nat) (l : List UInt8) (s : ByteArray) (w : World) (h : Bu B b l w) (hlen : l.length + s.size ≤ 1000000) (hBw : B ≤ w.heap.size) :
    Calls Tryz.prog 103 #[.pointer (some ⟨b, 0, none⟩), .string s] w fun e w' => e = .returned (.tuple #[.int .i64 s.size, .nilIface]) ∧ Bu B b (l ++ s.data.toList) w' ∧ Below B w w' ∧ Oth b w w' := by
  obtain ⟨i0, hi, hz0, hz1, hz2⟩ := info_parts infoU8
  have cc := copyCheck_any B b l w h
  have hbl := Lib.byteCells_length l
  clear h
  go_enter Tryz.func103, Tryz.ntmps103
  go_wp2_with fail
  refine cc.mono ?_
  rintro e w1 ⟨rfl, ⟨hB, v, hbk, hown, hne⟩, hb1, ho1⟩
  have c0 : w1.cell? ⟨b, 0, none⟩ = some (.pointer (some ⟨b, 0, none⟩)) := by rw [Lib.cell_of_heap hbk]; rfl
  have c1 : w1.cell? ⟨b, 1, none⟩ = some v := by rw [Lib.cell_of_heap hbk]; rfl
  go_wp2_with (at_builtin; refine Lib.wpList_append_own_string _ rfl _ _ 120 9 rfl B 5 i0 Tryz.underlying120 Tryz.underlying9 hi hz0 hz1 hz2 _ _ _ rfl hown s rfl ?c3 ?c4 ?c5 ?_)
  case c3 => unfold maxLen; omega
  case c4 => omega
  case c5 => have := hb1.size; omega
  intro v' w2 hown' hgrow _
  have hlt : b < w1.heap.size := (Array.getElem?_eq_some_iff.1 hbk).1
  have hb2 : w2.heap[b]? = some (.cells #[.pointer (some ⟨b, 0, none⟩), v] 122 (0, 0)) := by
    rw [hgrow.block b hlt (fun e => hne e.symm)]; exact hbk
  have d0 : w2.cell? ⟨b, 0, none⟩ = some (.pointer (some ⟨b, 0, none⟩)) := by rw [Lib.cell_of_heap hb2]; rfl
  have d1 : w2.cell? ⟨b, 1, none⟩ = some v := by rw [Lib.cell_of_heap hb2]; rfl
  have f1 : w2.frozen? ⟨b, 1, none⟩ = false := Lib.frozen_of_heap hb2 1
  have hw2 : Below B w w2 := hb1.grown hgrow (by have := hb1.size; omega) (fun k hk => (hown.lt k hk).1)
  have hown2 : w2.ownsRow B 5 1 v' (Lib.byteCells (l ++ s.data.toList)).length (Lib.byteCells (l ++ s.data.toList)) := by
    have e : Lib.byteCells (l ++ s.data.toList) = Lib.byteCells l ++ Lib.strCells s := by simp [Lib.byteCells, Lib.strCells]
    have z : (Lib.strCells s).length = s.size := by simp [Lib.strCells]
    rw [e, List.length_append, z, hbl]; exact hown'
  have Y : ∀ u : Value, u = v' → Bu B b (l ++ s.data.toList) (w2.setCell ⟨b, 1, none⟩ u) := fun u e => .inr (by rw [e]; exact Lib.BuilderAt.put hB hb2 hown2 (by decide))
  obtain ⟨ao, n', cap, hv⟩ : ∃ ao n' cap, v' = .slice ao n' cap := by
    rcases hown'.2 with ⟨hv, _⟩ | ⟨g, cap, cur, hv, _⟩
    · exact ⟨none, 0, 0, hv⟩
    · exact ⟨_, _, _, hv⟩
  have ho2 : Oth b w w2 := ho1.grown hgrow (own_kind hown)
  clear hown' hown2 hown hgrow
  replace Y := Y _ hv.symm
  subst hv
  have HY := Lib.hid Y
  clear Y
  go_wp2_with fail
  go_ret2
  exact ⟨rfl, HY.out, hw2.setCell (p := ⟨b, 1, none⟩) hB _, ho2.setCell ⟨b, 1, none⟩ rfl _⟩

end Go.Proofs.YtnjmokmlnpehdaaGreatDoor.Zb

namespace Go.Proofs.YtnjmokmlnpehdaaGreatDoor.Zp
set_option linter.unusedSimpArgs false
set_option linter.unusedVariables false
open Go.RowKit Go.Maps Go.Proofs.YtnjmokmlnpehdaaGreatDoor.Zm Go.Proofs.YtnjmokmlnpehdaaGreatDoor.Zr Go.Proofs.YtnjmokmlnpehdaaGreatDoor.Bn Go.Proofs.YtnjmokmlnpehdaaGreatDoor.Zk

set_option maxHeartbeats 1000000

/-- the library's table of powers of ten is there -/
structure Pows (W : World) : Prop where
  pow : Lib.TabIs Tryz.prog W "internal/strconv.uint64pow10" .u64 Lib.pow10Tab
theorem gPow : Tryz.prog.globalNamed "internal/strconv.uint64pow10" = some 10 := by kernel_rfl
theorem Pows.kept {W w1 : World} (p : Pows W) (hb : Below W.heap.size W w1) : Pows w1 := ⟨Joins.tab_stays gPow p.pow hb (Nat.le_refl _)⟩

/-- a token of whole numbers as one of natural numbers -/
def tokN (t : TkI) : Tk := ⟨t.k.toNat, t.a.toNat, t.n.toNat, by_ t.s⟩

theorem FineI.fine {t : TkI} (h : FineI t) : Fine (tokN t) := by
  obtain ⟨k, a, n, s⟩ := t
  rcases h with ⟨h1, h2, h3⟩ | ⟨h1, h2, h3, h4⟩ | ⟨h1, h2, h3⟩
  · simp only at h1 h2 h3; subst h1 h2; exact .inl ⟨rfl, rfl, h3⟩
  · simp only at h1 h2 h3 h4; subst h1 h2; exact .inr (.inl ⟨rfl, rfl, by simp only [tokN]; omega⟩)
  · simp only at h1 h2 h3; subst h2 h3
    refine .inr (.inr ⟨?_, rfl, rfl⟩)
    simp only [tokN]; omega

theorem by_mk (l : List UInt8) : by_ ⟨l.toArray⟩ = l := by simp [by_]

set_option maxRecDepth 100000 in
theorem textOf_any (k a n : Int) (s : ByteArray) (b : Nat) (w : World) (S : SgTexts w b) (P : Pows w) (hk64 : (Lit.int .i64 k).wf = true) (hf : Hid (FineI ⟨k, a, n, s⟩)) :
    Calls Tryz.prog 104 #[.agg #[.int .i64 k, .int .i64 a, .int .i64 n, .string s], .map (some b)] w fun e w' => e = .returned (.string ⟨(text (tokN ⟨k, a, n, s⟩)).toArray⟩) ∧ Below w.heap.size w w' := by
  have hF := hf.out
  by_cases h1 : k = 1
  · subst h1
    have Y : Hid (⟨(text (tokN ⟨1, a, n, s⟩)).toArray⟩ = s) := Lib.hid (by simp [text, tokN, by_])
    clear hF hf S P
    go_enter Tryz.func104, Tryz.ntmps104
    go_wp2_with fail
    go_ret
    exact ⟨by rw [Y.out]; rfl, balloc (Below.refl _ _) _⟩
  have e1 : (k == 1) = false := beq_eq_false_iff_ne.2 h1
  by_cases h2 : k = 2
  · subst h2
    have hn : 0 ≤ n ∧ n ≤ 999999999 := by simp [FineI] at hF; omega
    obtain ⟨n0, n9⟩ := hn
    have ci : ∀ w, Pows w → Calls Tryz.prog 115 #[.int .i64 n] w fun e w' => e = .returned (.string ⟨(text (tokN ⟨2, a, n, s⟩)).toArray⟩) ∧ Below w.heap.size w w' := fun w P =>
      (Tryz.strconv_Itoa n (by omega) (by omega) w P.pow).mono fun e w' ⟨x, q, os, y⟩ => ⟨by
        rw [x]
        have : Lib.itoa n = Lib.decDigits n.toNat := by simp [Lib.itoa, show ¬ n < 0 by omega]
        rw [this]; rfl, by subst y; exact Lib.below_grow _ w (Nat.le_refl _) q os⟩
    have hP : Pows (w.alloc (.cells #[.int .i64 2, .int .i64 a, .int .i64 n, .string s] 80)) := P.kept (balloc (Below.refl _ _) _)
    clear hF hf S
    go_enter Tryz.func104, Tryz.ntmps104
    go_wp2_with fail
    refine (ci _ hP).mono ?_
    rintro e w1 ⟨rfl, hb⟩
    go_wp2_with fail
    go_ret
    exact ⟨rfl, bthen (balloc (Below.refl _ _) _) hb⟩
  have e2 : (k == 2) = false := beq_eq_false_iff_ne.2 h2
  obtain ⟨D, hD, hat0⟩ := S
  have HD : (w.alloc (.cells #[.int .i64 k, .int .i64 a, .int .i64 n, .string s] 80)).ownsMap Tryz.prog 3 (plainElem Tryz.prog 9) b 3 D := hD.alloc _
  have h345 : k = 3 ∨ k = 4 ∨ k = 5 := by simp [FineI, h1, h2] at hF; exact hF.1
  have hsv : ∀ sv : ByteArray, D.atKey (.int .i64 k) (.lit (.string [])) = .lit (.string sv.data.toList) → sv = ⟨(text (tokN ⟨k, a, n, s⟩)).toArray⟩ := fun sv h => by
    rw [hat0 k] at h
    injection h with h; injection h with h
    apply ByteArray.ext
    rw [← Array.toList_inj, ← h]
    rcases h345 with rfl | rfl | rfl <;> simp [sgText, text, tokN]
  clear hF hf hat0 hD h345 h1 h2
  go_enter Tryz.func104, Tryz.ntmps104
  go_wp2_with (at_lookup; refine wpList_lookup_own_string _ rfl _ _ 123 rfl 3 9 lawI Tryz.underlying123 Tryz.underlying9 (zeroS _) b 3 D rfl HD _ _ rfl (keyOf_int_mk Tryz.underlying3 hk64) ?_; intro sv hat; obtain rfl := hsv sv hat)
  go_ret
  exact ⟨rfl, balloc (Below.refl _ _) _⟩

/-- the first k tokens -/
def toks (z : Nat → TkI) (k : Nat) : List Tk := (List.range k).map (fun i => tokN (z i))
theorem toks_succ (z : Nat → TkI) (k : Nat) : toks z (k + 1) = toks z k ++ [tokN (z k)] := by simp [toks, List.range_succ]
theorem toks_len (z : Nat → TkI) (k : Nat) : (toks z k).length = k := by simp [toks]
theorem toks_fine {z : Nat → TkI} {k : Nat} (h : ∀ i, i < k → FineI (z i)) : ∀ t ∈ toks z k, Fine t := by
  intro t ht
  obtain ⟨i, hi, rfl⟩ := List.mem_map.1 ht
  exact (h i (by simpa using hi)).fine
theorem join_succ (z : Nat → TkI) (k : Nat) : join (toks z (k + 1)) = if k = 0 then text (tokN (z k)) else join (toks z k) ++ 32 :: text (tokN (z k)) := by
  rw [toks_succ, join_snoc]
  by_cases h : k = 0
  · subst h; simp [toks]
  · rw [if_neg h, if_neg (by intro e; have := congrArg List.length e; rw [toks_len] at this; simp at this; exact h this)]

/-- what Join tells of n tokens -/
def JoinIs (n : Nat) (z : Nat → TkI) (t : List UInt8) (er : Nat) : Prop :=
  (er = 1 ∧ t = [] ∧ (8192 < n ∨ ∃ i, i < n ∧ ¬ FineI (z i))) ∨
  (n ≤ 8192 ∧ (∀ i, i < n → FineI (z i)) ∧ ((er = 6 ∧ t = [] ∧ 65536 < (join (toks z n)).length) ∨ (er = 0 ∧ t = join (toks z n) ∧ t.length ≤ 65536)))

theorem JoinIs.bad {n : Nat} {z : Nat → TkI} {t : List UInt8} {er : Nat} (h : JoinIs n z t er) (hb : 8192 < n ∨ ∃ i, i < n ∧ ¬ FineI (z i)) : t = [] ∧ er = 1 := by
  rcases h with ⟨h1, h2, _⟩ | ⟨h1, h2, _⟩
  · exact ⟨h2, h1⟩
  · rcases hb with hb | ⟨i, hi, hf⟩
    · omega
    · exact absurd (h2 i hi) hf

theorem Below.both {w W W' : World} (h : Below w.heap.size w W) (h' : Below w.heap.size W W') : Below w.heap.size w W' := h.trans h'

theorem SgTexts_oth {w w' : World} {b b0 : Nat} (h : SgTexts w b) (ho : Zb.Oth b0 w w') (hne : b ≠ b0) : SgTexts w' b := by
  obtain ⟨D, ⟨es, clock, hb0, F, hs, hD⟩, hat⟩ := h
  exact ⟨D, ⟨es, clock, ho b _ hb0 (by intro e; injection e with e; exact hne e) (by intro c fz e; cases e), F, hs, hD⟩, hat⟩

/-- a token's box, over a builder's writing -/
theorem box_oth {w w' : World} {g b0 : Nat} {a : Array Value} (h : w.heap[g]? = some (.cells a 80 (0, 0))) (ho : Zb.Oth b0 w w') (hne : g ≠ b0) : w'.heap[g]? = some (.cells a 80 (0, 0)) :=
  ho g _ h (by intro e; injection e with e; exact hne e) (by intro c fz e; injection e with _ e _; exact absurd e (by decide))

set_option maxRecDepth 100000 in
theorem Join_any (v : Value) (n : Nat) (z : Nat → TkI) (t : List UInt8) (er : Nat) (w : World) (T : TokAt w v n z) (P : Pows w) (hn : n ≤ 1000000) (hW : Hid (∀ i, i < n → (Lit.int .i64 (z i).k).wf = true ∧ (z i).s.size ≤ maxLen)) (hJ : Hid (JoinIs n z t er)) :
    Calls Tryz.prog 83 #[v] w fun e w' => e = .returned (.tuple #[.string ⟨t.toArray⟩, .int .i64 er]) ∧ Below w.heap.size w w' := by
  obtain ⟨ptr, cap, rfl, hT⟩ := T
  by_cases h81 : 8192 < n
  · have d1 : decide ((8192 : Int) < (n : Int)) = true := decide_eq_true (by omega)
    obtain ⟨rfl, rfl⟩ := hJ.out.bad (.inl h81)
    clear h81 hT hW hJ P
    go_enter Tryz.func83, Tryz.ntmps83
    go_wp2_with fail
    go_ret2
    exact ⟨rfl, Below.refl _ _⟩
  have d1 : decide ((8192 : Int) < (n : Int)) = false := decide_eq_false (by omega)
  have hn8 : n ≤ 8192 := by omega
  have cs := fun w => signTexts_any w
  have HT := Lib.hid hT
  clear h81 hT
  go_enter Tryz.func83, Tryz.ntmps83
  go_wp2_with fail
  have hB0 : Zb.Bu w.heap.size w.heap.size [] (w.alloc (.cells #[.pointer none, .slice none 0 0] 122)) := Lib.fresh_isBuilder _ _ _
  refine (cs _).mono ?_
  rintro e w1 ⟨bs, rfl, S, hbs, hb1⟩
  have B1 : Below w.heap.size w w1 := bthen (balloc (Below.refl _ _) _) hb1
  replace hB0 := hB0.kept hb1
  have P1 := P.kept B1
  rw [World.size_alloc] at hbs
  clear hb1 cs
  go_wp2_with fail
  go_loopw [14] (fun I wr => ∃ k : Nat, k ≤ n ∧ I = .int .i64 k ∧ Zb.Bu w.heap.size w.heap.size (join (toks z k)) wr ∧ SgTexts wr bs ∧ Pows wr ∧ Below w.heap.size w wr ∧ Hid (∀ i, i < k → FineI (z i))) (fun I _ => n - (intOf I).toNat)
  case atStart => exact ⟨0, by omega, rfl, hB0, S, P1, B1, Lib.hid (fun i hi => absurd hi (by omega))⟩
  case round =>
    clear hB0 S P1 B1
    obtain ⟨k, hk, rfl, hBu, S, P1, B1, HF⟩ := hrel
    by_cases hlt : k < n
    · obtain ⟨g, o, rfl, lg, hc⟩ := HT.out.resolve_left (by omega)
      obtain ⟨x0, x1, x2, x3⟩ := hc k hlt
      replace x0 := (B1.cell (p := ⟨g, _, none⟩) lg).trans x0
      replace x1 := (B1.cell (p := ⟨g, _, none⟩) lg).trans x1
      replace x2 := (B1.cell (p := ⟨g, _, none⟩) lg).trans x2
      replace x3 := (B1.cell (p := ⟨g, _, none⟩) lg).trans x3
      obtain ⟨wk, ws⟩ := hW.out k hlt
      have HZ : Hid (z k = ⟨(z k).k, (z k).a, (z k).n, (z k).s⟩) := Lib.hid rfl
      generalize (z k).k = xk at *
      generalize (z k).a = xa at *
      generalize (z k).n = xn at *
      generalize (z k).s = xs at *
      clear hc
      have lg' := Nat.lt_of_lt_of_le lg B1.size
      by_cases hf : FineI ⟨xk, xa, xn, xs⟩
      · have cm := fun w S => mayBe_any xk xa xn xs bs true w S ws wk (Lib.hid (by simp [hf]))
        have ct := fun w S P => textOf_any xk xa xn xs bs w S P wk (Lib.hid hf)
        have HF2 : Hid (∀ i, i < k + 1 → FineI (z i)) := Lib.hid (fun i hi => by
          rcases Nat.lt_or_ge i k with q | q
          · exact HF.out i q
          · obtain rfl : i = k := by omega
            rw [HZ.out]; exact hf)
        clear HF
        have HL : Hid (∀ t ∈ toks z k, Fine t) := Lib.hid (toks_fine (fun i hi => HF2.out i (by omega)))
        have HT2 : Hid (Fine (tokN ⟨xk, xa, xn, xs⟩)) := Lib.hid hf.fine
        have hst := text_len hf.fine
        have hsz : (⟨(text (tokN ⟨xk, xa, xn, xs⟩)).toArray⟩ : ByteArray).size = (text (tokN ⟨xk, xa, xn, xs⟩)).length := by simp [ByteArray.size]
        have HS : Hid ((⟨(text (tokN ⟨xk, xa, xn, xs⟩)).toArray⟩ : ByteArray).size ≤ 16) := Lib.hid (by rw [hsz]; exact hst)
        have S0 := S.lt
        have S1 : w.heap.size < bs := by omega
        clear hst hsz hf
        by_cases hk0 : k = 0
        · have d0 : decide (0 < k) = false := decide_eq_false (by omega)
          have H0 := Lib.hid hk0
          clear hk0
          go_wp2_with fail
          refine (cm _ (S.alloc _)).mono ?_
          rintro e w2 ⟨rfl, hb⟩
          have hbx : w2.heap[wr.heap.size]? = some (.cells #[.int .i64 xk, .int .i64 xa, .int .i64 xn, .string xs] 80 (0, 0)) := (hb.block _ (by simp)).trans (heap_alloc_new wr _)
          replace hBu := (hBu.kept (balloc (Below.refl _ _) (.cells #[.int .i64 xk, .int .i64 xa, .int .i64 xn, .string xs] 80))).kept hb
          replace S := (S.alloc (.cells #[.int .i64 xk, .int .i64 xa, .int .i64 xn, .string xs] 80)).kept hb
          have hgw : w.heap.size < wr.heap.size := by omega
          have B2 := bthen (balloc B1 _) hb
          clear hb B1 cm
          have t0 : w2.cell? ⟨wr.heap.size, 0, none⟩ = some (.int .i64 xk) := by rw [Lib.cell_of_heap hbx]; rfl
          have t1 : w2.cell? ⟨wr.heap.size, 1, none⟩ = some (.int .i64 xa) := by rw [Lib.cell_of_heap hbx]; rfl
          have t2 : w2.cell? ⟨wr.heap.size, 2, none⟩ = some (.int .i64 xn) := by rw [Lib.cell_of_heap hbx]; rfl
          have t3 : w2.cell? ⟨wr.heap.size, 3, none⟩ = some (.string xs) := by rw [Lib.cell_of_heap hbx]; rfl
          go_wp2_with fail
          refine (ct _ S (P.kept B2)).mono ?_
          rintro e w4 ⟨rfl, hb4⟩
          replace hBu := hBu.kept hb4
          replace S := S.kept hb4
          replace B2 := bthen B2 hb4
          clear hb4 ct t0 t1 t2 t3 hbx
          go_wp2_with fail
          have cv := fun h1 => Zb.WriteString_any w.heap.size w.heap.size _ ⟨(text (tokN ⟨xk, xa, xn, xs⟩)).toArray⟩ w4 hBu h1 B2.size
          refine (cv (by have := HS.out; have := join_len (toks z k) HL.out; rw [toks_len] at this; omega)).mono ?_
          rintro e w5 ⟨rfl, hBu, hb5, ho5⟩
          replace S := SgTexts_oth S ho5 (by omega)
          replace B2 := B2.trans hb5
          have P5 := P.kept B2
          have hBu5 : Zb.Bu w.heap.size w.heap.size (join (toks z (k + 1))) w5 := by
            rw [join_succ, HZ.out]
            rw [if_pos H0.out]; rw [H0.out] at hBu; simpa [toks, join] using hBu
          clear cv hb5 ho5 hBu
          go_wp2_with fail
          go_roundw
          case rel => exact ⟨k + 1, by omega, by go_num, hBu5, S, P5, B2, HF2⟩
          case measure => simp [intOf]; omega
        · have d0 : decide (0 < k) = true := decide_eq_true (by omega)
          have hk1 : 0 < k := by omega
          go_wp2_with fail
          refine (cm _ (S.alloc _)).mono ?_
          rintro e w2 ⟨rfl, hb⟩
          have hbx : w2.heap[wr.heap.size]? = some (.cells #[.int .i64 xk, .int .i64 xa, .int .i64 xn, .string xs] 80 (0, 0)) := (hb.block _ (by simp)).trans (heap_alloc_new wr _)
          replace hBu := (hBu.kept (balloc (Below.refl _ _) (.cells #[.int .i64 xk, .int .i64 xa, .int .i64 xn, .string xs] 80))).kept hb
          replace S := (S.alloc (.cells #[.int .i64 xk, .int .i64 xa, .int .i64 xn, .string xs] 80)).kept hb
          have hgw : w.heap.size < wr.heap.size := by omega
          have B2 := bthen (balloc B1 _) hb
          clear hb B1 cm
          have t0 : w2.cell? ⟨wr.heap.size, 0, none⟩ = some (.int .i64 xk) := by rw [Lib.cell_of_heap hbx]; rfl
          have t1 : w2.cell? ⟨wr.heap.size, 1, none⟩ = some (.int .i64 xa) := by rw [Lib.cell_of_heap hbx]; rfl
          have t2 : w2.cell? ⟨wr.heap.size, 2, none⟩ = some (.int .i64 xn) := by rw [Lib.cell_of_heap hbx]; rfl
          have t3 : w2.cell? ⟨wr.heap.size, 3, none⟩ = some (.string xs) := by rw [Lib.cell_of_heap hbx]; rfl
          go_wp2_with fail
          have cw := Zb.WriteByte_any w.heap.size w.heap.size (join (toks z k)) 32 w2 hBu (by have := join_len (toks z k) HL.out; rw [toks_len] at this; omega) B2.size
          rw [show (((32 : UInt8).toNat : Nat) : Int) = 32 from rfl] at cw
          refine cw.mono ?_
          rintro e w3 ⟨rfl, hBu, hb3, ho3⟩
          replace hbx := box_oth hbx ho3 (by omega)
          replace S := SgTexts_oth S ho3 (by omega)
          replace B2 := B2.trans hb3
          clear cw hb3 ho3 t0 t1 t2 t3
          have t0 : w3.cell? ⟨wr.heap.size, 0, none⟩ = some (.int .i64 xk) := by rw [Lib.cell_of_heap hbx]; rfl
          have t1 : w3.cell? ⟨wr.heap.size, 1, none⟩ = some (.int .i64 xa) := by rw [Lib.cell_of_heap hbx]; rfl
          have t2 : w3.cell? ⟨wr.heap.size, 2, none⟩ = some (.int .i64 xn) := by rw [Lib.cell_of_heap hbx]; rfl
          have t3 : w3.cell? ⟨wr.heap.size, 3, none⟩ = some (.string xs) := by rw [Lib.cell_of_heap hbx]; rfl
          go_wp2_with fail
          refine (ct _ S (P.kept B2)).mono ?_
          rintro e w4 ⟨rfl, hb4⟩
          replace hBu := hBu.kept hb4
          replace S := S.kept hb4
          replace B2 := bthen B2 hb4
          clear hb4 ct t0 t1 t2 t3 hbx
          go_wp2_with fail
          have cv := fun h1 => Zb.WriteString_any w.heap.size w.heap.size _ ⟨(text (tokN ⟨xk, xa, xn, xs⟩)).toArray⟩ w4 hBu h1 B2.size
          refine (cv (by have := HS.out; have := join_len (toks z k) HL.out; rw [toks_len] at this; rw [List.length_append]; simp; omega)).mono ?_
          rintro e w5 ⟨rfl, hBu, hb5, ho5⟩
          replace S := SgTexts_oth S ho5 (by omega)
          replace B2 := B2.trans hb5
          have P5 := P.kept B2
          have hBu5 : Zb.Bu w.heap.size w.heap.size (join (toks z (k + 1))) w5 := by
            rw [join_succ, HZ.out]
            rw [if_neg hk0]; simpa using hBu
          clear cv hb5 ho5 hBu
          go_wp2_with fail
          go_roundw
          case rel => exact ⟨k + 1, by omega, by go_num, hBu5, S, P5, B2, HF2⟩
          case measure => simp [intOf]; omega
      · have cm := fun w S => mayBe_any xk xa xn xs bs false w S ws wk (Lib.hid (by simp [hf]))
        obtain ⟨rfl, rfl⟩ := hJ.out.bad (.inr ⟨k, hlt, by rw [HZ.out]; exact hf⟩)
        clear hf
        go_wp2_with fail
        refine (cm _ (S.alloc _)).mono ?_
        rintro e w2 ⟨rfl, hb⟩
        have B2 := bthen (balloc B1 _) hb
        go_wp2_with fail
        go_ret2
        exact ⟨rfl, B2⟩
    · obtain rfl : k = n := by omega
      have hJ' := hJ.out
      have hl := Lib.byteCells_length (join (toks z k))
      obtain ⟨L, hL⟩ : ∃ L, (Lib.byteCells (join (toks z k))).length = L := ⟨_, rfl⟩
      have cl := Tryz.Builder_Len w.heap.size w.heap.size _ wr hBu
      rw [hL] at cl hl
      have cg := Tryz.Builder_String_any w.heap.size w.heap.size (join (toks z k)) wr hBu B1.size
      have hf := HF.out
      by_cases h65 : 65536 < L
      · have d5 : decide ((65536 : Int) < (L : Int)) = true := decide_eq_true (by omega)
        have hte : t = [] ∧ er = 6 := by
          rcases hJ' with ⟨h1, h2, h3⟩ | ⟨h1, h2, ⟨h3, h4, _⟩ | ⟨h3, h4, h5⟩⟩
          · rcases h3 with h3 | ⟨i, hi, h3⟩
            · omega
            · exact absurd (hf i hi) h3
          · exact ⟨h4, h3⟩
          · rw [← h4] at hl; omega
        obtain ⟨rfl, rfl⟩ := hte
        clear hJ' hl hL hf HF h65 hJ
        go_wp2_with fail
        refine cl.mono ?_
        rintro e w2 ⟨rfl, rfl⟩
        go_wp2_with fail
        go_ret2
        exact ⟨rfl, B1⟩
      · have d5 : decide ((65536 : Int) < (L : Int)) = false := decide_eq_false (by omega)
        have hte : t = join (toks z k) ∧ er = 0 := by
          rcases hJ' with ⟨h1, h2, h3⟩ | ⟨h1, h2, ⟨h3, h4, h5⟩ | ⟨h3, h4, h5⟩⟩
          · rcases h3 with h3 | ⟨i, hi, h3⟩
            · omega
            · exact absurd (hf i hi) h3
          · omega
          · exact ⟨h4, h3⟩
        obtain ⟨h4, rfl⟩ := hte
        rw [← h4] at cg
        clear hJ' hl hL hf HF h65 hJ h4
        go_wp2_with fail
        refine cl.mono ?_
        rintro e w2 ⟨rfl, rfl⟩
        go_wp2_with fail
        refine cg.mono ?_
        rintro e w3 ⟨rfl, hb3⟩
        go_wp2_with fail
        go_ret2
        exact ⟨rfl, B1.trans hb3⟩

end Go.Proofs.YtnjmokmlnpehdaaGreatDoor.Zp
