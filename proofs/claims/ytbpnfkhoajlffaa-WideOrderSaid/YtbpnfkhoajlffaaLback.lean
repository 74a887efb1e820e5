/- live and the walks of the laws of layer 2 without the reference. -/
import Derived.Test.YtbpnfkhoajlffaaFrame
import Derived.Test.YtbpnfkhoajlffaaVsum
namespace Go.Proofs.Ytbpnfkhoajlffaa.Vl
open Go.RowKit Go.Proofs.Ytbpnfkhoajlffaa.Vm Go.Proofs.Ytbpnfkhoajlffaa.Vc
attribute [local go_sem ↓] Go.wp_at_zero Go.wp_at_succ

set_option maxHeartbeats 400000

theorem live_ok (w : World) : Calls Try.prog 11 #[] w fun e w' => e = .returned (.bool true) ∧ Below w.heap.size w w' := by
  have hf : ∀ z ∈ [(9223372036854775807 : Int), 1, -1], Fit1 z := by
    intro z hz
    simp at hz
    unfold Fit1
    omega
  have R : Res1 ([(9223372036854775807 : Int), 1, -1].sum) 9223372036854775807 0 := Or.inl ⟨rfl, by decide, by unfold Fit1; decide⟩
  have HF := Lib.hid hf
  have HR := Lib.hid R
  clear hf R
  go_enter Try.func11, Try.ntmps11
  go_wp2_with fail
  refine (Sum_any _ 3 _ [9223372036854775807, 1, -1] _ _ _ rfl (by omega) HF.out (.inr ⟨w.heap.size, 0, rfl, by simp, ?_⟩) HR.out).mono ?_
  · intro i hi
    match i, hi with
    | 0, _ => simp [go_sem]
    | 1, _ => simp [go_sem]
    | 2, _ => simp [go_sem]
  rintro e w1 ⟨rfl, hb1⟩
  go_wp2
  go_ret
  exact ⟨rfl, ((Below.refl _ _).alloc (Nat.le_refl _) _).trans (hb1.mono (by simp))⟩

/-- block b is there, and holds u and v -/
structure Pair (W : World) (b : Nat) (u v : Value) : Prop where
  lt : b < W.heap.size
  c0 : W.cell? ⟨b, 0, none⟩ = some u
  c1 : W.cell? ⟨b, 1, none⟩ = some v
theorem Pair.kept {W w1 : World} {b : Nat} {u v : Value} (p : Pair W b u v) (hb : Below W.heap.size W w1) : Pair w1 b u v :=
  ⟨Nat.lt_of_lt_of_le p.lt hb.size, (hb.cell (p := ⟨b, 0, none⟩) p.lt).trans p.c0, (hb.cell (p := ⟨b, 1, none⟩) p.lt).trans p.c1⟩
theorem Pair.alloc {W : World} {b : Nat} {u v : Value} (p : Pair W b u v) (o : Obj) : Pair (W.alloc o) b u v :=
  p.kept ((Below.refl _ _).alloc (Nat.le_refl _) o)
theorem Pair.new (W : World) (u v : Value) (t : TypeId) : Pair (W.alloc (.cells #[u, v] t)) W.heap.size u v :=
  ⟨by simp, by simp [go_sem], by simp [go_sem]⟩
theorem Pair.drew {W : World} {b : Nat} {u v : Value} (p : Pair W b u v) : Pair W.drew b u v := ⟨p.lt, p.c0, p.c1⟩

theorem Cmp_to (h1 l1 h2 l2 v : Int) (w : World) (b1 : Bd h1 l1) (b2 : Bd h2 l2) (e : Hid (cv (num h1 l1) (num h2 l2) = v)) :
    Calls Try.prog 18 #[.agg #[.int .i64 h1, .int .u64 l1], .agg #[.int .i64 h2, .int .u64 l2]] w fun e w' => e = .returned (.int .i64 v) ∧ Below w.heap.size w w' := by
  rw [← e.out]; exact Cmp_any h1 l1 h2 l2 w b1.2.2.1 b1.2.2.2 b2.2.2.1 b2.2.2.2

/-- two Wides differ in the high word, or in the low one, or not: and how they are compared -/
theorem cmp_cases {h1 l1 h2 l2 : Int} (b1 : Bd h1 l1) (b2 : Bd h2 l2) :
    ((h1 == h2) = false ∧ ((Hid (cv (num h1 l1) (num h2 l2) = -1) ∧ Hid (cv (num h2 l2) (num h1 l1) = 1)) ∨ (Hid (cv (num h1 l1) (num h2 l2) = 1) ∧ Hid (cv (num h2 l2) (num h1 l1) = -1)))) ∨
    (h1 = h2 ∧ (l1 == l2) = false ∧ ((Hid (cv (num h1 l1) (num h2 l2) = -1) ∧ Hid (cv (num h2 l2) (num h1 l1) = 1)) ∨ (Hid (cv (num h1 l1) (num h2 l2) = 1) ∧ Hid (cv (num h2 l2) (num h1 l1) = -1)))) ∨
    (h1 = h2 ∧ l1 = l2 ∧ Hid (cv (num h1 l1) (num h2 l2) = 0) ∧ Hid (cv (num h2 l2) (num h1 l1) = 0)) := by
  unfold Bd at b1 b2
  have key : ∀ a b : Int, a < b → cv a b = -1 ∧ cv b a = 1 := fun a b h => by unfold cv; rw [if_pos h, if_neg (by omega), if_pos h]; exact ⟨rfl, rfl⟩
  by_cases c : h1 = h2
  · subst c
    by_cases d : l1 = l2
    · subst d
      refine .inr (.inr ⟨rfl, rfl, Lib.hid ?_, Lib.hid ?_⟩) <;> · unfold cv; rw [if_neg (by omega), if_neg (by omega)]
    · refine .inr (.inl ⟨rfl, beq_eq_false_iff_ne.2 d, ?_⟩)
      rcases Int.lt_or_gt_of_ne d with h | h
      · have := key (num h1 l1) (num h1 l2) (by unfold num; omega)
        exact .inl ⟨Lib.hid this.1, Lib.hid this.2⟩
      · have := key (num h1 l2) (num h1 l1) (by unfold num; omega)
        exact .inr ⟨Lib.hid this.2, Lib.hid this.1⟩
  · refine .inl ⟨beq_eq_false_iff_ne.2 c, ?_⟩
    rcases Int.lt_or_gt_of_ne c with h | h
    · have := key (num h1 l1) (num h2 l2) (by unfold num; omega)
      exact .inl ⟨Lib.hid this.1, Lib.hid this.2⟩
    · have := key (num h2 l2) (num h1 l1) (by unfold num; omega)
      exact .inr ⟨Lib.hid this.2, Lib.hid this.1⟩

theorem cv_diff {a b d : Int} (h : d = a - b) : cv d (num 0 0) = cv a b := by
  have e : num 0 0 = 0 := rfl
  rw [e]
  unfold cv
  repeat' split
  all_goals omega

set_option maxHeartbeats 4000000 in
theorem order_walk (h1 l1 h2 l2 : Int) (w : World) (w1 : (Lit.int .i64 h1).wf = true) (w2 : (Lit.int .u64 l1).wf = true) (w3 : (Lit.int .i64 h2).wf = true) (w4 : (Lit.int .u64 l2).wf = true) :
    Calls Try.prog 8 #[.agg #[.int .i64 h1, .int .u64 l1], .agg #[.int .i64 h2, .int .u64 l2]] w fun e w' => e = .returned (.bool true) ∧ Below w.heap.size w w' := by
  have b1 : Bd h1 l1 := ⟨(bounds_i64 w1).1, (bounds_i64 w1).2, (bounds_u64 w2).1, (bounds_u64 w2).2⟩
  have b2 : Bd h2 l2 := ⟨(bounds_i64 w3).1, (bounds_i64 w3).2, (bounds_u64 w4).1, (bounds_u64 w4).2⟩
  clear w1 w2 w3 w4
  obtain ⟨hm, lm, em, rm⟩ := res_ex (-num h2 l2)
  have bm := res_bd rm
  obtain ⟨hd, ld, ed, rd⟩ := res_ex (num h1 l1 + num hm lm)
  have bd := res_bd rd
  have cm : (em = 2) ∨ (em = 0 ∧ num hm lm = -num h2 l2) := by rcases rm with ⟨h, h', _⟩ | ⟨h, _⟩; exact .inr ⟨h, h'⟩; exact .inl h
  have cd : (ed = 2) ∨ (ed = 0 ∧ num hd ld = num h1 l1 + num hm lm) := by rcases rd with ⟨h, h', _⟩ | ⟨h, _⟩; exact .inr ⟨h, h'⟩; exact .inl h
  by_cases c : em = 0 ∧ ed = 0
  · obtain ⟨rfl, rfl⟩ := c
    have D : num hd ld = num h1 l1 - num h2 l2 := by
      rcases cm with h | ⟨_, h⟩
      · omega
      · rcases cd with h' | ⟨_, h'⟩ <;> omega
    have DD := Lib.hid (cv_diff D)
    have bd0 : Bd 0 0 := by unfold Bd; omega
    replace rm := Lib.hid rm
    replace rd := Lib.hid rd
    clear cm cd D
    rcases cmp_cases b1 b2 with ⟨d1, ⟨e1, e2⟩ | ⟨e1, e2⟩⟩ | ⟨rfl, d1, ⟨e1, e2⟩ | ⟨e1, e2⟩⟩ | ⟨rfl, rfl, e1, e2⟩
    all_goals
      go_enter Try.func8, Try.ntmps8
      go_wp2_with fail
      refine (live_ok _).mono ?_
      rintro e w1 ⟨rfl, hb1⟩
      have P1 := ((Pair.new w (.int .i64 _) (.int .u64 _) 24).alloc _).kept hb1
      have P2 := (Pair.new _ (.int .i64 _) (.int .u64 _) 24).kept hb1
      have B1 : Below w.heap.size w w1 := (((Below.refl _ _).alloc (Nat.le_refl _) _).alloc (by simp) _).trans (hb1.mono (by simp <;> omega))
      simp only [World.size_alloc] at P2
      clear hb1
      obtain ⟨z1, c11, c12⟩ := id P1
      obtain ⟨z2, c21, c22⟩ := id P2
      go_wp2_with fail
      refine (Cmp_to _ _ _ _ _ _ b1 b2 e1).mono ?_
      rintro e w2 ⟨rfl, hb2⟩
      replace P1 := P1.kept hb2
      replace P2 := P2.kept hb2
      replace B1 := B1.trans (hb2.mono (Nat.le_of_lt z1))
      clear hb2 z1 z2 c11 c12 c21 c22
      obtain ⟨z1, c11, c12⟩ := id P1
      obtain ⟨z2, c21, c22⟩ := id P2
      go_wp2_with fail
      refine (Cmp_to _ _ _ _ _ _ b2 b1 e2).mono ?_
      rintro e w3 ⟨rfl, hb3⟩
      replace P1 := P1.kept hb3
      replace P2 := P2.kept hb3
      replace B1 := B1.trans (hb3.mono (Nat.le_of_lt z1))
      clear hb3 z1 z2 c11 c12 c21 c22
      obtain ⟨z1, c11, c12⟩ := id P1
      obtain ⟨z2, c21, c22⟩ := id P2
      go_wp2_with fail
      refine (Neg_any _ _ _ _ _ _ b2 rm.out).mono ?_
      rintro e w4 ⟨rfl, hb4⟩
      replace P1 := P1.kept hb4
      replace P2 := P2.kept hb4
      replace B1 := B1.trans (hb4.mono (Nat.le_of_lt z1))
      clear hb4 z1 z2 c11 c12 c21 c22
      obtain ⟨z1, c11, c12⟩ := id P1
      obtain ⟨z2, c21, c22⟩ := id P2
      go_wp2_with fail
      refine (Add_any _ _ _ _ _ _ _ _ b1 bm rd.out).mono ?_
      rintro e w5 ⟨rfl, hb5⟩
      replace B1 := (B1.alloc (Nat.le_of_lt z1) _).trans (hb5.mono (by simp <;> omega))
      have z5 : w.heap.size < w5.heap.size := by have := hb5.size; simp at this; omega
      clear hb5 P1 P2 z1 z2 c11 c12 c21 c22
      have P5 := Pair.drew (Pair.new w5 (.int .i64 hd) (.int .u64 ld) 24)
      have B5 := (B1.alloc (Nat.le_of_lt z5) (.cells #[.int .i64 hd, .int .u64 ld] 24)).drew
      have E := Lib.hid (DD.out.trans e1.out)
      have zl := P5.lt
      go_wp2
      go_region_held3 (fun w' => w'.cell? ⟨w5.heap.size, 0, none⟩ = some (.int .i64 hd) ∧ w'.cell? ⟨w5.heap.size, 1, none⟩ = some (.int .u64 ld))
        (first | exact ⟨P5.c0, P5.c1⟩ | exact ⟨P6.c0, P6.c1⟩ | exact ⟨P7.c0, P7.c1⟩ | (simp [go_sem]))
        (first | (go_at_call 26; refine (Of_to _ 0 0 _ (Lib.hid rfl) (Lib.hid rfl)).mono ?_; rintro e w6 ⟨rfl, hb6⟩; have P6 := P5.kept hb6; have B6 := B5.trans (hb6.mono B5.size)) | (go_at_call 18; refine (Cmp_to _ _ _ _ _ _ bd bd0 E).mono ?_; rintro e w7 ⟨rfl, hb7⟩; have P7 := P6.kept hb7; have B7 := B6.trans (hb7.mono B6.size)))
      go_wp2
      go_ret
      exact ⟨by simp, B7⟩
  · have c3 : (em = 2 ∧ (ed = 0 ∨ ed = 2)) ∨ (em = 0 ∧ ed = 2) := by
      rcases cm with h | ⟨h, _⟩ <;> rcases cd with h' | ⟨h', _⟩
      · exact .inl ⟨h, .inr h'⟩
      · exact .inl ⟨h, .inl h'⟩
      · exact .inr ⟨h, h'⟩
      · exact absurd ⟨h, h'⟩ c
    clear c cm cd
    replace rm := Lib.hid rm
    replace rd := Lib.hid rd
    rcases c3 with ⟨rfl, rfl | rfl⟩ | ⟨rfl, rfl⟩
    all_goals
      rcases cmp_cases b1 b2 with ⟨d1, ⟨e1, e2⟩ | ⟨e1, e2⟩⟩ | ⟨rfl, d1, ⟨e1, e2⟩ | ⟨e1, e2⟩⟩ | ⟨rfl, rfl, e1, e2⟩
      all_goals
        go_enter Try.func8, Try.ntmps8
        go_wp2_with fail
        refine (live_ok _).mono ?_
        rintro e w1 ⟨rfl, hb1⟩
        have P1 := ((Pair.new w (.int .i64 _) (.int .u64 _) 24).alloc _).kept hb1
        have P2 := (Pair.new _ (.int .i64 _) (.int .u64 _) 24).kept hb1
        have B1 : Below w.heap.size w w1 := (((Below.refl _ _).alloc (Nat.le_refl _) _).alloc (by simp) _).trans (hb1.mono (by simp <;> omega))
        simp only [World.size_alloc] at P2
        clear hb1
        obtain ⟨z1, c11, c12⟩ := id P1
        obtain ⟨z2, c21, c22⟩ := id P2
        go_wp2_with fail
        refine (Cmp_to _ _ _ _ _ _ b1 b2 e1).mono ?_
        rintro e w2 ⟨rfl, hb2⟩
        replace P1 := P1.kept hb2
        replace P2 := P2.kept hb2
        replace B1 := B1.trans (hb2.mono (Nat.le_of_lt z1))
        clear hb2 z1 z2 c11 c12 c21 c22
        obtain ⟨z1, c11, c12⟩ := id P1
        obtain ⟨z2, c21, c22⟩ := id P2
        go_wp2_with fail
        refine (Cmp_to _ _ _ _ _ _ b2 b1 e2).mono ?_
        rintro e w3 ⟨rfl, hb3⟩
        replace P1 := P1.kept hb3
        replace P2 := P2.kept hb3
        replace B1 := B1.trans (hb3.mono (Nat.le_of_lt z1))
        clear hb3 z1 z2 c11 c12 c21 c22
        obtain ⟨z1, c11, c12⟩ := id P1
        obtain ⟨z2, c21, c22⟩ := id P2
        go_wp2_with fail
        refine (Neg_any _ _ _ _ _ _ b2 rm.out).mono ?_
        rintro e w4 ⟨rfl, hb4⟩
        replace P1 := P1.kept hb4
        replace P2 := P2.kept hb4
        replace B1 := B1.trans (hb4.mono (Nat.le_of_lt z1))
        clear hb4 z1 z2 c11 c12 c21 c22
        obtain ⟨z1, c11, c12⟩ := id P1
        obtain ⟨z2, c21, c22⟩ := id P2
        go_wp2_with fail
        refine (Add_any _ _ _ _ _ _ _ _ b1 bm rd.out).mono ?_
        rintro e w5 ⟨rfl, hb5⟩
        replace B1 := (B1.alloc (Nat.le_of_lt z1) _).trans (hb5.mono (by simp <;> omega))
        have z5 : w.heap.size < w5.heap.size := by have := hb5.size; simp at this; omega
        clear hb5 P1 P2 z1 z2 c11 c12 c21 c22
        go_wp2
        go_ret
        exact ⟨rfl, B1.alloc (Nat.le_of_lt z5) _⟩

end Go.Proofs.Ytbpnfkhoajlffaa.Vl
