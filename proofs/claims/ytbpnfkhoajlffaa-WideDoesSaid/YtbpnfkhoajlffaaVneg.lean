/- What Neg and Fit of package wide come to. -/
import Derived.Test.YtbpnfkhoajlffaaVadd
namespace Go.Proofs.Ytbpnfkhoajlffaa.Vc
open Go.RowKit Go.Proofs.Ytbpnfkhoajlffaa.Vm
attribute [local go_sem ↓] Go.wp_at_zero Go.wp_at_succ

set_option maxHeartbeats 400000

theorem wordsOf_to (h l r : Int) (w : World) (e : Hid (h % 18446744073709551616 = r)) :
    Calls Try.prog 34 #[.agg #[.int .i64 h, .int .u64 l]] w fun e w' => e = .returned (.agg #[.int .u64 l, .int .u64 r]) ∧ Below w.heap.size w w' := by
  rw [← e.out]; exact wordsOf_any h l w

theorem opposite_to (a0 a1 r0 r1 : Int) (w : World) (h1 : 0 ≤ a0) (h2 : a0 ≤ 18446744073709551615) (h3 : 0 ≤ a1) (h4 : a1 ≤ 18446744073709551615)
    (e0 : Hid ((18446744073709551616 - a0) % 18446744073709551616 = r0)) (e1 : Hid ((18446744073709551615 - a1 + (18446744073709551616 - a0) / 18446744073709551616) % 18446744073709551616 = r1)) :
    Calls Try.prog 40 #[.agg #[.int .u64 a0, .int .u64 a1]] w fun e w' => e = .returned (.agg #[.int .u64 r0, .int .u64 r1]) ∧ Below w.heap.size w w' := by
  rw [← e0.out, ← e1.out]; exact opposite_any a0 a1 w h1 h2 h3 h4

theorem wide_to (a0 a1 r : Int) (w : World) (e : Hid (wrap64 a1 = r)) :
    Calls Try.prog 36 #[.agg #[.int .u64 a0, .int .u64 a1]] w fun e w' => e = .returned (.agg #[.int .i64 r, .int .u64 a0]) ∧ Below w.heap.size w w' := by
  rw [← e.out]; exact wide_any a0 a1 w

/-- a call keeps what is below -/
theorem below_step {B : Nat} {W0 W w1 : World} {R : Prop} (hB : B ≤ W0.heap.size) (h : Below B W0 W ∧ R) (hb : Below W.heap.size W w1) : Below B W0 w1 := h.1.trans (hb.mono (Nat.le_trans hB h.1.size))
theorem bcellB {B : Nat} {W w1 : World} (hb : Below B W w1) : (∀ b o, b < B → w1.cell? ⟨b, o, none⟩ = W.cell? ⟨b, o, none⟩) ∧ (∀ b o, b < B → w1.frozen? ⟨b, o, none⟩ = W.frozen? ⟨b, o, none⟩) :=
  ⟨fun b o h => hb.cell (p := ⟨b, o, none⟩) h, fun b o h => hb.frozen (p := ⟨b, o, none⟩) h⟩

theorem Neg_tells (h1 l1 : Int) (w : World) (b1 : Bd h1 l1) :
    Calls Try.prog 14 #[.agg #[.int .i64 h1, .int .u64 l1]] w (Tells (-num h1 l1) w) := by
  have B1 := b1
  unfold Bd at b1
  obtain ⟨_, _, b1, b2⟩ := b1
  obtain ⟨s1, hs1⟩ : ∃ s, wrap64 ((18446744073709551615 - h1 % 18446744073709551616 + (18446744073709551616 - l1) / 18446744073709551616) % 18446744073709551616) = s := ⟨_, rfl⟩
  obtain ⟨s0, hs0⟩ : ∃ s, (18446744073709551616 - l1) % 18446744073709551616 = s := ⟨_, rfl⟩
  have AW := Lib.hid (neg_words B1 hs1 hs0)
  obtain ⟨m1, hm1⟩ : ∃ s, h1 % 18446744073709551616 = s := ⟨_, rfl⟩
  have bm1 : 0 ≤ m1 := by omega
  have bm2 : m1 ≤ 18446744073709551615 := by omega
  rw [hm1] at hs1
  obtain ⟨t1, ht1⟩ : ∃ s, (18446744073709551615 - m1 + (18446744073709551616 - l1) / 18446744073709551616) % 18446744073709551616 = s := ⟨_, rfl⟩
  rw [ht1] at hs1
  replace hm1 := Lib.hid hm1
  replace ht1 := Lib.hid ht1
  replace hs1 := Lib.hid hs1
  replace hs0 := Lib.hid hs0
  go_enter Try.func14, Try.ntmps14
  go_wp2_with fail
  refine (wordsOf_to _ _ m1 _ hm1).mono ?_
  rintro e w1 ⟨rfl, hb1⟩
  go_wp2_with fail
  refine (opposite_to _ _ s0 t1 _ b1 b2 bm1 bm2 hs0 ht1).mono ?_
  rintro e w2 ⟨rfl, hb2⟩
  go_wp2_with fail
  refine (wide_to _ _ s1 _ hs1).mono ?_
  rintro e w3 ⟨rfl, hb3⟩
  have z1 := hb1.size
  have z2 := hb2.size
  have z3 := hb3.size
  simp only [World.size_alloc] at z1
  have hb : Below (w.heap.size + 2) ((w.alloc (.cells #[.int .i64 h1, .int .u64 l1] 24)).alloc (.cells #[.int .i64 0, .int .u64 0] 24)) w3 :=
    (hb1.mono (by simp)).trans ((hb2.mono (by omega)).trans (hb3.mono (by omega)))
  clear hb1 hb2 hb3 hs0 hs1 hm1 ht1 bm1 bm2
  obtain ⟨hc, hf⟩ := bcellB hb
  have z : w.heap.size + 1 < w3.heap.size := by omega
  have z4 : w.heap.size < w3.heap.size := by omega
  have hb0 : Below w.heap.size w w3 := (((Below.refl _ _).alloc (Nat.le_refl _) _).alloc (by simp) _).trans (hb.mono (by omega))
  clear z1 z2 z3 b1 b2
  by_cases c1 : h1 < 0 <;> by_cases c2 : s1 < 0
  all_goals go_wp2
  all_goals first
    | refine bodyPost_ret (v := .tuple #[.agg #[.int .i64 s1, .int .u64 s0], .int .i64 0]) (by simp [results, Try.results14, go_sem, hc, z]) rfl ⟨s1, s0, 0, rfl, neg_fits B1 AW.out (by omega), ?_⟩
      exact ((hb0.setCell (by simp) _).setCell (by simp) _).alloc (by simp <;> omega) _
    | refine bodyPost_ret (v := .tuple #[.agg #[.int .i64 0, .int .u64 0], .int .i64 2]) (by simp [results, Try.results14, go_sem, hc, z]) rfl ⟨0, 0, 2, rfl, neg_over B1 AW.out (by omega) (by omega), ?_⟩
      exact ((hb0.setCell (by simp) _).setCell (by simp) _).alloc (by simp <;> omega) _

theorem Neg_any (h1 l1 h l er : Int) (w : World) (b1 : Bd h1 l1) (r : Res (-num h1 l1) h l er) :
    Calls Try.prog 14 #[.agg #[.int .i64 h1, .int .u64 l1]] w fun e w' =>
      e = .returned (.tuple #[.agg #[.int .i64 h, .int .u64 l], .int .i64 er]) ∧ Below w.heap.size w w' :=
  (Neg_tells h1 l1 w b1).mono fun e w' ⟨h', l', er', he, r', hb⟩ => by
    obtain ⟨rfl, rfl, rfl⟩ := res_unique r r'
    exact ⟨he, hb⟩

end Go.Proofs.Ytbpnfkhoajlffaa.Vc
