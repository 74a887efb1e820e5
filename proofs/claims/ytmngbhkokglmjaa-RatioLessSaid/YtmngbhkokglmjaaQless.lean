/- RatioLess' walk. -/
import Derived.Test.YtmngbhkokglmjaaQlive
namespace Go.Proofs.Ytmngbhkokglmjaa.Ql
open Go.RowKit Go.Proofs.Ytmngbhkokglmjaa.Vm Go.Proofs.Ytmngbhkokglmjaa.Vc Go.Proofs.Ytmngbhkokglmjaa.Pr Go.Proofs.Ytmngbhkokglmjaa.Qm Go.Proofs.Ytmngbhkokglmjaa.Qc

set_option maxHeartbeats 1000000

theorem less_walk (a b c d : Int) (w : World) (wa : (Lit.int .i64 a).wf = true) (wb : (Lit.int .i64 b).wf = true) (wc : (Lit.int .i64 c).wf = true) (wd : (Lit.int .i64 d).wf = true) :
    Calls Try.prog 9 #[.agg #[.int .i64 a, .int .i64 b], .agg #[.int .i64 c, .int .i64 d]] w fun e w' => e = .returned (.bool true) ∧ Below w.heap.size w w' := by
  have fa : Fit1 a := bounds_i64 wa
  have fb : Fit1 b := bounds_i64 wb
  have fc : Fit1 c := bounds_i64 wc
  have fd : Fit1 d := bounds_i64 wd
  clear wa wb wc wd
  have cl := live_ok
  by_cases L : Low a b ∧ Low c d
  · obtain ⟨sN, sD, g, rs⟩ := rat1_ex (a * d - c * b) (low_ne L.1 L.2)
    have c1 := fun w => Cmp_op a b c d (cv (a * d) (c * b)) 0 w fa fb fc fd (.inl ⟨L.1, L.2, rfl, rfl⟩)
    have c2 := fun w => Cmp_op c d a b (cv (c * b) (a * d)) 0 w fc fd fa fb (.inl ⟨L.2, L.1, rfl, rfl⟩)
    have cs := fun w => Sub_op a b c d sN sD g w fa fb fc fd (.inl ⟨L.1, L.2, rs⟩)
    have O := less_facts L.1 L.2 rs
    clear rs L fa fb fc fd
    rcases O with ⟨v1, v2, E, g0, s0, s1⟩ | ⟨v1, v2, E, g0, s0, s1⟩ | ⟨v1, v2, E, g0, s0, s1⟩ | ⟨v1, v2, E, g0⟩ | ⟨v1, v2, E, g0⟩ | ⟨v1, v2, E, g0⟩
    all_goals
      rw [v1] at c1
      rw [v2] at c2
      subst g0
      clear v1 v2
      replace E := Lib.hid E
    all_goals
      go_enter Try.func9, Try.ntmps9
      go_wp2_with fail
      refine (cl _).mono ?_
      rintro e w1 ⟨rfl, hb⟩
      have P1 := (((Two.new w (.int .i64 a) (.int .i64 b) 23)).alloc (.cells #[.int .i64 c, .int .i64 d] 23)).kept hb
      have P2 := (Two.new (w.alloc (.cells #[.int .i64 a, .int .i64 b] 23)) (.int .i64 c) (.int .i64 d) 23).kept hb
      have B1 := bthen (balloc (balloc (Below.refl _ w) _) _) hb
      try simp only [World.size_alloc] at P1 P2
      clear hb
      obtain ⟨z0, c00, c01, _, _⟩ := id P1
      obtain ⟨z1, c10, c11, _, _⟩ := id P2
      go_wp2_with fail
      refine (c1 _).mono ?_
      rintro e w2 ⟨rfl, hb⟩
      replace P1 := (P1).kept hb
      replace P2 := (P2).kept hb
      replace B1 := bthen (B1) hb
      clear hb z0 c00 c01 z1 c10 c11
      obtain ⟨z0, c00, c01, _, _⟩ := id P1
      obtain ⟨z1, c10, c11, _, _⟩ := id P2
      go_wp2_with fail
      refine (c2 _).mono ?_
      rintro e w3 ⟨rfl, hb⟩
      replace P1 := (P1).kept hb
      replace P2 := (P2).kept hb
      replace B1 := bthen (B1) hb
      clear hb z0 c00 c01 z1 c10 c11
      obtain ⟨z0, c00, c01, _, _⟩ := id P1
      obtain ⟨z1, c10, c11, _, _⟩ := id P2
      go_wp2_with fail
      refine (cs _).mono ?_
      rintro e w4 ⟨rfl, hb⟩
      replace P1 := (P1).kept hb
      replace P2 := (P2).kept hb
      replace B1 := bthen (B1) hb
      clear hb z0 c00 c01 z1 c10 c11
      obtain ⟨z0, c00, c01, _, _⟩ := id P1
      obtain ⟨z1, c10, c11, _, _⟩ := id P2
      go_wp2
      all_goals
        first
          | (exfalso; have E' := E.out; omega)
          | (go_ret; exact ⟨by simp, balloc B1 _⟩)
  · have c1 := fun w => Cmp_op a b c d 0 1 w fa fb fc fd (.inr ⟨L, rfl, rfl⟩)
    have c2 := fun w => Cmp_op c d a b 0 1 w fc fd fa fb (.inr ⟨fun k => L ⟨k.2, k.1⟩, rfl, rfl⟩)
    clear L fa fb fc fd
    go_enter Try.func9, Try.ntmps9
    go_wp2_with fail
    refine (cl _).mono ?_
    rintro e w1 ⟨rfl, hb⟩
    have P1 := (((Two.new w (.int .i64 a) (.int .i64 b) 23)).alloc (.cells #[.int .i64 c, .int .i64 d] 23)).kept hb
    have P2 := (Two.new (w.alloc (.cells #[.int .i64 a, .int .i64 b] 23)) (.int .i64 c) (.int .i64 d) 23).kept hb
    have B1 := bthen (balloc (balloc (Below.refl _ w) _) _) hb
    try simp only [World.size_alloc] at P1 P2
    clear hb
    obtain ⟨z0, c00, c01, _, _⟩ := id P1
    obtain ⟨z1, c10, c11, _, _⟩ := id P2
    go_wp2_with fail
    refine (c1 _).mono ?_
    rintro e w2 ⟨rfl, hb⟩
    replace P1 := (P1).kept hb
    replace P2 := (P2).kept hb
    replace B1 := bthen (B1) hb
    clear hb z0 c00 c01 z1 c10 c11
    obtain ⟨z0, c00, c01, _, _⟩ := id P1
    obtain ⟨z1, c10, c11, _, _⟩ := id P2
    go_wp2_with fail
    refine (c2 _).mono ?_
    rintro e w3 ⟨rfl, hb⟩
    replace P1 := (P1).kept hb
    replace P2 := (P2).kept hb
    replace B1 := bthen (B1) hb
    clear hb z0 c00 c01 z1 c10 c11
    obtain ⟨z0, c00, c01, _, _⟩ := id P1
    obtain ⟨z1, c10, c11, _, _⟩ := id P2
    go_wp2
    go_ret
    exact ⟨by simp, B1⟩

end Go.Proofs.Ytmngbhkokglmjaa.Ql
