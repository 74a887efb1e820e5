/- RatioBeside's walk. -/
import Derived.Test.YtmngbhkokglmjaaQlive
namespace Go.Proofs.Ytmngbhkokglmjaa.Ql
open Go.RowKit Go.Proofs.Ytmngbhkokglmjaa.Vm Go.Proofs.Ytmngbhkokglmjaa.Vc Go.Proofs.Ytmngbhkokglmjaa.Pr Go.Proofs.Ytmngbhkokglmjaa.Qm Go.Proofs.Ytmngbhkokglmjaa.Qc

set_option maxHeartbeats 1000000

theorem beside_walk (a b : Int) (w : World) (wa : (Lit.int .i64 a).wf = true) (wb : (Lit.int .i64 b).wf = true) :
    Calls Try.prog 8 #[.agg #[.int .i64 a, .int .i64 b]] w fun e w' => e = .returned (.bool true) ∧ Below w.heap.size w w' := by
  have fa : Fit1 a := bounds_i64 wa
  have fb : Fit1 b := bounds_i64 wb
  clear wa wb
  have cl := live_ok
  have f1 : Fit1 1 := by unfold Fit1; omega
  have l1 : ∀ n : Int, Low n 1 := fun n => ⟨by omega, by simp⟩
  by_cases L : Low a b
  · by_cases b1 : b = 1
    · subst b1
      have cf := fun w => Floor_any a 1 a 0 w fa f1 (.inl ⟨L, by simp, rfl⟩)
      have cc := fun w => Ceil_any a 1 a 0 w fa f1 (.inl ⟨L, by simp, rfl⟩)
      have ck := fun w => Check_yes a 1 w fa f1 L
      have cx := fun w => Cmp_op a 1 a 1 0 0 w fa f1 fa f1 (.inl ⟨L, L, by simp [cv], rfl⟩)
      have cy := cx
      clear L l1 f1 fb fa
      go_enter Try.func8, Try.ntmps8
      go_wp2_with fail
      refine (cl _).mono ?_
      rintro e w1 ⟨rfl, hb⟩
      have P1 := (Two.new w (.int .i64 a) (.int .i64 1) 23).kept hb
      have B1 := bthen (balloc (Below.refl _ w) _) hb
      try simp only [World.size_alloc] at P1
      clear hb
      obtain ⟨z0, c00, c01, _, _⟩ := id P1
      go_wp2_with fail
      refine (cf _).mono ?_
      rintro e w2 ⟨rfl, hb⟩
      replace P1 := (P1).kept hb
      replace B1 := bthen (B1) hb
      clear hb z0 c00 c01
      obtain ⟨z0, c00, c01, _, _⟩ := id P1
      go_wp2_with fail
      refine (cc _).mono ?_
      rintro e w3 ⟨rfl, hb⟩
      replace P1 := (P1).kept hb
      replace B1 := bthen (B1) hb
      clear hb z0 c00 c01
      obtain ⟨z0, c00, c01, _, _⟩ := id P1
      go_wp2_with fail
      refine (ck _).mono ?_
      rintro e w4 ⟨rfl, hb⟩
      replace P1 := (P1).kept hb
      replace B1 := bthen (B1) hb
      clear hb z0 c00 c01
      obtain ⟨z0, c00, c01, _, _⟩ := id P1
      go_wp2_with fail
      refine (cx _).mono ?_
      rintro e w5 ⟨rfl, hb⟩
      replace P1 := (P1).kept hb
      replace B1 := bthen (B1) hb
      clear hb z0 c00 c01
      obtain ⟨z0, c00, c01, _, _⟩ := id P1
      go_wp2_with fail
      refine (cy _).mono ?_
      rintro e w6 ⟨rfl, hb⟩
      replace P1 := (P1).kept hb
      replace B1 := bthen (B1) hb
      clear hb z0 c00 c01
      obtain ⟨z0, c00, c01, _, _⟩ := id P1
      go_wp2
      go_ret
      exact ⟨by simp, B1⟩
    · obtain ⟨n, n0, n1, nb, x1, x2⟩ := beside_facts L b1 fa
      have fn : Fit1 n := by unfold Fit1; omega
      have fm : Fit1 (n + 1) := by unfold Fit1; omega
      have cf := fun w => Floor_any a b n 0 w fa fb (.inl ⟨L, nb.1, rfl⟩)
      have cc := fun w => Ceil_any a b (n + 1) 0 w fa fb (.inl ⟨L, by rw [if_neg nb.2, nb.1], rfl⟩)
      have ck := fun w => Check_yes a b w fa fb L
      have cx := fun w => Cmp_op n 1 a b (-1) 0 w fn f1 fa fb (.inl ⟨l1 n, L, x1.symm, rfl⟩)
      have cy := fun w => Cmp_op (n + 1) 1 a b 1 0 w fm f1 fa fb (.inl ⟨l1 _, L, x2.symm, rfl⟩)
      have d1 : (b == 1) = false := beq_eq_false_iff_ne.2 b1
      have d2 : (n == 9223372036854775807) = false := beq_eq_false_iff_ne.2 (by omega)
      clear L l1 f1 fn fm fb fa nb x1 x2 b1
      go_enter Try.func8, Try.ntmps8
      go_wp2_with fail
      refine (cl _).mono ?_
      rintro e w1 ⟨rfl, hb⟩
      have P1 := (Two.new w (.int .i64 a) (.int .i64 b) 23).kept hb
      have B1 := bthen (balloc (Below.refl _ w) _) hb
      try simp only [World.size_alloc] at P1
      clear hb
      obtain ⟨z0, c00, c01, _, _⟩ := id P1
      go_wp2_with fail
      refine (cf _).mono ?_
      rintro e w2 ⟨rfl, hb⟩
      replace P1 := (P1).kept hb
      replace B1 := bthen (B1) hb
      clear hb z0 c00 c01
      obtain ⟨z0, c00, c01, _, _⟩ := id P1
      go_wp2_with fail
      refine (cc _).mono ?_
      rintro e w3 ⟨rfl, hb⟩
      replace P1 := (P1).kept hb
      replace B1 := bthen (B1) hb
      clear hb z0 c00 c01
      obtain ⟨z0, c00, c01, _, _⟩ := id P1
      go_wp2_with fail
      refine (ck _).mono ?_
      rintro e w4 ⟨rfl, hb⟩
      replace P1 := (P1).kept hb
      replace B1 := bthen (B1) hb
      clear hb z0 c00 c01
      obtain ⟨z0, c00, c01, _, _⟩ := id P1
      go_wp2_with fail
      refine (cx _).mono ?_
      rintro e w5 ⟨rfl, hb⟩
      replace P1 := (P1).kept hb
      replace B1 := bthen (B1) hb
      clear hb z0 c00 c01
      obtain ⟨z0, c00, c01, _, _⟩ := id P1
      go_wp2_with fail
      refine (cy _).mono ?_
      rintro e w6 ⟨rfl, hb⟩
      replace P1 := (P1).kept hb
      replace B1 := bthen (B1) hb
      clear hb z0 c00 c01
      obtain ⟨z0, c00, c01, _, _⟩ := id P1
      go_wp2
      go_ret
      exact ⟨by simp, B1⟩
  · have cf := fun w => Floor_any a b 0 1 w fa fb (.inr ⟨L, rfl, rfl⟩)
    have cc := fun w => Ceil_any a b 0 1 w fa fb (.inr ⟨L, rfl, rfl⟩)
    have ck := fun w => Check_no a b w fa fb L
    clear L fa fb l1 f1
    go_enter Try.func8, Try.ntmps8
    go_wp2_with fail
    refine (cl _).mono ?_
    rintro e w1 ⟨rfl, hb⟩
    have P1 := (Two.new w (.int .i64 a) (.int .i64 b) 23).kept hb
    have B1 := bthen (balloc (Below.refl _ w) _) hb
    try simp only [World.size_alloc] at P1
    clear hb
    obtain ⟨z0, c00, c01, _, _⟩ := id P1
    go_wp2_with fail
    refine (cf _).mono ?_
    rintro e w2 ⟨rfl, hb⟩
    replace P1 := (P1).kept hb
    replace B1 := bthen (B1) hb
    clear hb z0 c00 c01
    obtain ⟨z0, c00, c01, _, _⟩ := id P1
    go_wp2_with fail
    refine (cc _).mono ?_
    rintro e w3 ⟨rfl, hb⟩
    replace P1 := (P1).kept hb
    replace B1 := bthen (B1) hb
    clear hb z0 c00 c01
    obtain ⟨z0, c00, c01, _, _⟩ := id P1
    go_wp2_with fail
    refine (ck _).mono ?_
    rintro e w4 ⟨rfl, hb⟩
    replace P1 := (P1).kept hb
    replace B1 := bthen (B1) hb
    clear hb z0 c00 c01
    obtain ⟨z0, c00, c01, _, _⟩ := id P1
    go_wp2
    go_ret
    exact ⟨by simp, B1⟩

end Go.Proofs.Ytmngbhkokglmjaa.Ql
