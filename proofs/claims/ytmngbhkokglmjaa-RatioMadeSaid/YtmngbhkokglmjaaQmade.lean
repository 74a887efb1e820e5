/- RatioMade's walk. -/
import Derived.Test.YtmngbhkokglmjaaQlive
import Derived.Deep.RegionHeld3
namespace Go.Proofs.Ytmngbhkokglmjaa.Ql
open Go.RowKit Go.Proofs.Ytmngbhkokglmjaa.Vm Go.Proofs.Ytmngbhkokglmjaa.Vc Go.Proofs.Ytmngbhkokglmjaa.Pr Go.Proofs.Ytmngbhkokglmjaa.Qm Go.Proofs.Ytmngbhkokglmjaa.Qc

set_option maxHeartbeats 1000000

/-- what the drawn statement reads, and what became of the world -/
structure Three (w W : World) (g : Nat) (N D : Int) : Prop where
  below : Below w.heap.size w W
  a : Two W g (.int .i64 N) (.int .i64 D)
section
variable {w W w1 : World} {g : Nat} {N D : Int}
theorem Three.kept {R : Prop} (x : Three w W g N D ∧ R) (hb : Below W.heap.size W w1) : Three w w1 g N D := ⟨bthen x.1.below hb, x.1.a.kept hb⟩
theorem Three.drew (x : Three w W g N D) : Three w W.drew g N D := ⟨x.below.drew, x.a.drew⟩
theorem Three.opened (x : Three w W g N D) : Three w W g N D ∧ W.cell? ⟨g, 0, none⟩ = some (.int .i64 N) ∧ W.cell? ⟨g, 1, none⟩ = some (.int .i64 D) := ⟨x, x.a.c0, x.a.c1⟩
end

theorem made_walk (n d : Int) (w : World) (wn : (Lit.int .i64 n).wf = true) (wd : (Lit.int .i64 d).wf = true) :
    Calls Try.prog 7 #[.int .i64 n, .int .i64 d] w fun e w' => e = .returned (.bool true) ∧ Below w.heap.size w w' := by
  have fn : Fit1 n := bounds_i64 wn
  have fd : Fit1 d := bounds_i64 wd
  clear wn wd
  have cl := live_ok
  obtain ⟨N, D, e, r⟩ := makeres_ex n d
  have cm := fun w => Make_any n d N D e w fn fd r
  rcases r with ⟨rfl, rfl, rfl, rfl⟩ | ⟨hd, r⟩
  · clear fn fd
    go_enter Try.func7, Try.ntmps7
    go_wp2_with fail
    refine (cl _).mono ?_
    rintro e w1 ⟨rfl, hb⟩
    have B1 := bthen (Below.refl _ w) hb
    clear hb
    go_wp2_with fail
    refine (cm _).mono ?_
    rintro e w2 ⟨rfl, hb⟩
    replace B1 := bthen (B1) hb
    clear hb
    go_wp2
    go_ret
    exact ⟨by simp, balloc (B1) _⟩
  rcases rat1_er r with rfl | ⟨rfl, rfl, rfl⟩
  · obtain ⟨L, ee, fN, fD⟩ := rat1_low r
    obtain ⟨h1, l1, e1, b1⟩ := words_ex (x := N * d) (by have := prod_fits fN fd; unfold Fits; omega)
    obtain ⟨h2, l2, e2, b2⟩ := words_ex (x := D * n) (by have := prod_fits fD fn; unfold Fits; omega)
    have ck := fun w => Check_yes N D w fN fD L
    have m1 := fun w => Mul_any N d h1 l1 w fN fd b1 e1
    have m2 := fun w => Mul_any D n h2 l2 w fD fn b2 e2
    have cc : ∀ w, Calls Try.prog 30 #[.agg #[.int .i64 h1, .int .u64 l1], .agg #[.int .i64 h2, .int .u64 l2]] w fun e w' => e = .returned (.int .i64 0) ∧ Below w.heap.size w w' := fun w => by
      have h : cv (num h1 l1) (num h2 l2) = 0 := by rw [e1, e2, ee, Int.mul_comm D n]; simp [cv]
      rw [← h]; exact Cmp_any h1 l1 h2 l2 w b1.2.2.1 b1.2.2.2 b2.2.2.1 b2.2.2.2
    have ca := fun w => Make_any N D N D 0 w fN fD (made_again L fN fD)
    clear L ee fN fD fn fd e1 e2 b1 b2 r hd
    go_enter Try.func7, Try.ntmps7
    go_wp2_with fail
    refine (cl _).mono ?_
    rintro e w1 ⟨rfl, hb⟩
    have B1 := bthen (Below.refl _ w) hb
    clear hb
    go_wp2_with fail
    refine (cm _).mono ?_
    rintro e w2 ⟨rfl, hb⟩
    replace B1 := bthen (B1) hb
    clear hb
    have X : Three w (w2.alloc (.cells #[.int .i64 N, .int .i64 D] 23)) w2.heap.size N D := ⟨balloc B1 _, Two.new _ _ _ _⟩
    go_wp2
    go_region_held3 (fun w' => Three w w' w2.heap.size N D ∧ w'.cell? ⟨w2.heap.size, 0, none⟩ = some (.int .i64 N) ∧ w'.cell? ⟨w2.heap.size, 1, none⟩ = some (.int .i64 D))
      (first | exact X.drew.opened | exact X2.opened)
      (first
        | (go_at_call 28; (with_reducible refine (ck _).mono ?_); rintro e w4 ⟨rfl, hb⟩; have X2 := Three.kept (by first | (with_reducible assumption) | exact ⟨X.drew, trivial⟩) hb)
        | (go_at_call 30; (with_reducible refine (cc _).mono ?_); rintro e w4 ⟨rfl, hb⟩; have X2 := Three.kept (by first | (with_reducible assumption) | exact ⟨X.drew, trivial⟩) hb)
        | (go_at_call 31; first | ((with_reducible refine (m1 _).mono ?_); rintro e w4 ⟨rfl, hb⟩; have X2 := Three.kept (by first | (with_reducible assumption) | exact ⟨X.drew, trivial⟩) hb) | ((with_reducible refine (m2 _).mono ?_); rintro e w4 ⟨rfl, hb⟩; have X2 := Three.kept (by first | (with_reducible assumption) | exact ⟨X.drew, trivial⟩) hb)))
    all_goals
      obtain ⟨B2, P2⟩ := id X2
      obtain ⟨z2, e0, e1, _, _⟩ := id P2
      go_wp2_with fail
      refine (ca _).mono ?_
      rintro e w9 ⟨rfl, hb⟩
      have P3 := P2.kept hb
      have B3 := bthen B2 hb
      clear z2 e0 e1 hb
      obtain ⟨z3, i0, i1, _, _⟩ := id P3
      go_wp2
      go_ret
      exact ⟨by simp, balloc B3 _⟩
  · have O := made_over fn fd hd r
    have d0 : (d == 0) = false := beq_eq_false_iff_ne.2 hd
    clear r fn fd hd
    by_cases c : d = -9223372036854775808
    · subst c
      clear O
      go_enter Try.func7, Try.ntmps7
      go_wp2_with fail
      refine (cl _).mono ?_
      rintro e w1 ⟨rfl, hb⟩
      have B1 := bthen (Below.refl _ w) hb
      clear hb
      go_wp2_with fail
      refine (cm _).mono ?_
      rintro e w2 ⟨rfl, hb⟩
      replace B1 := bthen (B1) hb
      clear hb
      go_wp2
      all_goals
        go_ret
        exact ⟨by simp, balloc (B1) _⟩
    · have d1 : (d == -9223372036854775808) = false := beq_eq_false_iff_ne.2 c
      obtain rfl : n = -9223372036854775808 := by omega
      clear O c
      go_enter Try.func7, Try.ntmps7
      go_wp2_with fail
      refine (cl _).mono ?_
      rintro e w1 ⟨rfl, hb⟩
      have B1 := bthen (Below.refl _ w) hb
      clear hb
      go_wp2_with fail
      refine (cm _).mono ?_
      rintro e w2 ⟨rfl, hb⟩
      replace B1 := bthen (B1) hb
      clear hb
      go_wp2
      go_ret
      exact ⟨by simp, balloc (B1) _⟩

end Go.Proofs.Ytmngbhkokglmjaa.Ql
