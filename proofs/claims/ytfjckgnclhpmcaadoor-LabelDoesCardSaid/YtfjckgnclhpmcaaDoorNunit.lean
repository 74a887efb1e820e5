/- What Print, unitOf and Parse of package label come to. -/
import Derived.Test.YtfjckgnclhpmcaaDoorNamt
import Derived.Test.YtfjckgnclhpmcaaDoorNdig
import Derived.Test.YtfjckgnclhpmcaaDoorBoxn
import Derived.Lib.QuietBelow
namespace Go.Proofs.YtfjckgnclhpmcaaDoor.Np
set_option linter.unusedSimpArgs false
set_option linter.unusedVariables false
open Go.RowKit Go.Proofs.YtfjckgnclhpmcaaDoor.Pr Go.Proofs.YtfjckgnclhpmcaaDoor.Nm Go.Proofs.YtfjckgnclhpmcaaDoor.Wm Go.Proofs.YtfjckgnclhpmcaaDoor.Wc Go.Proofs.YtfjckgnclhpmcaaDoor.Bx Go.Proofs.YtfjckgnclhpmcaaDoor.Fs Go.Proofs.YtfjckgnclhpmcaaDoor.Bn
open Go.Proofs.YtfjckgnclhpmcaaDoor.Tm (s4 s2 s1 s4_size)

set_option maxHeartbeats 600000

theorem ldigL (L i : Int) (w : World) (h : NumOk L i) : Calls Tryd.prog 21 #[.int .i64 i, .int .i64 (dgc L : Nat)] w fun e w' => e = .returned (.string (sd L i)) ∧ Below w.heap.size w w' := by
  rcases h with ⟨rfl, rfl⟩ | ⟨O, z, t⟩ | ⟨O, z, t⟩
  · exact ldig0 1 w (by omega) (by omega)
  · rcases O with rfl | rfl
    · exact ldig1 i w z t
    · exact ldig1 i w z t
  · rcases O with rfl | rfl
    · exact ldig2 i w z t
    · exact ldig2 i w z t
theorem dgc_bd (L : Int) : dgc L ≤ 2 := by unfold dgc; repeat' split
                                           all_goals omega
theorem sgn_bd {L : Int} (h : 1 ≤ L ∧ L ≤ 5) : (sgn L).size ≤ 2 := by rw [sgn_size h]; split <;> omega

set_option maxRecDepth 100000 in
theorem LPrint_any (L y i : Int) (s : ByteArray) (er : Int) (w : World) (R : PrintA L y i s er) (T : Lev w) :
    Calls Tryd.prog 10 #[.agg #[.int .i64 L, .int .i64 y, .int .i64 i]] w fun e w' => e = .returned (.tuple #[.string s, .int .i64 er]) ∧ Below w.heap.size w w' := by
  have U := Tri.new w (.int .i64 L) (.int .i64 y) (.int .i64 i) 23
  replace T := T.alloc (.cells #[.int .i64 L, .int .i64 y, .int .i64 i] 23)
  have B := balloc (Below.refl _ w) (.cells #[.int .i64 L, .int .i64 y, .int .i64 i] 23)
  rcases R with ⟨wo, hs, rfl⟩ | ⟨no, rfl, rfl⟩
  · have cc := fun w T => can_any L y i true w (decide_eq_true wo).symm T
    have ll : 1 ≤ L ∧ L ≤ 5 := ⟨wo.2.2.1, wo.2.2.2.1⟩
    have cA := fun w => ldig4 y w (by have := wo.1; omega) (by have := wo.2.1; omega)
    have cB := fun w => ldigL L i w (form_of wo).2.2.1
    obtain ⟨k, hk⟩ : ∃ k : Nat, L = (k : Int) + 1 := ⟨(L - 1).toNat, by omega⟩
    have k5 : k < 5 := by omega
    have p0 : (0 : Int) ≤ (k : Int) := by omega
    have p1 : (k : Int) < 5 := by omega
    have kk : L - 1 = (k : Int) := by omega
    have z1 := s4_size y
    have z2 := sgn_bd ll
    have z3 := sd_size L i
    have z4 := dgc_bd L
    have E : Hid (s4 y ++ sgn L ++ sd L i = s) := Lib.hid hs.symm
    have HK := Lib.hid hk
    clear wo hs ll hk
    go_enter Tryd.func10, Tryd.ntmps10
    go_upto_region 1 with fail
    generalize w.alloc (.cells #[.int .i64 L, .int .i64 y, .int .i64 i] 23) = W0 at *
    obtain ⟨_, u0, u1, u2, _, _, _⟩ := id U
    go_wp2_with fail
    refine (cc _ T).mono ?_
    rintro e w1 ⟨rfl, hb⟩
    replace U := U.kept hb
    replace T := T.kept hb
    replace B := bthen B hb
    clear hb cc u0 u1 u2
    obtain ⟨_, u0, u1, u2, _, _, _⟩ := id U
    obtain ⟨r0, r1, r2, r3⟩ := T.row k k5
    rw [← HK.out] at r0 r1 r2 r3
    clear HK
    generalize lname L = nm at *
    generalize sgn L = sg at *
    generalize dgc L = dd at *
    generalize most L = mo at *
    generalize s4 y = a at *
    generalize sd L i = d at *
    go_wp2
    have X := Box.new w1 #[.string nm, .string sg, .int .i64 (dd : Int), .int .i64 mo] 41
    replace U := U.alloc (.cells #[.string nm, .string sg, .int .i64 (dd : Int), .int .i64 mo] 41)
    replace B := balloc B (.cells #[.string nm, .string sg, .int .i64 (dd : Int), .int .i64 mo] 41)
    generalize w1.alloc (.cells #[.string nm, .string sg, .int .i64 (dd : Int), .int .i64 mo] 41) = W1 at *
    clear u0 u1 u2 r0 r1 r2 r3 T
    obtain ⟨_, u0, u1, u2, _, _, _⟩ := id U
    have x1 := X.cell 1 _ rfl
    have x2 := X.cell 2 _ rfl
    have E1 := E.out
    obtain ⟨t, ht⟩ : ∃ t, t = a ++ sg := ⟨_, rfl⟩
    rw [← ht] at E1
    have zt : t.size = a.size + sg.size := by rw [ht, ByteArray.size_append]
    have a1 : ∀ w, (Op.stringOp .add a sg).run Tryd.prog w = .ok (.string t) w := fun w => by rw [ht]; exact run_string_add_sum w _ _ (by omega)
    have a2 : ∀ w, (Op.stringOp .add t d).run Tryd.prog w = .ok (.string s) w := fun w => by rw [← E1]; exact run_string_add_sum w _ _ (by omega)
    clear ht E1 E zt
    have qA := fun d os => Calls.regrown_of (cA (Go.Sort.grow (redrawn W1 d) os))
    have qB := fun d os => Calls.regrown_of (cB (Go.Sort.grow (redrawn W1 d) os))
    have k1 := cell_regrown u1
    have k2 := cell_regrown u2
    have k3 := cell_regrown x1
    have k4 := cell_regrown x2
    refine wp_region_quiet_below (by kernel_rfl) (by kernel_rfl) ?_
    repeat (quiet_step (first | (with_reducible exact qA _ _) | (with_reducible exact qB _ _)))
    refine wpQuiet_nil ?_
    intro _ hw'
    obtain ⟨⟨dq, osq⟩, hw''⟩ := hw'
    subst hw''
    have hb := below_regrown W1 dq osq
    generalize Go.Sort.grow (redrawn W1 dq) osq = w9 at hb ⊢
    go_wp2
    go_ret2
    exact ⟨rfl, bthen B hb⟩
  · have cc := fun w T => can_any L y i false w (decide_eq_false no).symm T
    clear no
    go_enter Tryd.func10, Tryd.ntmps10
    go_upto_region 1 with fail
    generalize w.alloc (.cells #[.int .i64 L, .int .i64 y, .int .i64 i] 23) = W0 at *
    obtain ⟨_, u0, u1, u2, _, _, _⟩ := id U
    go_wp2_with fail
    refine (cc _ T).mono ?_
    rintro e w1 ⟨rfl, hb⟩
    go_wp2
    go_ret2
    exact ⟨rfl, bthen B hb⟩

end Go.Proofs.YtfjckgnclhpmcaaDoor.Np
