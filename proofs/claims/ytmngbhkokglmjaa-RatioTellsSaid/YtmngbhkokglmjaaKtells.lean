/- RatioTells' walk: the program and the reference come to the same. -/
import Derived.Test.YtmngbhkokglmjaaQlive
import Derived.Test.YtmngbhkokglmjaaKops
import Derived.Test.YtmngbhkokglmjaaKmake
namespace Go.Proofs.Ytmngbhkokglmjaa.Kc
open Go.RowKit Go.Proofs.Ytmngbhkokglmjaa.Vm Go.Proofs.Ytmngbhkokglmjaa.Vc Go.Proofs.Ytmngbhkokglmjaa.Pr Go.Proofs.Ytmngbhkokglmjaa.Qm Go.Proofs.Ytmngbhkokglmjaa.Qc

set_option maxHeartbeats 2000000

theorem tells_walk (n m a b c d : Int) (w : World) (wn : (Lit.int .i64 n).wf = true) (wm : (Lit.int .i64 m).wf = true) (wa : (Lit.int .i64 a).wf = true) (wb : (Lit.int .i64 b).wf = true) (wc : (Lit.int .i64 c).wf = true) (wd : (Lit.int .i64 d).wf = true) :
    Calls Try.prog 4 #[.int .i64 n, .int .i64 m, .agg #[.int .i64 a, .int .i64 b], .agg #[.int .i64 c, .int .i64 d]] w fun e w' => e = .returned (.bool true) ∧ Below w.heap.size w w' := by
  have fn : Fit1 n := bounds_i64 wn
  have fm : Fit1 m := bounds_i64 wm
  have fa : Fit1 a := bounds_i64 wa
  have fb : Fit1 b := bounds_i64 wb
  have fc : Fit1 c := bounds_i64 wc
  have fd : Fit1 d := bounds_i64 wd
  clear wn wm wa wb wc wd
  have cl := Ql.live_ok
  obtain ⟨mN, mD, me, r1⟩ := makeres_ex n m
  obtain ⟨cv', ce', r2⟩ := cmpres_ex a b c d
  obtain ⟨fv, fe, r3⟩ := floorres_ex a b
  obtain ⟨ev, ee, r4⟩ := ceilres_ex a b
  have cm := fun w => Make_any n m mN mD me w fn fm r1
  have rm := fun w => rMake_any n m mN mD me w fn fm r1
  have cc := fun w => Cmp_op a b c d cv' ce' w fa fb fc fd r2
  have rc := fun w => rCmp_op a b c d cv' ce' w fa fb fc fd r2
  have cf := fun w => Floor_any a b fv fe w fa fb r3
  have rf := fun w => rFloor_any a b fv fe w fa fb r3
  have ce := fun w => Ceil_any a b ev ee w fa fb r4
  have re := fun w => rCeil_any a b ev ee w fa fb r4
  have O : ∃ kv : Int, (∀ w, Calls Try.prog 28 #[.agg #[.int .i64 a, .int .i64 b]] w fun e w' => e = .returned (.int .i64 kv) ∧ Below w.heap.size w w') ∧
      ∀ w, Calls Try.prog 29 #[.agg #[.int .i64 a, .int .i64 b]] w fun e w' => e = .returned (.int .i64 kv) ∧ Below w.heap.size w w' := by
    by_cases L : Low a b
    · exact ⟨0, fun w => Check_yes a b w fa fb L, fun w => rCheck_yes a b w fa fb L⟩
    · exact ⟨1, fun w => Check_no a b w fa fb L, fun w => rCheck_no a b w fa fb L⟩
  obtain ⟨kv, ck, rk⟩ := O
  clear r1 r2 r3 r4 fn fm fa fb fc fd
  go_enter Try.func4, Try.ntmps4
  go_wp2_with fail
  refine (cl _).mono ?_
  rintro e w1 ⟨rfl, hb⟩
  have P1 := (((Two.new w (.int .i64 a) (.int .i64 b) 23)).alloc (.cells #[.int .i64 c, .int .i64 d] 23)).kept hb
  have P2 := (Two.new (w.alloc (.cells #[.int .i64 a, .int .i64 b] 23)) (.int .i64 c) (.int .i64 d) 23).kept hb
  have B1 := bthen (balloc (balloc (Below.refl _ w) _) _) hb
  try simp only [World.size_alloc] at P1 P2
  clear hb
  obtain ⟨z0, c00, c01, _, _⟩ := id P1
  obtain ⟨z1, c10, c11, _, _⟩ := id P2
  go_wp2_with fail
  refine (cm _).mono ?_
  rintro e w2 ⟨rfl, hb⟩
  replace P1 := (P1).kept hb
  replace P2 := (P2).kept hb
  replace B1 := bthen (B1) hb
  clear hb z0 c00 c01 z1 c10 c11
  obtain ⟨z0, c00, c01, _, _⟩ := id P1
  obtain ⟨z1, c10, c11, _, _⟩ := id P2
  go_wp2_with fail
  refine (rm _).mono ?_
  rintro e w3 ⟨rfl, hb⟩
  replace P1 := ((P1).alloc (.cells #[.int .i64 mN, .int .i64 mD] 23)).kept hb
  replace P2 := ((P2).alloc (.cells #[.int .i64 mN, .int .i64 mD] 23)).kept hb
  have Q1 := (Two.new w2 (.int .i64 mN) (.int .i64 mD) 23).kept hb
  replace B1 := bthen (balloc (B1) _) hb
  try simp only [World.size_alloc] at P1 P2 Q1
  clear hb z0 c00 c01 z1 c10 c11
  obtain ⟨z0, c00, c01, _, _⟩ := id P1
  obtain ⟨z1, c10, c11, _, _⟩ := id P2
  obtain ⟨z2, c20, c21, _, _⟩ := id Q1
  go_wp2_with fail
  refine (cc _).mono ?_
  rintro e w4 ⟨rfl, hb⟩
  replace P1 := ((P1).alloc (.cells #[.int .i64 mN, .int .i64 mD] 23)).kept hb
  replace P2 := ((P2).alloc (.cells #[.int .i64 mN, .int .i64 mD] 23)).kept hb
  replace Q1 := ((Q1).alloc (.cells #[.int .i64 mN, .int .i64 mD] 23)).kept hb
  have Q2 := (Two.new w3 (.int .i64 mN) (.int .i64 mD) 23).kept hb
  replace B1 := bthen (balloc (B1) _) hb
  try simp only [World.size_alloc] at P1 P2 Q1 Q2
  clear hb z0 c00 c01 z1 c10 c11 z2 c20 c21
  obtain ⟨z0, c00, c01, _, _⟩ := id P1
  obtain ⟨z1, c10, c11, _, _⟩ := id P2
  obtain ⟨z2, c20, c21, _, _⟩ := id Q1
  obtain ⟨z3, c30, c31, _, _⟩ := id Q2
  go_wp2_with fail
  refine (rc _).mono ?_
  rintro e w5 ⟨rfl, hb⟩
  replace P1 := (P1).kept hb
  replace P2 := (P2).kept hb
  replace Q1 := (Q1).kept hb
  replace Q2 := (Q2).kept hb
  replace B1 := bthen (B1) hb
  clear hb z0 c00 c01 z1 c10 c11 z2 c20 c21 z3 c30 c31
  obtain ⟨z0, c00, c01, _, _⟩ := id P1
  obtain ⟨z1, c10, c11, _, _⟩ := id P2
  obtain ⟨z2, c20, c21, _, _⟩ := id Q1
  obtain ⟨z3, c30, c31, _, _⟩ := id Q2
  go_wp2_with fail
  refine (cf _).mono ?_
  rintro e w6 ⟨rfl, hb⟩
  replace P1 := (P1).kept hb
  replace P2 := (P2).kept hb
  replace Q1 := (Q1).kept hb
  replace Q2 := (Q2).kept hb
  replace B1 := bthen (B1) hb
  clear hb z0 c00 c01 z1 c10 c11 z2 c20 c21 z3 c30 c31
  obtain ⟨z0, c00, c01, _, _⟩ := id P1
  obtain ⟨z1, c10, c11, _, _⟩ := id P2
  obtain ⟨z2, c20, c21, _, _⟩ := id Q1
  obtain ⟨z3, c30, c31, _, _⟩ := id Q2
  go_wp2_with fail
  refine (rf _).mono ?_
  rintro e w7 ⟨rfl, hb⟩
  replace P1 := (P1).kept hb
  replace P2 := (P2).kept hb
  replace Q1 := (Q1).kept hb
  replace Q2 := (Q2).kept hb
  replace B1 := bthen (B1) hb
  clear hb z0 c00 c01 z1 c10 c11 z2 c20 c21 z3 c30 c31
  obtain ⟨z0, c00, c01, _, _⟩ := id P1
  obtain ⟨z1, c10, c11, _, _⟩ := id P2
  obtain ⟨z2, c20, c21, _, _⟩ := id Q1
  obtain ⟨z3, c30, c31, _, _⟩ := id Q2
  go_wp2_with fail
  refine (ce _).mono ?_
  rintro e w8 ⟨rfl, hb⟩
  replace P1 := (P1).kept hb
  replace P2 := (P2).kept hb
  replace Q1 := (Q1).kept hb
  replace Q2 := (Q2).kept hb
  replace B1 := bthen (B1) hb
  clear hb z0 c00 c01 z1 c10 c11 z2 c20 c21 z3 c30 c31
  obtain ⟨z0, c00, c01, _, _⟩ := id P1
  obtain ⟨z1, c10, c11, _, _⟩ := id P2
  obtain ⟨z2, c20, c21, _, _⟩ := id Q1
  obtain ⟨z3, c30, c31, _, _⟩ := id Q2
  go_wp2_with fail
  refine (re _).mono ?_
  rintro e w9 ⟨rfl, hb⟩
  replace P1 := (P1).kept hb
  replace P2 := (P2).kept hb
  replace Q1 := (Q1).kept hb
  replace Q2 := (Q2).kept hb
  replace B1 := bthen (B1) hb
  clear hb z0 c00 c01 z1 c10 c11 z2 c20 c21 z3 c30 c31
  obtain ⟨z0, c00, c01, _, _⟩ := id P1
  obtain ⟨z1, c10, c11, _, _⟩ := id P2
  obtain ⟨z2, c20, c21, _, _⟩ := id Q1
  obtain ⟨z3, c30, c31, _, _⟩ := id Q2
  have H := Lib.hid (fun (W : World) (h : Below w9.heap.size w9 W) => held3 P1 Q1 Q2 h)
  clear cl cm rm cc rc cf rf ce re P1 P2 Q1 Q2
  go_wp2
  go_region_held3 (fun w' => Below w9.heap.size w9 w' ∧ w'.cell? ⟨w.heap.size, 0, none⟩ = some (.int .i64 a) ∧ w'.cell? ⟨w.heap.size, 1, none⟩ = some (.int .i64 b) ∧ w'.cell? ⟨w2.heap.size, 0, none⟩ = some (.int .i64 mN) ∧ w'.cell? ⟨w2.heap.size, 1, none⟩ = some (.int .i64 mD) ∧ w'.cell? ⟨w3.heap.size, 0, none⟩ = some (.int .i64 mN) ∧ w'.cell? ⟨w3.heap.size, 1, none⟩ = some (.int .i64 mD))
    ((refine H.out _ ?_; first | (with_reducible assumption) | exact (Below.refl _ _).drew))
    (first
      | (go_at_call 28; (with_reducible refine (ck _).mono ?_); rintro e w20 ⟨rfl, hb⟩; have hB := bthen (w := w9) (by first | (with_reducible assumption) | (with_reducible exact Below.refl _ _) | exact (Below.refl _ _).drew) hb)
      | (go_at_call 29; (with_reducible refine (rk _).mono ?_); rintro e w20 ⟨rfl, hb⟩; have hB := bthen (w := w9) (by first | (with_reducible assumption) | (with_reducible exact Below.refl _ _) | exact (Below.refl _ _).drew) hb))
  all_goals go_wp2
  all_goals
    go_ret
    exact ⟨by simp, bthen B1 hB⟩

end Go.Proofs.Ytmngbhkokglmjaa.Kc
