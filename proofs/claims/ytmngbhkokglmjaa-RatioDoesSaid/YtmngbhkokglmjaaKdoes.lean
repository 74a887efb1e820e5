/- RatioDoes' walk: the program and the reference come to the same. -/
import Derived.Test.YtmngbhkokglmjaaQlive
import Derived.Test.YtmngbhkokglmjaaKops
import Derived.Test.YtmngbhkokglmjaaKmake
namespace Go.Proofs.Ytmngbhkokglmjaa.Kc
open Go.RowKit Go.Proofs.Ytmngbhkokglmjaa.Vm Go.Proofs.Ytmngbhkokglmjaa.Vc Go.Proofs.Ytmngbhkokglmjaa.Pr Go.Proofs.Ytmngbhkokglmjaa.Qm Go.Proofs.Ytmngbhkokglmjaa.Qc

set_option maxHeartbeats 2000000

theorem does_walk (a b c d : Int) (w : World) (wa : (Lit.int .i64 a).wf = true) (wb : (Lit.int .i64 b).wf = true) (wc : (Lit.int .i64 c).wf = true) (wd : (Lit.int .i64 d).wf = true) :
    Calls Try.prog 3 #[.agg #[.int .i64 a, .int .i64 b], .agg #[.int .i64 c, .int .i64 d]] w fun e w' => e = .returned (.bool true) ∧ Below w.heap.size w w' := by
  have fa : Fit1 a := bounds_i64 wa
  have fb : Fit1 b := bounds_i64 wb
  have fc : Fit1 c := bounds_i64 wc
  have fd : Fit1 d := bounds_i64 wd
  clear wa wb wc wd
  have cl := Ql.live_ok
  obtain ⟨sN, sD, se, r1⟩ := opres_ex (a := a) (b := b) (c := c) (d := d) (n := a * d + c * b) (m := b * d) low_ne
  obtain ⟨dN, dD, de, r2⟩ := opres_ex (a := a) (b := b) (c := c) (d := d) (n := a * d - c * b) (m := b * d) low_ne
  obtain ⟨pN, pD, pe, r3⟩ := opres_ex (a := a) (b := b) (c := c) (d := d) (n := a * c) (m := b * d) low_ne
  obtain ⟨qN, qD, qe, r4⟩ := divres2_ex a b c d
  have ca := fun w => Add_op a b c d sN sD se w fa fb fc fd r1
  have ra := fun w => rAdd_op a b c d sN sD se w fa fb fc fd r1
  have cs := fun w => Sub_op a b c d dN dD de w fa fb fc fd r2
  have rs := fun w => rSub_op a b c d dN dD de w fa fb fc fd r2
  have cp := fun w => Mul_op a b c d pN pD pe w fa fb fc fd r3
  have rp := fun w => rMul_op a b c d pN pD pe w fa fb fc fd r3
  have cq := fun w => Div_op a b c d qN qD qe w fa fb fc fd r4
  have rq := fun w => rDiv_op a b c d qN qD qe w fa fb fc fd r4
  clear r1 r2 r3 r4 fa fb fc fd
  go_enter Try.func3, Try.ntmps3
  go_wp2_with fail
  refine (cl _).mono ?_
  rintro e w1 ⟨rfl, hb⟩
  have P1 := (((Two.new w (.int .i64 a) (.int .i64 b) 23)).alloc (.cells #[.int .i64 c, .int .i64 d] 23)).kept hb
  have P2 := (Two.new (w.alloc (.cells #[.int .i64 a, .int .i64 b] 23)) (.int .i64 c) (.int .i64 d) 23).kept hb
  have B1 := bthen (balloc (balloc (Below.refl _ w) _) _) hb
  try simp only [World.size_alloc] at P1 P2
  clear hb
  obtain ⟨z0, c00, c01, _, _⟩ := id P1
  obtain ⟨z1, c10, c11, _, _⟩ := id P2
  go_wp2_with fail
  refine (ca _).mono ?_
  rintro e w2 ⟨rfl, hb⟩
  replace P1 := (P1).kept hb
  replace P2 := (P2).kept hb
  replace B1 := bthen (B1) hb
  clear hb z0 c00 c01 z1 c10 c11
  obtain ⟨z0, c00, c01, _, _⟩ := id P1
  obtain ⟨z1, c10, c11, _, _⟩ := id P2
  have n1 := Nat.ne_of_lt P1.lt
  have n2 := Nat.ne_of_lt P2.lt
  have hs1 := Nat.le_of_lt P1.lt
  go_wp2_with fail
  refine (ra _).mono ?_
  rintro e w3 ⟨rfl, hb⟩
  replace P1 := ((P1).alloc (.cells #[.int .i64 sN, .int .i64 sD] 23)).kept hb
  replace P2 := ((P2).alloc (.cells #[.int .i64 sN, .int .i64 sD] 23)).kept hb
  have Q1 := (Two.new w2 (.int .i64 sN) (.int .i64 sD) 23).kept hb
  replace B1 := bthen (balloc (B1) _) hb
  try simp only [World.size_alloc] at P1 P2 Q1
  clear hb z0 c00 c01 z1 c10 c11
  obtain ⟨z0, c00, c01, _, _⟩ := id P1
  obtain ⟨z1, c10, c11, _, _⟩ := id P2
  obtain ⟨z2, c20, c21, _, _⟩ := id Q1
  have n3 := Nat.ne_of_lt P1.lt
  have n4 := Nat.ne_of_lt P2.lt
  have n5 := Nat.ne_of_lt Q1.lt
  have hs2 := Nat.le_of_lt P1.lt
  have m1 := n1.symm
  have m2 := n2.symm
  have m3 := n3.symm
  have m4 := n4.symm
  have m5 := n5.symm
  go_wp2_with fail
  refine (cs _).mono ?_
  rintro e w4 ⟨rfl, hb⟩
  replace P1 := ((P1).alloc (.cells #[.int .i64 sN, .int .i64 sD] 23)).kept hb
  replace P2 := ((P2).alloc (.cells #[.int .i64 sN, .int .i64 sD] 23)).kept hb
  replace Q1 := ((Q1).alloc (.cells #[.int .i64 sN, .int .i64 sD] 23)).kept hb
  have Q2 := (Two.new w3 (.int .i64 sN) (.int .i64 sD) 23).kept hb
  replace B1 := bthen (balloc (B1) _) hb
  try simp only [World.size_alloc] at P1 P2 Q1 Q2
  clear hb z0 c00 c01 z1 c10 c11 z2 c20 c21
  obtain ⟨z0, c00, c01, _, _⟩ := id P1
  obtain ⟨z1, c10, c11, _, _⟩ := id P2
  obtain ⟨z2, c20, c21, _, _⟩ := id Q1
  obtain ⟨z3, c30, c31, _, _⟩ := id Q2
  clear z0 c00 c01 z1 c10 c11 z2 c20 c21 z3 c30 c31
  obtain ⟨z0, c00, c01, f00, f01⟩ := id P1
  obtain ⟨z1, c10, c11, f10, f11⟩ := id P2
  obtain ⟨z2, c20, c21, f20, f21⟩ := id Q1
  obtain ⟨z3, c30, c31, f30, f31⟩ := id Q2
  go_wp2_with fail
  replace P1 := (P1.other (g := w2.heap.size) 0 (.int .i64 dN) n1).other (g := w2.heap.size) 1 (.int .i64 dD) n1
  replace P2 := (P2.other (g := w2.heap.size) 0 (.int .i64 dN) n2).other (g := w2.heap.size) 1 (.int .i64 dD) n2
  replace Q1 := (Q1.set0 (.int .i64 dN)).set1 (.int .i64 dD)
  replace Q2 := (Q2.other (g := w2.heap.size) 0 (.int .i64 dN) m5).other (g := w2.heap.size) 1 (.int .i64 dD) m5
  replace B1 := bset (bset B1 hs1 0 (.int .i64 dN)) hs1 1 (.int .i64 dD)
  generalize (w4.setCell ⟨w2.heap.size, 0, none⟩ (.int .i64 dN)).setCell ⟨w2.heap.size, 1, none⟩ (.int .i64 dD) = V4 at *
  clear z0 c00 c01 f00 f01 z1 c10 c11 f10 f11 z2 c20 c21 f20 f21 z3 c30 c31 f30 f31
  refine (rs _).mono ?_
  rintro e w5 ⟨rfl, hb⟩
  replace P1 := P1.kept hb
  replace P2 := P2.kept hb
  replace Q1 := Q1.kept hb
  replace Q2 := Q2.kept hb
  replace B1 := bthen B1 hb
  clear hb
  obtain ⟨z0, c00, c01, f00, f01⟩ := id P1
  obtain ⟨z1, c10, c11, f10, f11⟩ := id P2
  obtain ⟨z2, c20, c21, f20, f21⟩ := id Q1
  obtain ⟨z3, c30, c31, f30, f31⟩ := id Q2
  go_wp2_with fail
  replace P1 := (P1.other (g := w3.heap.size) 0 (.int .i64 dN) n3).other (g := w3.heap.size) 1 (.int .i64 dD) n3
  replace P2 := (P2.other (g := w3.heap.size) 0 (.int .i64 dN) n4).other (g := w3.heap.size) 1 (.int .i64 dD) n4
  replace Q1 := (Q1.other (g := w3.heap.size) 0 (.int .i64 dN) n5).other (g := w3.heap.size) 1 (.int .i64 dD) n5
  replace Q2 := (Q2.set0 (.int .i64 dN)).set1 (.int .i64 dD)
  replace B1 := bset (bset B1 hs2 0 (.int .i64 dN)) hs2 1 (.int .i64 dD)
  generalize (w5.setCell ⟨w3.heap.size, 0, none⟩ (.int .i64 dN)).setCell ⟨w3.heap.size, 1, none⟩ (.int .i64 dD) = V5 at *
  clear z0 c00 c01 f00 f01 z1 c10 c11 f10 f11 z2 c20 c21 f20 f21 z3 c30 c31 f30 f31
  refine (cp _).mono ?_
  rintro e w6 ⟨rfl, hb⟩
  replace P1 := P1.kept hb
  replace P2 := P2.kept hb
  replace Q1 := Q1.kept hb
  replace Q2 := Q2.kept hb
  replace B1 := bthen B1 hb
  clear hb
  obtain ⟨z0, c00, c01, f00, f01⟩ := id P1
  obtain ⟨z1, c10, c11, f10, f11⟩ := id P2
  obtain ⟨z2, c20, c21, f20, f21⟩ := id Q1
  obtain ⟨z3, c30, c31, f30, f31⟩ := id Q2
  go_wp2_with fail
  replace P1 := (P1.other (g := w2.heap.size) 0 (.int .i64 pN) n1).other (g := w2.heap.size) 1 (.int .i64 pD) n1
  replace P2 := (P2.other (g := w2.heap.size) 0 (.int .i64 pN) n2).other (g := w2.heap.size) 1 (.int .i64 pD) n2
  replace Q1 := (Q1.set0 (.int .i64 pN)).set1 (.int .i64 pD)
  replace Q2 := (Q2.other (g := w2.heap.size) 0 (.int .i64 pN) m5).other (g := w2.heap.size) 1 (.int .i64 pD) m5
  replace B1 := bset (bset B1 hs1 0 (.int .i64 pN)) hs1 1 (.int .i64 pD)
  generalize (w6.setCell ⟨w2.heap.size, 0, none⟩ (.int .i64 pN)).setCell ⟨w2.heap.size, 1, none⟩ (.int .i64 pD) = V6 at *
  clear z0 c00 c01 f00 f01 z1 c10 c11 f10 f11 z2 c20 c21 f20 f21 z3 c30 c31 f30 f31
  refine (rp _).mono ?_
  rintro e w7 ⟨rfl, hb⟩
  replace P1 := P1.kept hb
  replace P2 := P2.kept hb
  replace Q1 := Q1.kept hb
  replace Q2 := Q2.kept hb
  replace B1 := bthen B1 hb
  clear hb
  obtain ⟨z0, c00, c01, f00, f01⟩ := id P1
  obtain ⟨z1, c10, c11, f10, f11⟩ := id P2
  obtain ⟨z2, c20, c21, f20, f21⟩ := id Q1
  obtain ⟨z3, c30, c31, f30, f31⟩ := id Q2
  go_wp2_with fail
  replace P1 := (P1.other (g := w3.heap.size) 0 (.int .i64 pN) n3).other (g := w3.heap.size) 1 (.int .i64 pD) n3
  replace P2 := (P2.other (g := w3.heap.size) 0 (.int .i64 pN) n4).other (g := w3.heap.size) 1 (.int .i64 pD) n4
  replace Q1 := (Q1.other (g := w3.heap.size) 0 (.int .i64 pN) n5).other (g := w3.heap.size) 1 (.int .i64 pD) n5
  replace Q2 := (Q2.set0 (.int .i64 pN)).set1 (.int .i64 pD)
  replace B1 := bset (bset B1 hs2 0 (.int .i64 pN)) hs2 1 (.int .i64 pD)
  generalize (w7.setCell ⟨w3.heap.size, 0, none⟩ (.int .i64 pN)).setCell ⟨w3.heap.size, 1, none⟩ (.int .i64 pD) = V7 at *
  clear z0 c00 c01 f00 f01 z1 c10 c11 f10 f11 z2 c20 c21 f20 f21 z3 c30 c31 f30 f31
  refine (cq _).mono ?_
  rintro e w8 ⟨rfl, hb⟩
  replace P1 := P1.kept hb
  replace P2 := P2.kept hb
  replace Q1 := Q1.kept hb
  replace Q2 := Q2.kept hb
  replace B1 := bthen B1 hb
  clear hb
  obtain ⟨z0, c00, c01, f00, f01⟩ := id P1
  obtain ⟨z1, c10, c11, f10, f11⟩ := id P2
  obtain ⟨z2, c20, c21, f20, f21⟩ := id Q1
  obtain ⟨z3, c30, c31, f30, f31⟩ := id Q2
  go_wp2_with fail
  replace P1 := (P1.other (g := w2.heap.size) 0 (.int .i64 qN) n1).other (g := w2.heap.size) 1 (.int .i64 qD) n1
  replace P2 := (P2.other (g := w2.heap.size) 0 (.int .i64 qN) n2).other (g := w2.heap.size) 1 (.int .i64 qD) n2
  replace Q1 := (Q1.set0 (.int .i64 qN)).set1 (.int .i64 qD)
  replace Q2 := (Q2.other (g := w2.heap.size) 0 (.int .i64 qN) m5).other (g := w2.heap.size) 1 (.int .i64 qD) m5
  replace B1 := bset (bset B1 hs1 0 (.int .i64 qN)) hs1 1 (.int .i64 qD)
  generalize (w8.setCell ⟨w2.heap.size, 0, none⟩ (.int .i64 qN)).setCell ⟨w2.heap.size, 1, none⟩ (.int .i64 qD) = V8 at *
  clear z0 c00 c01 f00 f01 z1 c10 c11 f10 f11 z2 c20 c21 f20 f21 z3 c30 c31 f30 f31
  refine (rq _).mono ?_
  rintro e w9 ⟨rfl, hb⟩
  replace P1 := P1.kept hb
  replace P2 := P2.kept hb
  replace Q1 := Q1.kept hb
  replace Q2 := Q2.kept hb
  replace B1 := bthen B1 hb
  clear hb
  obtain ⟨z0, c00, c01, f00, f01⟩ := id P1
  obtain ⟨z1, c10, c11, f10, f11⟩ := id P2
  obtain ⟨z2, c20, c21, f20, f21⟩ := id Q1
  obtain ⟨z3, c30, c31, f30, f31⟩ := id Q2
  go_wp2
  go_ret
  exact ⟨by simp, bset (bset B1 hs2 _ _) hs2 _ _⟩

end Go.Proofs.Ytmngbhkokglmjaa.Kc
