/- LabelDoes' walk. -/
import Derived.Test.YtfjckgnclhpmcaaDoorNref3
import Derived.Test.YtfjckgnclhpmcaaDoorNlive
namespace Go.Proofs.YtfjckgnclhpmcaaDoor.Nl
set_option linter.unusedSimpArgs false
set_option linter.unusedVariables false
open Go.RowKit Go.Proofs.YtfjckgnclhpmcaaDoor.Pr Go.Proofs.YtfjckgnclhpmcaaDoor.Nm Go.Proofs.YtfjckgnclhpmcaaDoor.Wm Go.Proofs.YtfjckgnclhpmcaaDoor.Wc Go.Proofs.YtfjckgnclhpmcaaDoor.Bx Go.Proofs.YtfjckgnclhpmcaaDoor.Fs Go.Proofs.YtfjckgnclhpmcaaDoor.Bn Go.Proofs.YtfjckgnclhpmcaaDoor.Np Go.Proofs.YtfjckgnclhpmcaaDoor.Nr

set_option maxHeartbeats 2000000

set_option maxRecDepth 100000 in
theorem does_walk (L y i : Int) (s : ByteArray) (w : World) (wL : (Lit.int .i64 L).wf = true) (wy : (Lit.int .i64 y).wf = true) (wi : (Lit.int .i64 i).wf = true) (ws : s.size ≤ maxLen) (tb : Lev w) :
    Calls Tryd.prog 3 #[.agg #[.int .i64 L, .int .i64 y, .int .i64 i], .string s] w fun e w' => e = .returned (.bool true) ∧ Below w.heap.size w w' := by
  have T := tb
  have U := Tri.new w (.int .i64 L) (.int .i64 y) (.int .i64 i) 23
  replace T := T.alloc (.cells #[.int .i64 L, .int .i64 y, .int .i64 i] 23)
  have B := balloc (Below.refl _ w) (.cells #[.int .i64 L, .int .i64 y, .int .i64 i] 23)
  obtain ⟨t, e1, P1⟩ := printa_ex L y i
  obtain ⟨M, z, j, e2, P2⟩ := parsea_ex s
  obtain ⟨n, e3, P3⟩ := levela_ex s
  have c1 := fun w T => LPrint_any L y i t e1 w P1 T
  have c2 := fun w => rPrint_any L y i t e1 w P1
  have c3 := fun w T => LParse_any s M z j e2 w ws P2 T
  have c4 := fun w => rParse_any s M z j e2 w ws P2
  have c5 := fun w T => Level_any s n e3 w P3 T
  have c6 := fun w => rLevel_any s n e3 w P3
  clear P1 P2 P3 ws
  go_enter Tryd.func3, Tryd.ntmps3
  go_upto_region 1 with fail
  generalize w.alloc (.cells #[.int .i64 L, .int .i64 y, .int .i64 i] 23) = W0 at *
  go_wp2_with fail
  refine (nlive_ok _ T).mono ?_
  rintro e w1 ⟨rfl, hb⟩
  replace U := U.kept hb
  replace B := bthen B hb
  replace T := T.kept hb
  clear hb
  obtain ⟨_, u0, u1, u2, _, _, _⟩ := id U
  go_wp2_with fail
  refine (c1 _ T).mono ?_
  rintro e w2 ⟨rfl, hb⟩
  replace U := U.kept hb
  replace B := bthen B hb
  replace T := T.kept hb
  clear hb u0 u1 u2
  obtain ⟨_, u0, u1, u2, _, _, _⟩ := id U
  go_wp2_with fail
  refine (c2 _).mono ?_
  rintro e w3 ⟨rfl, hb⟩
  replace B := bthen B hb
  replace T := T.kept hb
  clear hb u0 u1 u2 U
  go_wp2_with fail
  refine (c3 _ T).mono ?_
  rintro e w4 ⟨rfl, hb⟩
  have V := Tri.new w4 (.int .i64 M) (.int .i64 z) (.int .i64 j) 23
  replace B := balloc (bthen B hb) (.cells #[.int .i64 M, .int .i64 z, .int .i64 j] 23)
  replace T := (T.kept hb).alloc (.cells #[.int .i64 M, .int .i64 z, .int .i64 j] 23)
  clear hb
  go_upto_region 6 with fail
  generalize w4.alloc (.cells #[.int .i64 M, .int .i64 z, .int .i64 j] 23) = W5 at *
  go_wp2_with fail
  refine (c4 _).mono ?_
  rintro e w6 ⟨rfl, hb⟩
  have N := Tri.new w6 (.int .i64 M) (.int .i64 z) (.int .i64 j) 23
  replace V := (V.kept hb).alloc (.cells #[.int .i64 M, .int .i64 z, .int .i64 j] 23)
  replace B := balloc (bthen B hb) (.cells #[.int .i64 M, .int .i64 z, .int .i64 j] 23)
  replace T := (T.kept hb).alloc (.cells #[.int .i64 M, .int .i64 z, .int .i64 j] 23)
  clear hb
  go_upto_region 7 with fail
  generalize w6.alloc (.cells #[.int .i64 M, .int .i64 z, .int .i64 j] 23) = W7 at *
  go_wp2_with fail
  refine (c5 _ T).mono ?_
  rintro e w8 ⟨rfl, hb⟩
  replace V := V.kept hb
  replace N := N.kept hb
  replace B := bthen B hb
  clear hb
  go_wp2_with fail
  refine (c6 _).mono ?_
  rintro e w9 ⟨rfl, hb⟩
  replace V := V.kept hb
  replace N := N.kept hb
  replace B := bthen B hb
  clear hb c1 c2 c3 c4 c5 c6
  obtain ⟨_, v0, v1, v2, _, _, _⟩ := id V
  obtain ⟨_, n0, n1, n2, _, _, _⟩ := id N
  go_wp2
  go_ret
  exact ⟨by simp, B⟩

end Go.Proofs.YtfjckgnclhpmcaaDoor.Nl
