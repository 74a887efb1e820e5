/- StampDoes' walk: the program and the reference come to the same. -/
import Derived.Test.YtodpmdmfdnbehaaDoorTlive
import Derived.Test.YtodpmdmfdnbehaaDoorTref3
namespace Go.Proofs.YtodpmdmfdnbehaaDoor.Tl
set_option linter.unusedSimpArgs false
set_option linter.unusedVariables false
open Go.RowKit Go.Proofs.YtodpmdmfdnbehaaDoor.Bx Go.Proofs.YtodpmdmfdnbehaaDoor.Cm Go.Proofs.YtodpmdmfdnbehaaDoor.Cp Go.Proofs.YtodpmdmfdnbehaaDoor.Em Go.Proofs.YtodpmdmfdnbehaaDoor.Ep Go.Proofs.YtodpmdmfdnbehaaDoor.Tm Go.Proofs.YtodpmdmfdnbehaaDoor.Tp

set_option maxHeartbeats 1000000

set_option maxRecDepth 100000 in
theorem sdoes_walk (n : Int) (s : ByteArray) (w : World) (wn : (Lit.int .i64 n).wf = true) (ws : s.size ≤ maxLen) (tb : Tabs w) :
    Calls Tryd.prog 10 #[.int .i64 n, .string s] w fun e w' => e = .returned (.bool true) ∧ Below w.heap.size w w' := by
  have cl := tlive_ok
  clear wn
  obtain ⟨a, e, r1⟩ := prres_ex n
  obtain ⟨v, g, r2⟩ := pares_ex s
  obtain ⟨c, i, r3⟩ := pires_ex n
  obtain ⟨x, k, r4⟩ := psres_ex s
  have c1 := fun w => Print_any n a e w r1
  have d1 := fun w => Tr.rPrint_any n a e w r1
  have c2 := fun w => Parse_t s v g w ws r2
  have d2 := fun w => Tr.rParse_any s v g w ws r2
  have c3 := fun w => PrintIso_any n c i w r3
  have d3 := fun w => Tr.rPrintIso_any n c i w r3
  have c4 := fun w => ParseIso_t s x k w ws r4
  have d4 := fun w => Tr.rParseIso_any s x k w ws r4
  clear r1 r2 r3 r4 ws
  go_enter Tryd.func10, Tryd.ntmps10
  go_wp2_with fail
  refine (cl _ (by with_reducible first | exact tb.kept B1 | exact tb)).mono ?_
  rintro e w1 ⟨rfl, hb⟩
  have B1 := bthen (Below.refl _ w) hb
  clear hb
  go_wp2_with fail
  refine (c1 _ (by with_reducible first | exact tb.kept B1 | exact tb)).mono ?_
  rintro e w2 ⟨rfl, hb⟩
  replace B1 := bthen (B1) hb
  clear hb
  go_wp2_with fail
  refine (d1 _).mono ?_
  rintro e w3 ⟨rfl, hb⟩
  replace B1 := bthen (B1) hb
  clear hb
  go_wp2_with fail
  refine (c2 _ (by with_reducible first | exact tb.kept B1 | exact tb)).mono ?_
  rintro e w4 ⟨rfl, hb⟩
  replace B1 := bthen (B1) hb
  clear hb
  go_wp2_with fail
  refine (d2 _).mono ?_
  rintro e w5 ⟨rfl, hb⟩
  replace B1 := bthen (B1) hb
  clear hb
  go_wp2_with fail
  refine (c3 _ (by with_reducible first | exact tb.kept B1 | exact tb)).mono ?_
  rintro e w6 ⟨rfl, hb⟩
  replace B1 := bthen (B1) hb
  clear hb
  go_wp2_with fail
  refine (d3 _).mono ?_
  rintro e w7 ⟨rfl, hb⟩
  replace B1 := bthen (B1) hb
  clear hb
  go_wp2_with fail
  refine (c4 _ (by with_reducible first | exact tb.kept B1 | exact tb)).mono ?_
  rintro e w8 ⟨rfl, hb⟩
  replace B1 := bthen (B1) hb
  clear hb
  go_wp2_with fail
  refine (d4 _).mono ?_
  rintro e w9 ⟨rfl, hb⟩
  replace B1 := bthen (B1) hb
  clear hb
  go_wp2
  go_ret
  exact ⟨by simp <;> omega, B1⟩

end Go.Proofs.YtodpmdmfdnbehaaDoor.Tl
