/- live of layer 7. -/
import Derived.Test.YtodpmdmfdnbehaaDoorTcode3
import Derived.Test.YtodpmdmfdnbehaaDoorTlaw
import Derived.OpenShut
namespace Go.Proofs.YtodpmdmfdnbehaaDoor.Tl
set_option linter.unusedSimpArgs false
set_option linter.unusedVariables false
open Go.RowKit Go.Proofs.YtodpmdmfdnbehaaDoor.Bx Go.Proofs.YtodpmdmfdnbehaaDoor.Cm Go.Proofs.YtodpmdmfdnbehaaDoor.Cp Go.Proofs.YtodpmdmfdnbehaaDoor.Em Go.Proofs.YtodpmdmfdnbehaaDoor.Ep Go.Proofs.YtodpmdmfdnbehaaDoor.Tm Go.Proofs.YtodpmdmfdnbehaaDoor.Tp

set_option maxHeartbeats 1000000

/-! the same, each asking for both tables -/
theorem Parse_t (s : ByteArray) (v er : Int) (w : World) (hm : s.size ≤ maxLen) (R : PaRes s v er) (T : Tabs w) :
    Calls Tryd.prog 33 #[.string s] w fun e w' => e = .returned (.tuple #[.int .i64 v, .int .i64 er]) ∧ Below w.heap.size w w' := Parse_any s v er w hm R T.tab
theorem ParseIso_t (s : ByteArray) (v er : Int) (w : World) (hm : s.size ≤ maxLen) (R : PsRes s v er) (T : Tabs w) :
    Calls Tryd.prog 37 #[.string s] w fun e w' => e = .returned (.tuple #[.int .i64 v, .int .i64 er]) ∧ Below w.heap.size w w' := ParseIso_any s v er w hm R T.tab

theorem tlive_ok (w : World) (tb : Tabs w) : Calls Tryd.prog 30 #[] w fun e w' => e = .returned (.bool true) ∧ Below w.heap.size w w' := by
  have e1 : dstr 2000 2 29 = ⟨#[50, 48, 48, 48, 45, 48, 50, 45, 50, 57]⟩ := rfl
  have e2 : istr 2000 9 2 = ⟨#[50, 48, 48, 48, 45, 87, 48, 57, 45, 50]⟩ := rfl
  have c1 := fun w => Print_any 146156 ⟨#[50, 48, 48, 48, 45, 48, 50, 45, 50, 57]⟩ 0 w (.inl ⟨by omega, by omega, 2000, 2, 29, ⟨⟨by omega, by omega, by omega, by omega⟩, by omega, by decide⟩, by decide, e1.symm, rfl⟩)
  have c2 := fun w => PrintIso_any 146156 ⟨#[50, 48, 48, 48, 45, 87, 48, 57, 45, 50]⟩ 0 w (.inl ⟨by omega, by omega, 2000, 9, 2, ⟨by omega, by omega, by omega, by decide, by omega, by omega, by decide, by decide⟩, by decide, e2.symm, rfl⟩)
  clear e1 e2
  go_enter Tryd.func30, Tryd.ntmps30
  go_wp2_with fail
  refine (c1 _ (by with_reducible first | exact tb.kept B1 | exact tb)).mono ?_
  rintro e w1 ⟨rfl, hb⟩
  have B1 := bthen (Below.refl _ w) hb
  clear hb
  go_wp2_with fail
  refine (c2 _ (by with_reducible first | exact tb.kept B1 | exact tb)).mono ?_
  rintro e w2 ⟨rfl, hb⟩
  replace B1 := bthen (B1) hb
  clear hb
  go_wp2
  go_ret
  exact ⟨by simp <;> omega, B1⟩

end Go.Proofs.YtodpmdmfdnbehaaDoor.Tl
