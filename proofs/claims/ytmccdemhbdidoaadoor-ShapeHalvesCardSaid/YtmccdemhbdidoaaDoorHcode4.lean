/- What endsFrom, Ends and Weeks of package shape come to. -/
import Derived.Test.YtmccdemhbdidoaaDoorHcode3
namespace Go.Proofs.YtmccdemhbdidoaaDoor.Hp
set_option linter.unusedSimpArgs false
set_option linter.unusedVariables false
open Go.RowKit Go.Proofs.YtmccdemhbdidoaaDoor.Bn Go.Proofs.YtmccdemhbdidoaaDoor.Bx Go.Proofs.YtmccdemhbdidoaaDoor.Cp Go.Proofs.YtmccdemhbdidoaaDoor.Am Go.Proofs.YtmccdemhbdidoaaDoor.Fp Go.Proofs.YtmccdemhbdidoaaDoor.Ap Go.Proofs.YtmccdemhbdidoaaDoor.Cm Go.Proofs.YtmccdemhbdidoaaDoor.Em Go.Proofs.YtmccdemhbdidoaaDoor.Ep Go.Proofs.YtmccdemhbdidoaaDoor.Rk

set_option maxHeartbeats 2000000

theorem hinfoN : (Tryd.prog.info? 3).map (fun i => (i.zero, i.size, i.bytes)) = some (some (.int .i64 0), 1, 8) := by kernel_rfl
theorem hunderN : Tryd.prog.underlying 50 = some (.slice 3) := by kernel_rfl

/-- the periods' ends, and weeks, by their places -/
def fend (c : CalZ) (y : Int) (i : Nat) : Int := pend c y ((i : Int) + 1)
def fwk (c : CalZ) (y : Int) (i : Nat) : Int := wks c y ((i : Int) + 1)

/-- why a year is not told -/
def NoYear (c : CalZ) (y er : Int) : Prop := (CalOk c ∧ ¬ (1601 ≤ y ∧ y ≤ 9997) ∧ er = 11) ∨ (¬ CalOk c ∧ er = 1)
theorem NoYear.er {c : CalZ} {y er : Int} (h : NoYear c y er) : er = 11 ∨ er = 1 := by rcases h with ⟨_, _, h⟩ | ⟨_, h⟩ <;> omega
theorem year_cases (c : CalZ) (y : Int) : (CalOk c ∧ 1601 ≤ y ∧ y ≤ 9997) ∨ ∃ er, NoYear c y er := by
  by_cases h : CalOk c
  · by_cases k : 1601 ≤ y ∧ y ≤ 9997
    · exact .inl ⟨h, k.1, k.2⟩
    · exact .inr ⟨11, .inl ⟨h, k, rfl⟩⟩
  · exact .inr ⟨1, .inr ⟨h, rfl⟩⟩
theorem NoYear.start {c : CalZ} {y er : Int} (h : NoYear c y er) : StartA c y 0 er := by
  rcases h with ⟨a, b, rfl⟩ | ⟨a, rfl⟩
  · exact .inr (.inl ⟨a, b, rfl, rfl⟩)
  · exact .inr (.inr ⟨a, rfl, rfl⟩)

end Go.Proofs.YtmccdemhbdidoaaDoor.Hp
