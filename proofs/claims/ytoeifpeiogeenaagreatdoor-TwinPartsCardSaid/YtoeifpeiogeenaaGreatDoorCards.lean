/-
  DERIVED. GIVEN WITH THE SEED: THE CARDS: each row of YtoeifpeiogeenaaGreatDoorRows.lean that lists a variable, with what it lists TIED to the program's text (the seventh form; the later family's looks); each row that meets fmt, with fmt's text TOLD by the authors' own Lean function (tested against real Go, not proved from fmt's source: count such statements apart). THE CARD IS WHAT COUNTS. Prove the row's statement (the work); the ties are given (YtoeifpeiogeenaaGreatDoorTie.lean); close each card by the builder's one call (the guide's Derived/Test/ToyasCard.lean, 'card_holds'). Laid BY PROGRAM, IN A SANDBOX (cutbox-door.mjs). By AI agents, Wed Nov 11 2026. No macro, syntax, notation, axiom, sorry.
-/
import Derived.Test.YtoeifpeiogeenaaGreatDoorRows
import GoSem.ClaimSeven
namespace Go.Proofs.YtoeifpeiogeenaaGreatDoor
namespace Rows

/-- THE TIED CARD OF 'quarterdaylaw20.TwinCounts'. -/
def twinCountsCard : Claim7 := { stood := { row := twinCountsRow, standIns := [], harness := (true, "b9448a81a884963ff7de244478d96e4f8eae5abeeb2bebabd27e576162ff6107"), looks := false }, kinds := [], alts := [], laidByText := true, laidKinds := [.data, .widerDeep, .widerDeep, .widerDeep, .widerDeep, .widerDeep], laidTests := true, laidLooks := .later }
def TwinCountsCardSaid : Prop := Claim7.holds Tryz.pinned (.plain (OpenSpec.ofChange twinCountsSpec)) twinCountsCard

/-- THE TIED CARD OF 'quarterdaylaw20.TwinMonths'. -/
def twinMonthsCard : Claim7 := { stood := { row := twinMonthsRow, standIns := [], harness := (true, "b9448a81a884963ff7de244478d96e4f8eae5abeeb2bebabd27e576162ff6107"), looks := false }, kinds := [], alts := [], laidByText := true, laidKinds := [.data, .widerDeep, .widerDeep, .widerDeep, .widerDeep, .widerDeep], laidTests := true, laidLooks := .later }
def TwinMonthsCardSaid : Prop := Claim7.holds Tryz.pinned (.plain (OpenSpec.ofChange twinMonthsSpec)) twinMonthsCard

/-- THE TIED CARD OF 'quarterdaylaw20.TwinOwn'. -/
def twinOwnCard : Claim7 := { stood := { row := twinOwnRow, standIns := [], harness := (true, "b9448a81a884963ff7de244478d96e4f8eae5abeeb2bebabd27e576162ff6107"), looks := false }, kinds := [], alts := [], laidByText := true, laidKinds := [.data, .widerDeep, .widerDeep, .widerDeep, .widerDeep, .widerDeep], laidTests := true, laidLooks := .later }
def TwinOwnCardSaid : Prop := Claim7.holds Tryz.pinned (.plain (OpenSpec.ofChange twinOwnSpec)) twinOwnCard

/-- THE TIED CARD OF 'quarterdaylaw20.TwinRuns'. -/
def twinRunsCard : Claim7 := { stood := { row := twinRunsRow, standIns := [], harness := (true, "b9448a81a884963ff7de244478d96e4f8eae5abeeb2bebabd27e576162ff6107"), looks := false }, kinds := [], alts := [], laidByText := true, laidKinds := [.data, .widerDeep, .widerDeep, .widerDeep, .widerDeep, .widerDeep], laidTests := true, laidLooks := .later }
def TwinRunsCardSaid : Prop := Claim7.holds Tryz.pinned (.plain (OpenSpec.ofChange twinRunsSpec)) twinRunsCard

/-- THE TIED CARD OF 'quarterdaylaw20.TwinParts'. -/
def twinPartsCard : Claim7 := { stood := { row := twinPartsRow, standIns := [], harness := (true, "b9448a81a884963ff7de244478d96e4f8eae5abeeb2bebabd27e576162ff6107"), looks := false }, kinds := [], alts := [], laidByText := true, laidKinds := [.data, .widerDeep, .widerDeep, .widerDeep, .widerDeep, .widerDeep], laidTests := true, laidLooks := .later }
def TwinPartsCardSaid : Prop := Claim7.holds Tryz.pinned (.plain (OpenSpec.ofChange twinPartsSpec)) twinPartsCard

/-- THE TIED CARD OF 'quarterdaylaw20.TwinDays'. -/
def twinDaysCard : Claim7 := { stood := { row := twinDaysRow, standIns := [], harness := (true, "b9448a81a884963ff7de244478d96e4f8eae5abeeb2bebabd27e576162ff6107"), looks := false }, kinds := [], alts := [], laidByText := true, laidKinds := [.data, .widerDeep, .widerDeep, .widerDeep, .widerDeep, .widerDeep], laidTests := true, laidLooks := .later }
def TwinDaysCardSaid : Prop := Claim7.holds Tryz.pinned (.plain (OpenSpec.ofChange twinDaysSpec)) twinDaysCard

/-- THE TIED CARD OF 'quarterdaylaw21.RateSum'. -/
def rateSumCard : Claim7 := { stood := { row := rateSumRow, standIns := [], harness := (true, "b9448a81a884963ff7de244478d96e4f8eae5abeeb2bebabd27e576162ff6107"), looks := false }, kinds := [], alts := [], laidByText := true, laidKinds := [.data, .widerDeep, .widerDeep, .widerDeep, .widerDeep, .widerDeep], laidTests := true, laidLooks := .later }
def RateSumCardSaid : Prop := Claim7.holds Tryz.pinned (.plain (OpenSpec.ofChange rateSumSpec)) rateSumCard

/-- THE TIED CARD OF 'quarterdaylaw21.RateTies'. -/
def rateTiesCard : Claim7 := { stood := { row := rateTiesRow, standIns := [], harness := (true, "b9448a81a884963ff7de244478d96e4f8eae5abeeb2bebabd27e576162ff6107"), looks := false }, kinds := [], alts := [], laidByText := true, laidKinds := [.data, .widerDeep, .widerDeep, .widerDeep, .widerDeep, .widerDeep], laidTests := true, laidLooks := .later }
def RateTiesCardSaid : Prop := Claim7.holds Tryz.pinned (.plain (OpenSpec.ofChange rateTiesSpec)) rateTiesCard

/-- THE TIED CARD OF 'quarterdaylaw21.RateDays'. -/
def rateDaysCard : Claim7 := { stood := { row := rateDaysRow, standIns := [], harness := (true, "b9448a81a884963ff7de244478d96e4f8eae5abeeb2bebabd27e576162ff6107"), looks := false }, kinds := [], alts := [], laidByText := true, laidKinds := [.data, .widerDeep, .widerDeep, .widerDeep, .widerDeep, .widerDeep], laidTests := true, laidLooks := .later }
def RateDaysCardSaid : Prop := Claim7.holds Tryz.pinned (.plain (OpenSpec.ofChange rateDaysSpec)) rateDaysCard

/-- THE TIED CARD OF 'quarterdaylaw21.RateOne'. -/
def rateOneCard : Claim7 := { stood := { row := rateOneRow, standIns := [], harness := (true, "b9448a81a884963ff7de244478d96e4f8eae5abeeb2bebabd27e576162ff6107"), looks := false }, kinds := [], alts := [], laidByText := true, laidKinds := [.data, .widerDeep, .widerDeep, .widerDeep, .widerDeep, .widerDeep], laidTests := true, laidLooks := .later }
def RateOneCardSaid : Prop := Claim7.holds Tryz.pinned (.plain (OpenSpec.ofChange rateOneSpec)) rateOneCard

/-- THE TIED CARD OF 'quarterdaylaw21.RateLevels'. -/
def rateLevelsCard : Claim7 := { stood := { row := rateLevelsRow, standIns := [], harness := (true, "b9448a81a884963ff7de244478d96e4f8eae5abeeb2bebabd27e576162ff6107"), looks := false }, kinds := [], alts := [], laidByText := true, laidKinds := [.data, .widerDeep, .widerDeep, .widerDeep, .widerDeep, .widerDeep], laidTests := true, laidLooks := .later }
def RateLevelsCardSaid : Prop := Claim7.holds Tryz.pinned (.plain (OpenSpec.ofChange rateLevelsSpec)) rateLevelsCard

/-- THE TIED CARD OF 'quarterdaylaw21.RateExact'. -/
def rateExactCard : Claim7 := { stood := { row := rateExactRow, standIns := [], harness := (true, "b9448a81a884963ff7de244478d96e4f8eae5abeeb2bebabd27e576162ff6107"), looks := false }, kinds := [], alts := [], laidByText := true, laidKinds := [.data, .widerDeep, .widerDeep, .widerDeep, .widerDeep, .widerDeep], laidTests := true, laidLooks := .later }
def RateExactCardSaid : Prop := Claim7.holds Tryz.pinned (.plain (OpenSpec.ofChange rateExactSpec)) rateExactCard

/-- THE SECOND FORM's CARD OF 'quarterdaylaw20.TwinCounts'. -/
def twinCountsUptoCard : Claim7 := { stood := { row := twinCountsUptoRow, standIns := [], harness := (true, "b9448a81a884963ff7de244478d96e4f8eae5abeeb2bebabd27e576162ff6107"), looks := false }, kinds := [], alts := [], laidByText := true, laidKinds := [.data, .widerDeep, .widerDeep, .widerDeep, .widerDeep, .widerDeep], laidTests := true, laidLooks := .later }
def TwinCountsUptoCardSaid : Prop := Claim7.holds Tryz.pinned (.plain (OpenSpec.upto twinCountsSpec)) twinCountsUptoCard

/-- THE SECOND FORM's CARD OF 'quarterdaylaw20.TwinMonths'. -/
def twinMonthsUptoCard : Claim7 := { stood := { row := twinMonthsUptoRow, standIns := [], harness := (true, "b9448a81a884963ff7de244478d96e4f8eae5abeeb2bebabd27e576162ff6107"), looks := false }, kinds := [], alts := [], laidByText := true, laidKinds := [.data, .widerDeep, .widerDeep, .widerDeep, .widerDeep, .widerDeep], laidTests := true, laidLooks := .later }
def TwinMonthsUptoCardSaid : Prop := Claim7.holds Tryz.pinned (.plain (OpenSpec.upto twinMonthsSpec)) twinMonthsUptoCard

/-- THE SECOND FORM's CARD OF 'quarterdaylaw20.TwinOwn'. -/
def twinOwnUptoCard : Claim7 := { stood := { row := twinOwnUptoRow, standIns := [], harness := (true, "b9448a81a884963ff7de244478d96e4f8eae5abeeb2bebabd27e576162ff6107"), looks := false }, kinds := [], alts := [], laidByText := true, laidKinds := [.data, .widerDeep, .widerDeep, .widerDeep, .widerDeep, .widerDeep], laidTests := true, laidLooks := .later }
def TwinOwnUptoCardSaid : Prop := Claim7.holds Tryz.pinned (.plain (OpenSpec.upto twinOwnSpec)) twinOwnUptoCard

/-- THE SECOND FORM's CARD OF 'quarterdaylaw20.TwinRuns'. -/
def twinRunsUptoCard : Claim7 := { stood := { row := twinRunsUptoRow, standIns := [], harness := (true, "b9448a81a884963ff7de244478d96e4f8eae5abeeb2bebabd27e576162ff6107"), looks := false }, kinds := [], alts := [], laidByText := true, laidKinds := [.data, .widerDeep, .widerDeep, .widerDeep, .widerDeep, .widerDeep], laidTests := true, laidLooks := .later }
def TwinRunsUptoCardSaid : Prop := Claim7.holds Tryz.pinned (.plain (OpenSpec.upto twinRunsSpec)) twinRunsUptoCard

/-- THE SECOND FORM's CARD OF 'quarterdaylaw20.TwinParts'. -/
def twinPartsUptoCard : Claim7 := { stood := { row := twinPartsUptoRow, standIns := [], harness := (true, "b9448a81a884963ff7de244478d96e4f8eae5abeeb2bebabd27e576162ff6107"), looks := false }, kinds := [], alts := [], laidByText := true, laidKinds := [.data, .widerDeep, .widerDeep, .widerDeep, .widerDeep, .widerDeep], laidTests := true, laidLooks := .later }
def TwinPartsUptoCardSaid : Prop := Claim7.holds Tryz.pinned (.plain (OpenSpec.upto twinPartsSpec)) twinPartsUptoCard

/-- THE SECOND FORM's CARD OF 'quarterdaylaw20.TwinDays'. -/
def twinDaysUptoCard : Claim7 := { stood := { row := twinDaysUptoRow, standIns := [], harness := (true, "b9448a81a884963ff7de244478d96e4f8eae5abeeb2bebabd27e576162ff6107"), looks := false }, kinds := [], alts := [], laidByText := true, laidKinds := [.data, .widerDeep, .widerDeep, .widerDeep, .widerDeep, .widerDeep], laidTests := true, laidLooks := .later }
def TwinDaysUptoCardSaid : Prop := Claim7.holds Tryz.pinned (.plain (OpenSpec.upto twinDaysSpec)) twinDaysUptoCard

/-- THE SECOND FORM's CARD OF 'quarterdaylaw21.RateSum'. -/
def rateSumUptoCard : Claim7 := { stood := { row := rateSumUptoRow, standIns := [], harness := (true, "b9448a81a884963ff7de244478d96e4f8eae5abeeb2bebabd27e576162ff6107"), looks := false }, kinds := [], alts := [], laidByText := true, laidKinds := [.data, .widerDeep, .widerDeep, .widerDeep, .widerDeep, .widerDeep], laidTests := true, laidLooks := .later }
def RateSumUptoCardSaid : Prop := Claim7.holds Tryz.pinned (.plain (OpenSpec.upto rateSumSpec)) rateSumUptoCard

/-- THE SECOND FORM's CARD OF 'quarterdaylaw21.RateTies'. -/
def rateTiesUptoCard : Claim7 := { stood := { row := rateTiesUptoRow, standIns := [], harness := (true, "b9448a81a884963ff7de244478d96e4f8eae5abeeb2bebabd27e576162ff6107"), looks := false }, kinds := [], alts := [], laidByText := true, laidKinds := [.data, .widerDeep, .widerDeep, .widerDeep, .widerDeep, .widerDeep], laidTests := true, laidLooks := .later }
def RateTiesUptoCardSaid : Prop := Claim7.holds Tryz.pinned (.plain (OpenSpec.upto rateTiesSpec)) rateTiesUptoCard

/-- THE SECOND FORM's CARD OF 'quarterdaylaw21.RateDays'. -/
def rateDaysUptoCard : Claim7 := { stood := { row := rateDaysUptoRow, standIns := [], harness := (true, "b9448a81a884963ff7de244478d96e4f8eae5abeeb2bebabd27e576162ff6107"), looks := false }, kinds := [], alts := [], laidByText := true, laidKinds := [.data, .widerDeep, .widerDeep, .widerDeep, .widerDeep, .widerDeep], laidTests := true, laidLooks := .later }
def RateDaysUptoCardSaid : Prop := Claim7.holds Tryz.pinned (.plain (OpenSpec.upto rateDaysSpec)) rateDaysUptoCard

/-- THE SECOND FORM's CARD OF 'quarterdaylaw21.RateOne'. -/
def rateOneUptoCard : Claim7 := { stood := { row := rateOneUptoRow, standIns := [], harness := (true, "b9448a81a884963ff7de244478d96e4f8eae5abeeb2bebabd27e576162ff6107"), looks := false }, kinds := [], alts := [], laidByText := true, laidKinds := [.data, .widerDeep, .widerDeep, .widerDeep, .widerDeep, .widerDeep], laidTests := true, laidLooks := .later }
def RateOneUptoCardSaid : Prop := Claim7.holds Tryz.pinned (.plain (OpenSpec.upto rateOneSpec)) rateOneUptoCard

/-- THE SECOND FORM's CARD OF 'quarterdaylaw21.RateLevels'. -/
def rateLevelsUptoCard : Claim7 := { stood := { row := rateLevelsUptoRow, standIns := [], harness := (true, "b9448a81a884963ff7de244478d96e4f8eae5abeeb2bebabd27e576162ff6107"), looks := false }, kinds := [], alts := [], laidByText := true, laidKinds := [.data, .widerDeep, .widerDeep, .widerDeep, .widerDeep, .widerDeep], laidTests := true, laidLooks := .later }
def RateLevelsUptoCardSaid : Prop := Claim7.holds Tryz.pinned (.plain (OpenSpec.upto rateLevelsSpec)) rateLevelsUptoCard

/-- THE SECOND FORM's CARD OF 'quarterdaylaw21.RateExact'. -/
def rateExactUptoCard : Claim7 := { stood := { row := rateExactUptoRow, standIns := [], harness := (true, "b9448a81a884963ff7de244478d96e4f8eae5abeeb2bebabd27e576162ff6107"), looks := false }, kinds := [], alts := [], laidByText := true, laidKinds := [.data, .widerDeep, .widerDeep, .widerDeep, .widerDeep, .widerDeep], laidTests := true, laidLooks := .later }
def RateExactUptoCardSaid : Prop := Claim7.holds Tryz.pinned (.plain (OpenSpec.upto rateExactSpec)) rateExactUptoCard
end Rows
end Go.Proofs.YtoeifpeiogeenaaGreatDoor
