/- The example of layer 9, as plain mathematics: its tokens, and its items. No condition. -/
import Derived.Test.YtjebdoecigmkhaaDoorYmath
namespace Go.Proofs.YtjebdoecigmkhaaDoor.Ym
set_option linter.unusedSimpArgs false
set_option linter.unusedVariables false
open Go.Proofs.YtjebdoecigmkhaaDoor.Zm

/-- "a b 1 { c; }" -/
def exB : List UInt8 := [97, 32, 98, 32, 49, 32, 123, 32, 99, 59, 32, 125]
def exT : List Tk := [⟨1, 0, 0, [97]⟩, ⟨1, 2, 0, [98]⟩, ⟨2, 4, 1, []⟩, ⟨3, 6, 0, []⟩, ⟨1, 8, 0, [99]⟩, ⟨5, 9, 0, []⟩, ⟨4, 11, 0, []⟩]
def exN : List Nd := [.mk [97] 0 [⟨false, 0, [98], 2⟩, ⟨true, 1, [], 4⟩] true [.mk [99] 8 [] false []]]
theorem cut_ex : cut exB 0 0 = .ok exT := by
  unfold exB
  rw [cut_tok (k := 1) (n := 0) (s := [97]) (len := 1) 0 0 (by rfl), if_neg (by decide)]
  rw [show ([32, 98, 32, 49, 32, 123, 32, 99, 59, 32, 125] : List UInt8).drop (1 - 1) = [32, 98, 32, 49, 32, 123, 32, 99, 59, 32, 125] from rfl, cut_skip (n := 1) _ _ (by rfl)]
  rw [show ([98, 32, 49, 32, 123, 32, 99, 59, 32, 125] : List UInt8).drop (1 - 1) = [98, 32, 49, 32, 123, 32, 99, 59, 32, 125] from rfl, cut_tok (k := 1) (n := 0) (s := [98]) (len := 1) _ _ (by rfl), if_neg (by decide)]
  rw [show ([32, 49, 32, 123, 32, 99, 59, 32, 125] : List UInt8).drop (1 - 1) = [32, 49, 32, 123, 32, 99, 59, 32, 125] from rfl, cut_skip (n := 1) _ _ (by rfl)]
  rw [show ([49, 32, 123, 32, 99, 59, 32, 125] : List UInt8).drop (1 - 1) = [49, 32, 123, 32, 99, 59, 32, 125] from rfl, cut_tok (k := 2) (n := 1) (s := []) (len := 1) _ _ (by rfl), if_neg (by decide)]
  rw [show ([32, 123, 32, 99, 59, 32, 125] : List UInt8).drop (1 - 1) = [32, 123, 32, 99, 59, 32, 125] from rfl, cut_skip (n := 1) _ _ (by rfl)]
  rw [show ([123, 32, 99, 59, 32, 125] : List UInt8).drop (1 - 1) = [123, 32, 99, 59, 32, 125] from rfl, cut_tok (k := 3) (n := 0) (s := []) (len := 1) _ _ (by rfl), if_neg (by decide)]
  rw [show ([32, 99, 59, 32, 125] : List UInt8).drop (1 - 1) = [32, 99, 59, 32, 125] from rfl, cut_skip (n := 1) _ _ (by rfl)]
  rw [show ([99, 59, 32, 125] : List UInt8).drop (1 - 1) = [99, 59, 32, 125] from rfl, cut_tok (k := 1) (n := 0) (s := [99]) (len := 1) _ _ (by rfl), if_neg (by decide)]
  rw [show ([59, 32, 125] : List UInt8).drop (1 - 1) = [59, 32, 125] from rfl, cut_tok (k := 5) (n := 0) (s := []) (len := 1) _ _ (by rfl), if_neg (by decide)]
  rw [show ([32, 125] : List UInt8).drop (1 - 1) = [32, 125] from rfl, cut_skip (n := 1) _ _ (by rfl)]
  rw [show ([125] : List UInt8).drop (1 - 1) = [125] from rfl, cut_tok (k := 4) (n := 0) (s := []) (len := 1) _ _ (by rfl), if_neg (by decide)]
  rw [show ([] : List UInt8).drop (1 - 1) = [] from rfl, cut_nil]
  rfl
theorem parse_ex : parse exB = .ok exN := by
  rw [parse, cut_ex]
  rfl

end Go.Proofs.YtjebdoecigmkhaaDoor.Ym
