/- Items that are moved are the same but for places, and as many. -/
import Derived.Test.YtjebdoecigmkhaaDoorYnrow
import Derived.Test.YtjebdoecigmkhaaDoorYtext
namespace Go.Proofs.YtjebdoecigmkhaaDoor.Yg
set_option linter.unusedSimpArgs false
set_option linter.unusedVariables false
open Go Go.RowKit Go.Proofs.YtjebdoecigmkhaaDoor.Zm Go.Proofs.YtjebdoecigmkhaaDoor.Ym

theorem stw_mv (d : Nat) (ws : List Wd) : (ws.map (mvW d)).map (fun x => stw (embW x)) = ws.map (fun x => stw (embW x)) := by
  rw [List.map_map]
  rfl
mutual
theorem same_mvN (d : Nat) : ∀ n : Nd, SameN (embN (mvN d n)) (embN n)
  | .mk nm a ws b ks => by
    simp only [mvN, embN, SameN, List.map_map]
    exact ⟨trivial, trivial, by simp [Function.comp_def, mvW, embW, stw], same_mvL d ks⟩
theorem same_mvL (d : Nat) : ∀ l : List Nd, SameL (embL (mvL d l)) (embL l)
  | [] => by simp [mvL, embL, SameL]
  | n :: l => by
    simp only [mvL, embL, SameL]
    exact ⟨_, _, rfl, same_mvN d n, same_mvL d l⟩
end
mutual
theorem count_mvN (d : Nat) : ∀ n : Nd, countN (mvN d n) = countN n
  | .mk _ _ _ _ ks => by simp only [mvN, countN, count_mvL d ks]
theorem count_mvL (d : Nat) : ∀ l : List Nd, countL (mvL d l) = countL l
  | [] => rfl
  | n :: l => by simp only [mvL, countL, count_mvN d n, count_mvL d l]
end
theorem countL_append (a b : List Nd) : countL (a ++ b) = countL a + countL b := by
  induction a with
  | nil => simp [countL]
  | cons n a ih => simp only [List.cons_append, countL, ih]; omega

end Go.Proofs.YtjebdoecigmkhaaDoor.Yg
