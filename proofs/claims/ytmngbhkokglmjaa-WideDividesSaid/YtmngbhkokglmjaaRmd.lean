/- What MulDiv of the reference of layer 2 comes to. -/
import Derived.Test.YtmngbhkokglmjaaRmul
import Derived.Test.YtmngbhkokglmjaaRdiv
import Derived.Test.YtmngbhkokglmjaaRfit
import Derived.Test.YtmngbhkokglmjaaVmath6
namespace Go.Proofs.Ytmngbhkokglmjaa.Vr
open Go.RowKit Go.Proofs.Ytmngbhkokglmjaa.Vm Go.Proofs.Ytmngbhkokglmjaa.Vc Go.Proofs.Ytmngbhkokglmjaa.Vl

set_option maxHeartbeats 400000

theorem rMulDiv_any (a b c h l h2 l2 r2 er2 v er v2 r3 er3 : Int) (w : World) (ha : Fit1 a) (hb : Fit1 b) (hc : Fit1 c) (bd : Bd h l) (hn : num h l = a * b) (D : DivRes (num h l) c h2 l2 r2 er2) (bd2 : Bd h2 l2)
    (F : Res1 (num h2 l2) v er) (O : (er2 ≠ 0 ∧ v2 = 0 ∧ r3 = 0 ∧ er3 = er2) ∨ (er2 = 0 ∧ er = 2 ∧ v2 = 0 ∧ r3 = 0 ∧ er3 = 2) ∨ (er2 = 0 ∧ er = 0 ∧ v2 = v ∧ r3 = r2 ∧ er3 = 0)) :
    Calls Try.prog 36 #[.int .i64 a, .int .i64 b, .int .i64 c] w fun e w' =>
      e = .returned (.tuple #[.int .i64 v2, .int .i64 r3, .int .i64 er3]) ∧ Below w.heap.size w w' := by
  have cm := fun w => rMul_to a b h l w ha hb bd hn
  have cd := fun w => rDiv_any h l c h2 l2 r2 er2 w bd hc D
  have cf := fun w => rFit_any h2 l2 v er w bd2 F
  clear ha hb hc bd hn D bd2 F
  rcases O with ⟨o1, rfl, rfl, rfl⟩ | ⟨rfl, rfl, rfl, rfl, rfl⟩ | ⟨rfl, rfl, rfl, rfl, rfl⟩
  · have d1 : (er3 != 0) = true := bne_iff_ne.2 o1
    clear o1
    go_enter Try.func36, Try.ntmps36
    go_wp2_with fail
    refine (cm _).mono ?_
    rintro e w1 ⟨rfl, hb1⟩
    go_wp2_with fail
    refine (cd _).mono ?_
    rintro e w2 ⟨rfl, hb2⟩
    go_wp2
    go_ret3
    exact ⟨rfl, (hb1.trans (hb2.mono hb1.size)).alloc (Nat.le_trans hb1.size hb2.size) _⟩
  all_goals
    go_enter Try.func36, Try.ntmps36
    go_wp2_with fail
    refine (cm _).mono ?_
    rintro e w1 ⟨rfl, hb1⟩
    go_wp2_with fail
    refine (cd _).mono ?_
    rintro e w2 ⟨rfl, hb2⟩
    go_wp2_with fail
    refine (cf _).mono ?_
    rintro e w3 ⟨rfl, hb3⟩
    go_wp2
    go_ret3
    exact ⟨rfl, ((hb1.trans (hb2.mono hb1.size)).alloc (Nat.le_trans hb1.size hb2.size) _).trans (hb3.mono (by simp; exact Nat.le_succ_of_le (Nat.le_trans hb1.size hb2.size)))⟩

theorem rmuldiv_to (a b c v r er : Int) (w : World) (fa : Fit1 a) (fb : Fit1 b) (fc : Fit1 c) (R : MDRes (a * b) c v r er) :
    Calls Try.prog 36 #[.int .i64 a, .int .i64 b, .int .i64 c] w fun e w' =>
      e = .returned (.tuple #[.int .i64 v, .int .i64 r, .int .i64 er]) ∧ Below w.heap.size w w' := by
  have pf := prod_fits fa fb
  have ff : Fits (a * b) := by unfold Fits; omega
  obtain ⟨h, l, n, bd⟩ := words_ex ff
  have b0 : Bd 0 0 := by unfold Bd; omega
  have f0 : Res1 (num 0 0) 0 0 := Or.inl ⟨rfl, rfl, by unfold Fit1 num; omega⟩
  rcases R with ⟨c0, rfl, rfl, rfl⟩ | ⟨c0, rfl, rfl, rfl⟩ | ⟨c0, rfl, rfl, rfl, nf⟩ | ⟨c0, rfl, fv, rfl, rfl⟩
  · exact rMulDiv_any a b c h l 0 0 0 3 0 0 0 0 3 w fa fb fc bd n (.inl ⟨c0, rfl, rfl, rfl, rfl⟩) b0 f0 (.inl ⟨by decide, rfl, rfl, rfl⟩)
  · exact rMulDiv_any a b c h l 0 0 0 1 0 0 0 0 1 w fa fb fc bd n (.inr (.inl ⟨c0, rfl, rfl, rfl, rfl⟩)) b0 f0 (.inl ⟨by decide, rfl, rfl, rfl⟩)
  all_goals
    obtain ⟨hq, lq, nq, bq⟩ := words_ex (quot_fits ff c0)
    have D : DivRes (num h l) c hq lq ((a * b) % c) 0 := .inr (.inr ⟨c0, rfl, bq, by rw [nq, n, Int.mul_comm]; exact Int.mul_ediv_add_emod _ _, Int.emod_nonneg _ (by omega), Int.emod_lt_of_pos _ c0⟩)
  · exact rMulDiv_any a b c h l hq lq ((a * b) % c) 0 0 2 0 0 2 w fa fb fc bd n D bq (Or.inr ⟨rfl, rfl, by rw [nq]; exact nf⟩) (.inr (.inl ⟨rfl, rfl, rfl, rfl, rfl⟩))
  · exact rMulDiv_any a b c h l hq lq ((a * b) % c) 0 (a * b / c) 0 (a * b / c) ((a * b) % c) 0 w fa fb fc bd n D bq (Or.inl ⟨rfl, nq.symm, by rw [nq]; exact fv⟩) (.inr (.inr ⟨rfl, rfl, rfl, rfl, rfl⟩))

theorem divres_ex {x c : Int} (f : Fits x) : ∃ h l r er, DivRes x c h l r er := by
  rcases Int.lt_trichotomy c 0 with h | h | h
  · exact ⟨0, 0, 0, 1, .inr (.inl ⟨h, rfl, rfl, rfl, rfl⟩)⟩
  · exact ⟨0, 0, 0, 3, .inl ⟨h, rfl, rfl, rfl, rfl⟩⟩
  · obtain ⟨hq, lq, nq, bq⟩ := words_ex (quot_fits f h)
    exact ⟨hq, lq, x % c, 0, .inr (.inr ⟨h, rfl, bq, by rw [nq, Int.mul_comm]; exact Int.mul_ediv_add_emod _ _, Int.emod_nonneg _ (by omega), Int.emod_lt_of_pos _ h⟩)⟩
theorem mdres_ex (x c : Int) : ∃ q r er, MDRes x c q r er := by
  rcases Int.lt_trichotomy c 0 with h | h | h
  · exact ⟨0, 0, 1, .inr (.inl ⟨h, rfl, rfl, rfl⟩)⟩
  · exact ⟨0, 0, 3, .inl ⟨h, rfl, rfl, rfl⟩⟩
  · by_cases k : Fit1 (x / c)
    · exact ⟨x / c, x % c, 0, .inr (.inr (.inr ⟨h, rfl, k, rfl, rfl⟩))⟩
    · exact ⟨0, 0, 2, .inr (.inr (.inl ⟨h, rfl, rfl, rfl, k⟩))⟩

end Go.Proofs.Ytmngbhkokglmjaa.Vr
