/- What Div of the reference of layer 2 comes to, of any divisor. -/
import Derived.Test.YtmngbhkokglmjaaRdivp
namespace Go.Proofs.Ytmngbhkokglmjaa.Vr
open Go.RowKit Go.Proofs.Ytmngbhkokglmjaa.Vm Go.Proofs.Ytmngbhkokglmjaa.Vc Go.Proofs.Ytmngbhkokglmjaa.Vl

set_option maxHeartbeats 1000000

theorem num_inj {h l h' l' : Int} (b : Bd h l) (b' : Bd h' l') (e : num h l = num h' l') : h = h' ∧ l = l' := by
  unfold Bd at b b'; unfold num at e; omega

theorem rDiv_any (h1 l1 b h l r er : Int) (w : World) (b1 : Bd h1 l1) (hb : Fit1 b) (R : DivRes (num h1 l1) b h l r er) :
    Calls Try.prog 34 #[.agg #[.int .i64 h1, .int .u64 l1], .int .i64 b] w fun e w' =>
      e = .returned (.tuple #[.agg #[.int .i64 h, .int .u64 l], .int .i64 r, .int .i64 er]) ∧ Below w.heap.size w w' := by
  rcases R with ⟨rfl, rfl, rfl, rfl, rfl⟩ | ⟨hn, rfl, rfl, rfl, rfl⟩ | ⟨hp, rfl, bd, e, r0, r1⟩
  · go_enter Try.func34, Try.ntmps34
    go_wp2
    refine bodyPost_ret (v := .tuple #[.agg #[.int .i64 0, .int .u64 0], .int .i64 0, .int .i64 3]) (by simp [results, Try.results34, go_sem]) rfl ⟨rfl, ?_⟩
    exact ((Below.refl _ _).alloc (Nat.le_refl _) _).alloc (by simp) _
  · have d1 : (b == 0) = false := beq_eq_false_iff_ne.2 (by omega)
    go_enter Try.func34, Try.ntmps34
    go_wp2
    refine bodyPost_ret (v := .tuple #[.agg #[.int .i64 0, .int .u64 0], .int .i64 0, .int .i64 1]) (by simp [results, Try.results34, go_sem]) rfl ⟨rfl, ?_⟩
    exact ((Below.refl _ _).alloc (Nat.le_refl _) _).alloc (by simp) _
  · refine (rDiv_pos h1 l1 b (decide (h1 < 0)) _ w b1 hp hb.2 rfl rfl).mono ?_
    rintro e' w' ⟨h', l', r', he, bd', e2, r0', r1', hB⟩
    obtain ⟨e3, e4⟩ := div_same (e.trans e2.symm) r0 r1 r0' r1'
    obtain ⟨rfl, rfl⟩ := num_inj bd bd' e3
    subst e4
    exact ⟨he, hB⟩

end Go.Proofs.Ytmngbhkokglmjaa.Vr
