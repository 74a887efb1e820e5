/- What Neg, Fit and Cmp of the reference of layer 2 come to. -/
import Derived.Test.YtmngbhkokglmjaaRfuns
namespace Go.Proofs.Ytmngbhkokglmjaa.Vr
open Go.RowKit Go.Proofs.Ytmngbhkokglmjaa.Vm Go.Proofs.Ytmngbhkokglmjaa.Vc Go.Proofs.Ytmngbhkokglmjaa.Vl
attribute [local go_sem] alloc_drewN setCell_drewN

set_option maxHeartbeats 1000000

theorem rNeg_tells (h1 l1 : Int) (w : World) (b1 : Bd h1 l1) :
    Calls Try.prog 47 #[.agg #[.int .i64 h1, .int .u64 l1]] w (Tells (-num h1 l1) w) := by
  obtain ⟨n0, n1, n2⟩ := num_abs h1 l1 b1
  obtain ⟨d0, d1, d2, d3, d4, d5, d6, d7, D⟩ := d8_ex n0 n1
  have co := fun w => of_at h1 l1 d0 d1 d2 d3 d4 d5 d6 d7 w b1 D
  have cb := fun s w => back_tells s ((num h1 l1).natAbs : Int) d0 d1 d2 d3 d4 d5 d6 d7 w D
  obtain ⟨m, hm⟩ : ∃ m, ((num h1 l1).natAbs : Int) = m := ⟨_, rfl⟩
  rw [hm] at cb n2
  replace n2 := Lib.hid n2
  clear D hm n0 n1
  have cs : decide (h1 < 0) = true ∨ decide (h1 < 0) = false := by cases decide (h1 < 0) <;> simp
  rcases cs with s | s
  all_goals
    go_enter Try.func47, Try.ntmps47
    go_wp2_with fail
    refine (co _).mono ?_
    rintro e w' ⟨rfl, rfl⟩
    go_wp2_with fail
    refine (cb _ _).mono ?_
    rintro e w1 ⟨h, l, is, rfl, r, hb1⟩
    have ev : -num h1 l1 = sgn (!(decide (h1 < 0))) m := by have := n2.out; unfold sgn at this ⊢; rw [s] at this ⊢; simp at this ⊢; omega
    have z1 : w.heap.size + 1 < w1.heap.size := by have := hb1.size; simp at this; omega
    have B1 : Below w.heap.size w w1 := by
      refine Below.trans ?_ (hb1.mono (by simp <;> omega))
      repeat (first | exact Below.refl _ _ | refine Below.alloc ?_ (by simp <;> omega) _)
    obtain ⟨hc, hf⟩ := bcell hb1
    have k0 : w1.cell? ⟨w.heap.size + 1, 0, none⟩ = some (.int .i64 0) := by rw [hc _ _ (by simp <;> omega)]; simp [go_sem]
    have k1 : w1.cell? ⟨w.heap.size + 1, 1, none⟩ = some (.int .u64 0) := by rw [hc _ _ (by simp <;> omega)]; simp [go_sem]
    have f0 : w1.frozen? ⟨w.heap.size + 1, 0, none⟩ = false := by rw [hf _ _ (by simp <;> omega)]; simp [go_sem]
    have f1 : w1.frozen? ⟨w.heap.size + 1, 1, none⟩ = false := by rw [hf _ _ (by simp <;> omega)]; simp [go_sem]
    clear hc hf hb1
    have r' : (is = true ∧ Res (-num h1 l1) h l 0) ∨ (is = false ∧ ¬ Fits (-num h1 l1)) := by rw [ev, s]; exact r
    clear r ev
    rcases r' with ⟨rfl, r⟩ | ⟨rfl, r⟩
    · replace r := Lib.hid r
      go_wp2
      refine bodyPost_ret (v := .tuple #[.agg #[.int .i64 h, .int .u64 l], .int .i64 0]) (by simp [results, Try.results47, go_sem, k0, k1, z1]) rfl ⟨h, l, 0, rfl, r.out, ?_⟩
      repeat (first | exact B1 | refine Below.setCell ?_ (by simp <;> omega) _ | refine Below.alloc ?_ (by simp <;> omega) _)
    · replace r := Lib.hid r
      go_wp2
      refine bodyPost_ret (v := .tuple #[.agg #[.int .i64 0, .int .u64 0], .int .i64 2]) (by simp [results, Try.results47, go_sem, k0, k1, z1]) rfl ⟨0, 0, 2, rfl, Or.inr ⟨rfl, rfl, rfl, r.out⟩, ?_⟩
      repeat (first | exact B1 | refine Below.setCell ?_ (by simp <;> omega) _ | refine Below.alloc ?_ (by simp <;> omega) _)

theorem rNeg_any (h1 l1 h l er : Int) (w : World) (b1 : Bd h1 l1) (r : Res (-num h1 l1) h l er) :
    Calls Try.prog 47 #[.agg #[.int .i64 h1, .int .u64 l1]] w fun e w' =>
      e = .returned (.tuple #[.agg #[.int .i64 h, .int .u64 l], .int .i64 er]) ∧ Below w.heap.size w w' :=
  (rNeg_tells h1 l1 w b1).mono fun e w' ⟨h', l', er', he, r', hb⟩ => by
    obtain ⟨rfl, rfl, rfl⟩ := res_unique r r'
    exact ⟨he, hb⟩

end Go.Proofs.Ytmngbhkokglmjaa.Vr
