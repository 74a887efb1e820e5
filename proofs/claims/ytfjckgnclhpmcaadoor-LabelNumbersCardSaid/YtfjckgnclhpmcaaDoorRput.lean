/- What put, words and of of the reference of layer 2 come to: a number as a sign and eight digits. -/
import Derived.Test.YtfjckgnclhpmcaaDoorVdiv
import Derived.Test.YtfjckgnclhpmcaaDoorRmath
namespace Go.Proofs.YtfjckgnclhpmcaaDoor.Vr
set_option linter.unusedSimpArgs false
set_option linter.unusedVariables false
open Go.RowKit Go.Proofs.YtfjckgnclhpmcaaDoor.Vm Go.Proofs.YtfjckgnclhpmcaaDoor.Vc

set_option maxHeartbeats 400000

theorem put_at (s : Bool) (h l d0 d1 d2 d3 d4 d5 d6 d7 : Int) (w : World) (h0 : 0 ≤ h) (h1 : h ≤ 18446744073709551615) (l0 : 0 ≤ l) (l1 : l ≤ 18446744073709551615) (D : D8 (num h l) d0 d1 d2 d3 d4 d5 d6 d7) :
    Calls Tryd.prog 45 #[.bool s, .int .u64 h, .int .u64 l] w fun e w' => e = .returned (.agg #[.bool s, .int .u64 d0, .int .u64 d1, .int .u64 d2, .int .u64 d3, .int .u64 d4, .int .u64 d5, .int .u64 d6, .int .u64 d7]) ∧
      w' = (w.alloc (.cells #[.bool s, .int .u64 d0, .int .u64 d1, .int .u64 d2, .int .u64 d3, .int .u64 d4, .int .u64 d5, .int .u64 d6, .int .u64 d7] 67)).alloc (.cells #[.bool s, .int .u64 d0, .int .u64 d1, .int .u64 d2, .int .u64 d3, .int .u64 d4, .int .u64 d5, .int .u64 d6, .int .u64 d7] 67) := by
  obtain ⟨el, eh⟩ := d8_words l0 l1 D
  obtain ⟨c0, c1, c2, c3, c4, c5, c6, c7, _⟩ := D
  obtain ⟨m1, m2, m3, a0, a1, a2, a3, a4, a5, a6, a7, a8, a9, a10, a11, a12⟩ := dg4_steps c0 c1 c2 c3 el
  obtain ⟨n1, n2, n3, b0, b1, b2, b3, b4, b5, b6, b7, b8, b9, b10, b11, b12⟩ := dg4_steps c4 c5 c6 c7 eh
  clear el eh c0 c1 c2 c3 c4 c5 c6 c7
  go_enter Tryd.func45, Tryd.ntmps45
  go_wp2
  refine wp_loop_rounds 5 ?_
  rw [rounds_succ]
  go_wp2
  rw [rounds_succ]
  go_wp2
  rw [rounds_succ]
  go_wp2
  rw [rounds_succ]
  go_wp2
  rw [rounds_succ]
  go_wp2
  refine bodyPost_ret (v := .agg #[.bool s, .int .u64 d0, .int .u64 d1, .int .u64 d2, .int .u64 d3, .int .u64 d4, .int .u64 d5, .int .u64 d6, .int .u64 d7]) (by simp [results, Tryd.results45, go_sem]) rfl ⟨rfl, rfl⟩

end Go.Proofs.YtfjckgnclhpmcaaDoor.Vr
