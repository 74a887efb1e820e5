/- What endOf of package field comes to. -/
import Derived.Test.YtaiodjgpojfekaaDoorFcode2
import Derived.Test.YtaiodjgpojfekaaDoorJK
namespace Go.Proofs.YtaiodjgpojfekaaDoor.Fp
set_option linter.unusedSimpArgs false
set_option linter.unusedVariables false
open Go.RowKit Go.Proofs.YtaiodjgpojfekaaDoor.Bn Go.Proofs.YtaiodjgpojfekaaDoor.Cp Go.Proofs.YtaiodjgpojfekaaDoor.Am Go.Proofs.YtaiodjgpojfekaaDoor.Fs

set_option maxHeartbeats 1000000

theorem infoEnd : (Tryd.prog.info? 59).map (·.size) = some 18 := by kernel_rfl

set_option maxRecDepth 100000 in
theorem endOf_1 (w : World) : Calls Tryd.prog 28 #[.int .i64 1] w fun e w' => e = .returned (.tuple #[.agg #[.string ⟨#[]⟩, .int .i64 1, .int .i64 0, .int .i64 0, .int .i64 0, .int .i64 0, .int .i64 0, .int .i64 0, .int .i64 0, .int .i64 0, .int .i64 0, .int .i64 0, .int .i64 0, .int .i64 0, .bool true, .bool true, .bool true, .bool true], .bool true]) ∧ Below w.heap.size w w' := by
  have P := Box.new w #[.string ⟨#[]⟩, .int .i64 1, .int .i64 0, .int .i64 0, .int .i64 0, .int .i64 0, .int .i64 0, .int .i64 0, .int .i64 0, .int .i64 0, .int .i64 0, .int .i64 0, .int .i64 0, .int .i64 0, .bool true, .bool true, .bool true, .bool true] 59
  have B := balloc (Below.refl _ w) (.cells #[.string ⟨#[]⟩, .int .i64 1, .int .i64 0, .int .i64 0, .int .i64 0, .int .i64 0, .int .i64 0, .int .i64 0, .int .i64 0, .int .i64 0, .int .i64 0, .int .i64 0, .int .i64 0, .int .i64 0, .bool true, .bool true, .bool true, .bool true] 59)
  go_enter Tryd.func28, Tryd.ntmps28
  go_upto_region 4 with fail
  apply wp_region_lit
  refine wpList_plain rfl (fun _ hK => ?_)
  go_simp
  refine hK _ _ ?_
  clear hK
  refine wpList_plain rfl (fun _ hK => ?_)
  go_simp
  refine hK _ _ ?_
  clear hK
  refine wpList_plain rfl (fun _ hK => ?_)
  go_simp
  refine hK _ _ ?_
  clear hK
  refine wpList_store_new rfl _ _ _ rfl _ _ 18 rfl rfl infoEnd rfl rfl (by simp [Value.oneCell']) ?_
  simp only [Act.put]
  go_wp2
  refine bodyPost_ret (results_cell2 (t := 2) (ty := 59) rfl _ _ _ w.heap.size 0 ([.string ⟨#[]⟩, .int .i64 1, .int .i64 0, .int .i64 0, .int .i64 0, .int .i64 0, .int .i64 0, .int .i64 0, .int .i64 0, .int .i64 0, .int .i64 0, .int .i64 0, .int .i64 0, .int .i64 0, .bool true, .bool true, .bool true, .bool true] : List Value) _ 18 rfl (fun j v hj => ?_) Tryd.underlying59 rfl infoEnd rfl) rfl ⟨rfl, B⟩
  rw [Nat.zero_add]
  exact P.cell j v hj

set_option maxRecDepth 100000 in
theorem endOf_2 (w : World) : Calls Tryd.prog 28 #[.int .i64 2] w fun e w' => e = .returned (.tuple #[.agg #[.string ⟨#[]⟩, .int .i64 2, .int .i64 0, .int .i64 0, .int .i64 0, .int .i64 0, .int .i64 0, .int .i64 0, .int .i64 0, .int .i64 0, .int .i64 0, .int .i64 0, .int .i64 0, .int .i64 0, .bool true, .bool true, .bool true, .bool true], .bool true]) ∧ Below w.heap.size w w' := by
  have P := Box.new w #[.string ⟨#[]⟩, .int .i64 2, .int .i64 0, .int .i64 0, .int .i64 0, .int .i64 0, .int .i64 0, .int .i64 0, .int .i64 0, .int .i64 0, .int .i64 0, .int .i64 0, .int .i64 0, .int .i64 0, .bool true, .bool true, .bool true, .bool true] 59
  have B := balloc (Below.refl _ w) (.cells #[.string ⟨#[]⟩, .int .i64 2, .int .i64 0, .int .i64 0, .int .i64 0, .int .i64 0, .int .i64 0, .int .i64 0, .int .i64 0, .int .i64 0, .int .i64 0, .int .i64 0, .int .i64 0, .int .i64 0, .bool true, .bool true, .bool true, .bool true] 59)
  go_enter Tryd.func28, Tryd.ntmps28
  go_upto_region 4 with fail
  apply wp_region_lit
  refine wpList_plain rfl (fun _ hK => ?_)
  go_simp
  refine hK _ _ ?_
  clear hK
  refine wpList_plain rfl (fun _ hK => ?_)
  go_simp
  refine hK _ _ ?_
  clear hK
  refine wpList_plain rfl (fun _ hK => ?_)
  go_simp
  refine hK _ _ ?_
  clear hK
  refine wpList_store_new rfl _ _ _ rfl _ _ 18 rfl rfl infoEnd rfl rfl (by simp [Value.oneCell']) ?_
  simp only [Act.put]
  go_wp2
  refine bodyPost_ret (results_cell2 (t := 2) (ty := 59) rfl _ _ _ w.heap.size 0 ([.string ⟨#[]⟩, .int .i64 2, .int .i64 0, .int .i64 0, .int .i64 0, .int .i64 0, .int .i64 0, .int .i64 0, .int .i64 0, .int .i64 0, .int .i64 0, .int .i64 0, .int .i64 0, .int .i64 0, .bool true, .bool true, .bool true, .bool true] : List Value) _ 18 rfl (fun j v hj => ?_) Tryd.underlying59 rfl infoEnd rfl) rfl ⟨rfl, B⟩
  rw [Nat.zero_add]
  exact P.cell j v hj

set_option maxRecDepth 100000 in
theorem endOf_3 (w : World) : Calls Tryd.prog 28 #[.int .i64 3] w fun e w' => e = .returned (.tuple #[.agg #[.string ⟨#[]⟩, .int .i64 3, .int .i64 6, .int .i64 1, .int .i64 1, .int .i64 1, .int .i64 4, .int .i64 5, .int .i64 4, .int .i64 0, .int .i64 12, .int .i64 0, .int .i64 0, .int .i64 0, .bool false, .bool false, .bool false, .bool false], .bool true]) ∧ Below w.heap.size w w' := by
  have P := Box.new w #[.string ⟨#[]⟩, .int .i64 3, .int .i64 6, .int .i64 1, .int .i64 1, .int .i64 1, .int .i64 4, .int .i64 5, .int .i64 4, .int .i64 0, .int .i64 12, .int .i64 0, .int .i64 0, .int .i64 0, .bool false, .bool false, .bool false, .bool false] 59
  have B := balloc (Below.refl _ w) (.cells #[.string ⟨#[]⟩, .int .i64 3, .int .i64 6, .int .i64 1, .int .i64 1, .int .i64 1, .int .i64 4, .int .i64 5, .int .i64 4, .int .i64 0, .int .i64 12, .int .i64 0, .int .i64 0, .int .i64 0, .bool false, .bool false, .bool false, .bool false] 59)
  go_enter Tryd.func28, Tryd.ntmps28
  go_upto_region 6 with fail
  apply wp_region_lit
  refine wpList_plain rfl (fun _ hK => ?_)
  go_simp
  refine hK _ _ ?_
  clear hK
  refine wpList_plain rfl (fun _ hK => ?_)
  go_simp
  refine hK _ _ ?_
  clear hK
  refine wpList_plain rfl (fun _ hK => ?_)
  go_simp
  refine hK _ _ ?_
  clear hK
  refine wpList_plain rfl (fun _ hK => ?_)
  go_simp
  refine hK _ _ ?_
  clear hK
  refine wpList_store_new rfl _ _ _ rfl _ _ 18 rfl rfl infoEnd rfl rfl (by simp [Value.oneCell']) ?_
  simp only [Act.put]
  go_wp2
  refine bodyPost_ret (results_cell2 (t := 2) (ty := 59) rfl _ _ _ w.heap.size 0 ([.string ⟨#[]⟩, .int .i64 3, .int .i64 6, .int .i64 1, .int .i64 1, .int .i64 1, .int .i64 4, .int .i64 5, .int .i64 4, .int .i64 0, .int .i64 12, .int .i64 0, .int .i64 0, .int .i64 0, .bool false, .bool false, .bool false, .bool false] : List Value) _ 18 rfl (fun j v hj => ?_) Tryd.underlying59 rfl infoEnd rfl) rfl ⟨rfl, B⟩
  rw [Nat.zero_add]
  exact P.cell j v hj

set_option maxRecDepth 100000 in
theorem endOf_4 (w : World) : Calls Tryd.prog 28 #[.int .i64 4] w fun e w' => e = .returned (.tuple #[.agg #[.string ⟨#[]⟩, .int .i64 4, .int .i64 7, .int .i64 12, .int .i64 0, .int .i64 4, .int .i64 0, .int .i64 0, .int .i64 0, .int .i64 0, .int .i64 12, .int .i64 0, .int .i64 0, .int .i64 0, .bool false, .bool false, .bool false, .bool false], .bool true]) ∧ Below w.heap.size w w' := by
  have P := Box.new w #[.string ⟨#[]⟩, .int .i64 4, .int .i64 7, .int .i64 12, .int .i64 0, .int .i64 4, .int .i64 0, .int .i64 0, .int .i64 0, .int .i64 0, .int .i64 12, .int .i64 0, .int .i64 0, .int .i64 0, .bool false, .bool false, .bool false, .bool false] 59
  have B := balloc (Below.refl _ w) (.cells #[.string ⟨#[]⟩, .int .i64 4, .int .i64 7, .int .i64 12, .int .i64 0, .int .i64 4, .int .i64 0, .int .i64 0, .int .i64 0, .int .i64 0, .int .i64 12, .int .i64 0, .int .i64 0, .int .i64 0, .bool false, .bool false, .bool false, .bool false] 59)
  go_enter Tryd.func28, Tryd.ntmps28
  go_upto_region 8 with fail
  apply wp_region_lit
  refine wpList_plain rfl (fun _ hK => ?_)
  go_simp
  refine hK _ _ ?_
  clear hK
  refine wpList_plain rfl (fun _ hK => ?_)
  go_simp
  refine hK _ _ ?_
  clear hK
  refine wpList_plain rfl (fun _ hK => ?_)
  go_simp
  refine hK _ _ ?_
  clear hK
  refine wpList_store_new rfl _ _ _ rfl _ _ 18 rfl rfl infoEnd rfl rfl (by simp [Value.oneCell']) ?_
  simp only [Act.put]
  go_wp2
  refine bodyPost_ret (results_cell2 (t := 2) (ty := 59) rfl _ _ _ w.heap.size 0 ([.string ⟨#[]⟩, .int .i64 4, .int .i64 7, .int .i64 12, .int .i64 0, .int .i64 4, .int .i64 0, .int .i64 0, .int .i64 0, .int .i64 0, .int .i64 12, .int .i64 0, .int .i64 0, .int .i64 0, .bool false, .bool false, .bool false, .bool false] : List Value) _ 18 rfl (fun j v hj => ?_) Tryd.underlying59 rfl infoEnd rfl) rfl ⟨rfl, B⟩
  rw [Nat.zero_add]
  exact P.cell j v hj

set_option maxRecDepth 100000 in
theorem endOf_5 (w : World) : Calls Tryd.prog 28 #[.int .i64 5] w fun e w' => e = .returned (.tuple #[.agg #[.string ⟨#[]⟩, .int .i64 5, .int .i64 7, .int .i64 12, .int .i64 0, .int .i64 0, .int .i64 0, .int .i64 0, .int .i64 0, .int .i64 0, .int .i64 0, .int .i64 0, .int .i64 0, .int .i64 0, .bool false, .bool false, .bool false, .bool true], .bool true]) ∧ Below w.heap.size w w' := by
  have P := Box.new w #[.string ⟨#[]⟩, .int .i64 5, .int .i64 7, .int .i64 12, .int .i64 0, .int .i64 0, .int .i64 0, .int .i64 0, .int .i64 0, .int .i64 0, .int .i64 0, .int .i64 0, .int .i64 0, .int .i64 0, .bool false, .bool false, .bool false, .bool true] 59
  have B := balloc (Below.refl _ w) (.cells #[.string ⟨#[]⟩, .int .i64 5, .int .i64 7, .int .i64 12, .int .i64 0, .int .i64 0, .int .i64 0, .int .i64 0, .int .i64 0, .int .i64 0, .int .i64 0, .int .i64 0, .int .i64 0, .int .i64 0, .bool false, .bool false, .bool false, .bool true] 59)
  go_enter Tryd.func28, Tryd.ntmps28
  go_upto_region 10 with fail
  apply wp_region_lit
  refine wpList_plain rfl (fun _ hK => ?_)
  go_simp
  refine hK _ _ ?_
  clear hK
  refine wpList_plain rfl (fun _ hK => ?_)
  go_simp
  refine hK _ _ ?_
  clear hK
  refine wpList_plain rfl (fun _ hK => ?_)
  go_simp
  refine hK _ _ ?_
  clear hK
  refine wpList_store_new rfl _ _ _ rfl _ _ 18 rfl rfl infoEnd rfl rfl (by simp [Value.oneCell']) ?_
  simp only [Act.put]
  go_wp2
  refine bodyPost_ret (results_cell2 (t := 2) (ty := 59) rfl _ _ _ w.heap.size 0 ([.string ⟨#[]⟩, .int .i64 5, .int .i64 7, .int .i64 12, .int .i64 0, .int .i64 0, .int .i64 0, .int .i64 0, .int .i64 0, .int .i64 0, .int .i64 0, .int .i64 0, .int .i64 0, .int .i64 0, .bool false, .bool false, .bool false, .bool true] : List Value) _ 18 rfl (fun j v hj => ?_) Tryd.underlying59 rfl infoEnd rfl) rfl ⟨rfl, B⟩
  rw [Nat.zero_add]
  exact P.cell j v hj

set_option maxRecDepth 100000 in
theorem endOf_6 (w : World) : Calls Tryd.prog 28 #[.int .i64 6] w fun e w' => e = .returned (.tuple #[.agg #[.string ⟨#[]⟩, .int .i64 6, .int .i64 0, .int .i64 0, .int .i64 0, .int .i64 5, .int .i64 0, .int .i64 0, .int .i64 0, .int .i64 0, .int .i64 0, .int .i64 0, .int .i64 0, .int .i64 0, .bool false, .bool true, .bool true, .bool false], .bool true]) ∧ Below w.heap.size w w' := by
  have P := Box.new w #[.string ⟨#[]⟩, .int .i64 6, .int .i64 0, .int .i64 0, .int .i64 0, .int .i64 5, .int .i64 0, .int .i64 0, .int .i64 0, .int .i64 0, .int .i64 0, .int .i64 0, .int .i64 0, .int .i64 0, .bool false, .bool true, .bool true, .bool false] 59
  have B := balloc (Below.refl _ w) (.cells #[.string ⟨#[]⟩, .int .i64 6, .int .i64 0, .int .i64 0, .int .i64 0, .int .i64 5, .int .i64 0, .int .i64 0, .int .i64 0, .int .i64 0, .int .i64 0, .int .i64 0, .int .i64 0, .int .i64 0, .bool false, .bool true, .bool true, .bool false] 59)
  go_enter Tryd.func28, Tryd.ntmps28
  go_upto_region 12 with fail
  apply wp_region_lit
  refine wpList_plain rfl (fun _ hK => ?_)
  go_simp
  refine hK _ _ ?_
  clear hK
  refine wpList_plain rfl (fun _ hK => ?_)
  go_simp
  refine hK _ _ ?_
  clear hK
  refine wpList_plain rfl (fun _ hK => ?_)
  go_simp
  refine hK _ _ ?_
  clear hK
  refine wpList_store_new rfl _ _ _ rfl _ _ 18 rfl rfl infoEnd rfl rfl (by simp [Value.oneCell']) ?_
  simp only [Act.put]
  go_wp2
  refine bodyPost_ret (results_cell2 (t := 2) (ty := 59) rfl _ _ _ w.heap.size 0 ([.string ⟨#[]⟩, .int .i64 6, .int .i64 0, .int .i64 0, .int .i64 0, .int .i64 5, .int .i64 0, .int .i64 0, .int .i64 0, .int .i64 0, .int .i64 0, .int .i64 0, .int .i64 0, .int .i64 0, .bool false, .bool true, .bool true, .bool false] : List Value) _ 18 rfl (fun j v hj => ?_) Tryd.underlying59 rfl infoEnd rfl) rfl ⟨rfl, B⟩
  rw [Nat.zero_add]
  exact P.cell j v hj

set_option maxRecDepth 100000 in
theorem endOf_no (k : Int) (h1 : k ≠ 1) (h2 : k ≠ 2) (h3 : k ≠ 3) (h4 : k ≠ 4) (h5 : k ≠ 5) (h6 : k ≠ 6) (w : World) : Calls Tryd.prog 28 #[.int .i64 k] w fun e w' => e = .returned (.tuple #[.agg #[.string ⟨#[]⟩, .int .i64 0, .int .i64 0, .int .i64 0, .int .i64 0, .int .i64 0, .int .i64 0, .int .i64 0, .int .i64 0, .int .i64 0, .int .i64 0, .int .i64 0, .int .i64 0, .int .i64 0, .bool false, .bool false, .bool false, .bool false], .bool false]) ∧ Below w.heap.size w w' := by
  have P := Box.new w #[.string ⟨#[]⟩, .int .i64 0, .int .i64 0, .int .i64 0, .int .i64 0, .int .i64 0, .int .i64 0, .int .i64 0, .int .i64 0, .int .i64 0, .int .i64 0, .int .i64 0, .int .i64 0, .int .i64 0, .bool false, .bool false, .bool false, .bool false] 59
  have B := balloc (Below.refl _ w) (.cells #[.string ⟨#[]⟩, .int .i64 0, .int .i64 0, .int .i64 0, .int .i64 0, .int .i64 0, .int .i64 0, .int .i64 0, .int .i64 0, .int .i64 0, .int .i64 0, .int .i64 0, .int .i64 0, .int .i64 0, .bool false, .bool false, .bool false, .bool false] 59)
  go_enter Tryd.func28, Tryd.ntmps28
  go_upto_region 13 with fail
  apply wp_region_lit
  refine wpList_plain rfl (fun _ hK => ?_)
  go_simp
  refine hK _ _ ?_
  clear hK
  refine wpList_store_new rfl _ _ _ rfl _ _ 18 rfl rfl infoEnd rfl rfl (by simp [Value.oneCell']) ?_
  simp only [Act.put]
  go_wp2
  refine bodyPost_ret (results_cell2 (t := 2) (ty := 59) rfl _ _ _ w.heap.size 0 ([.string ⟨#[]⟩, .int .i64 0, .int .i64 0, .int .i64 0, .int .i64 0, .int .i64 0, .int .i64 0, .int .i64 0, .int .i64 0, .int .i64 0, .int .i64 0, .int .i64 0, .int .i64 0, .int .i64 0, .bool false, .bool false, .bool false, .bool false] : List Value) _ 18 rfl (fun j v hj => ?_) Tryd.underlying59 rfl infoEnd rfl) rfl ⟨rfl, B⟩
  rw [Nat.zero_add]
  exact P.cell j v hj

end Go.Proofs.YtaiodjgpojfekaaDoor.Fp
