/- What Check of package field comes to. -/
import Derived.Test.YtaiodjgpojfekaaDoorFallow
import Derived.Test.YtaiodjgpojfekaaDoorFends
import Derived.Test.YtaiodjgpojfekaaDoorJK
namespace Go.Proofs.YtaiodjgpojfekaaDoor.Fp
set_option linter.unusedSimpArgs false
set_option linter.unusedVariables false
open Go.RowKit Go.Proofs.YtaiodjgpojfekaaDoor.Bn Go.Proofs.YtaiodjgpojfekaaDoor.Cp Go.Proofs.YtaiodjgpojfekaaDoor.Am Go.Proofs.YtaiodjgpojfekaaDoor.Fs

set_option maxHeartbeats 1000000

set_option maxRecDepth 100000 in
theorem Check_walk (c x : CalZ) (b1 b2 b3 b4 th na al yr po : Bool) (er : Int) (w : World)
    (cE : ∀ w, Calls Tryd.prog 28 #[.int .i64 c.k] w fun e w' => e = .returned (.tuple #[.agg #[.string x.nm, .int .i64 x.k, .int .i64 x.d, .int .i64 x.m, .int .i64 x.s, .int .i64 x.sh, .int .i64 x.p0, .int .i64 x.p1, .int .i64 x.p2, .int .i64 x.cy, .int .i64 x.ex, .int .i64 x.fi, .int .i64 x.la, .int .i64 x.po, .bool b1, .bool b2, .bool b3, .bool b4], .bool th]) ∧ Below w.heap.size w w')
    (cN : ∀ w, Calls Tryd.prog 29 #[.string c.nm] w fun e w' => e = .returned (.bool na) ∧ w = w')
    (cA : ∀ w, FTab w → Calls Tryd.prog 30 #[.agg #[.string x.nm, .int .i64 x.k, .int .i64 x.d, .int .i64 x.m, .int .i64 x.s, .int .i64 x.sh, .int .i64 x.p0, .int .i64 x.p1, .int .i64 x.p2, .int .i64 x.cy, .int .i64 x.ex, .int .i64 x.fi, .int .i64 x.la, .int .i64 x.po, .bool b1, .bool b2, .bool b3, .bool b4], .agg #[.string c.nm, .int .i64 c.k, .int .i64 c.d, .int .i64 c.m, .int .i64 c.s, .int .i64 c.sh, .int .i64 c.p0, .int .i64 c.p1, .int .i64 c.p2, .int .i64 c.cy, .int .i64 c.ex, .int .i64 c.fi, .int .i64 c.la, .int .i64 c.po]] w fun e w' => e = .returned (.bool al) ∧ Below w.heap.size w w')
    (cY : ∀ w, Calls Tryd.prog 31 #[.agg #[.string c.nm, .int .i64 c.k, .int .i64 c.d, .int .i64 c.m, .int .i64 c.s, .int .i64 c.sh, .int .i64 c.p0, .int .i64 c.p1, .int .i64 c.p2, .int .i64 c.cy, .int .i64 c.ex, .int .i64 c.fi, .int .i64 c.la, .int .i64 c.po]] w fun e w' => e = .returned (.bool yr) ∧ Below w.heap.size w w')
    (cP : ∀ w, FTab w → Calls Tryd.prog 32 #[.agg #[.string c.nm, .int .i64 c.k, .int .i64 c.d, .int .i64 c.m, .int .i64 c.s, .int .i64 c.sh, .int .i64 c.p0, .int .i64 c.p1, .int .i64 c.p2, .int .i64 c.cy, .int .i64 c.ex, .int .i64 c.fi, .int .i64 c.la, .int .i64 c.po]] w fun e w' => e = .returned (.bool po) ∧ Below w.heap.size w w')
    (hr : er = if (th && (na && (al && (yr && po)))) = true then 0 else 1) (T : FTab w) :
    Calls Tryd.prog 9 #[.agg #[.string c.nm, .int .i64 c.k, .int .i64 c.d, .int .i64 c.m, .int .i64 c.s, .int .i64 c.sh, .int .i64 c.p0, .int .i64 c.p1, .int .i64 c.p2, .int .i64 c.cy, .int .i64 c.ex, .int .i64 c.fi, .int .i64 c.la, .int .i64 c.po]] w fun e w' => e = .returned (.int .i64 er) ∧ Below w.heap.size w w' := by
  have C := CalIn.new w c 24
  have B := balloc (Below.refl _ w) (.cells #[.string c.nm, .int .i64 c.k, .int .i64 c.d, .int .i64 c.m, .int .i64 c.s, .int .i64 c.sh, .int .i64 c.p0, .int .i64 c.p1, .int .i64 c.p2, .int .i64 c.cy, .int .i64 c.ex, .int .i64 c.fi, .int .i64 c.la, .int .i64 c.po] 24)
  go_enter Tryd.func9, Tryd.ntmps9
  go_upto_region 1 with fail
  generalize w.alloc (.cells #[.string c.nm, .int .i64 c.k, .int .i64 c.d, .int .i64 c.m, .int .i64 c.s, .int .i64 c.sh, .int .i64 c.p0, .int .i64 c.p1, .int .i64 c.p2, .int .i64 c.cy, .int .i64 c.ex, .int .i64 c.fi, .int .i64 c.la, .int .i64 c.po] 24) = W0 at *
  obtain ⟨_, c0, c1, c2, c3, c4, c5, c6, c7, c8, c9, c10, c11, c12, c13⟩ := id C
  go_wp2_with fail
  refine (cE _).mono ?_
  rintro e w1 ⟨rfl, hb⟩
  have C1 := (C.kept hb).alloc (.cells #[.string x.nm, .int .i64 x.k, .int .i64 x.d, .int .i64 x.m, .int .i64 x.s, .int .i64 x.sh, .int .i64 x.p0, .int .i64 x.p1, .int .i64 x.p2, .int .i64 x.cy, .int .i64 x.ex, .int .i64 x.fi, .int .i64 x.la, .int .i64 x.po, .bool b1, .bool b2, .bool b3, .bool b4] 59)
  have P1 := Box.new w1 #[.string x.nm, .int .i64 x.k, .int .i64 x.d, .int .i64 x.m, .int .i64 x.s, .int .i64 x.sh, .int .i64 x.p0, .int .i64 x.p1, .int .i64 x.p2, .int .i64 x.cy, .int .i64 x.ex, .int .i64 x.fi, .int .i64 x.la, .int .i64 x.po, .bool b1, .bool b2, .bool b3, .bool b4] 59
  have B1 := balloc (bthen B hb) (.cells #[.string x.nm, .int .i64 x.k, .int .i64 x.d, .int .i64 x.m, .int .i64 x.s, .int .i64 x.sh, .int .i64 x.p0, .int .i64 x.p1, .int .i64 x.p2, .int .i64 x.cy, .int .i64 x.ex, .int .i64 x.fi, .int .i64 x.la, .int .i64 x.po, .bool b1, .bool b2, .bool b3, .bool b4] 59)
  clear C B hb cE c0 c1 c2 c3 c4 c5 c6 c7 c8 c9 c10 c11 c12 c13
  apply_assumption
  iterate 4
    refine wpList_plain rfl (fun _ hK => ?_)
    go_simp
    refine hK _ _ ?_
    clear hK
  refine wpList_store_new rfl _ _ _ rfl _ _ 18 rfl rfl infoEnd rfl rfl (by simp [Value.oneCell']) ?_
  simp only [Act.put]
  go_upto_region 2 with fail
  generalize w1.alloc (.cells #[.string x.nm, .int .i64 x.k, .int .i64 x.d, .int .i64 x.m, .int .i64 x.s, .int .i64 x.sh, .int .i64 x.p0, .int .i64 x.p1, .int .i64 x.p2, .int .i64 x.cy, .int .i64 x.ex, .int .i64 x.fi, .int .i64 x.la, .int .i64 x.po, .bool b1, .bool b2, .bool b3, .bool b4] 59) = W1 at *
  have T1 := T.kept B1
  have LP := box_range P1
  obtain ⟨_, c0, c1, c2, c3, c4, c5, c6, c7, c8, c9, c10, c11, c12, c13⟩ := id C1
  clear P1
  cases th with
  | false =>
    simp at hr
    subst hr
    go_wp2
    go_ret
    exact ⟨rfl, B1⟩
  | true =>
  cases na with
  | false =>
    simp at hr
    subst hr
    go_wp2_with fail
    refine (cN _).mono ?_
    rintro e w2 ⟨rfl, rfl⟩
    go_wp2
    go_ret
    exact ⟨rfl, B1⟩
  | true =>
  go_wp2_with fail
  refine (cN _).mono ?_
  rintro e w2 ⟨rfl, rfl⟩
  apply_assumption
  iterate 3
    refine wpList_step (fun _ hK => ?_)
    go_simp
    refine hK _ _ ?_
    clear hK
  refine wpList_load_midG (by go_simp) _ _ rfl w1.heap.size 0 rfl _ _ LP Tryd.underlying59 rfl infoEndA ?_
  simp only [Act.put]
  clear LP
  go_wp2_with fail
  refine (cA _ T1).mono ?_
  rintro e w3 ⟨rfl, hb⟩
  have C2 := C1.kept hb
  have T2 := T1.kept hb
  have B2 := bthen B1 hb
  clear hb c0 c1 c2 c3 c4 c5 c6 c7 c8 c9 c10 c11 c12 c13 B1 T1 C1
  obtain ⟨_, c0, c1, c2, c3, c4, c5, c6, c7, c8, c9, c10, c11, c12, c13⟩ := id C2
  cases al with
  | false =>
    simp at hr
    subst hr
    go_wp2
    go_ret
    exact ⟨rfl, B2⟩
  | true =>
  go_wp2_with fail
  refine (cY _).mono ?_
  rintro e w4 ⟨rfl, hb⟩
  have C3 := C2.kept hb
  have T3 := T2.kept hb
  have B3 := bthen B2 hb
  clear hb c0 c1 c2 c3 c4 c5 c6 c7 c8 c9 c10 c11 c12 c13 B2 T2 C2
  obtain ⟨_, c0, c1, c2, c3, c4, c5, c6, c7, c8, c9, c10, c11, c12, c13⟩ := id C3
  cases yr with
  | false =>
    simp at hr
    subst hr
    go_wp2
    go_ret
    exact ⟨rfl, B3⟩
  | true =>
  go_wp2_with fail
  refine (cP _ T3).mono ?_
  rintro e w5 ⟨rfl, hb⟩
  have B4 := bthen B3 hb
  cases po with
  | false =>
    simp at hr
    subst hr
    go_wp2
    go_ret
    exact ⟨rfl, B4⟩
  | true =>
    simp at hr
    subst hr
    go_wp2
    go_ret
    exact ⟨rfl, B4⟩

end Go.Proofs.YtaiodjgpojfekaaDoor.Fp
