/- What Periods of package field, and patternOf, weeksOf and endOf of package shape come to. -/
import Derived.Test.YtjiifmdjhdhabaaGreatDoorAcode
import Derived.Test.YtjiifmdjhdhabaaGreatDoorJP
import Derived.Test.YtjiifmdjhdhabaaGreatDoorJK
namespace Go.Proofs.YtjiifmdjhdhabaaGreatDoor.Hp
set_option linter.unusedSimpArgs false
set_option linter.unusedVariables false
open Go.RowKit Go.Proofs.YtjiifmdjhdhabaaGreatDoor.Bn Go.Proofs.YtjiifmdjhdhabaaGreatDoor.Bx Go.Proofs.YtjiifmdjhdhabaaGreatDoor.Cp Go.Proofs.YtjiifmdjhdhabaaGreatDoor.Am Go.Proofs.YtjiifmdjhdhabaaGreatDoor.Fp Go.Proofs.YtjiifmdjhdhabaaGreatDoor.Ap Go.Proofs.YtjiifmdjhdhabaaGreatDoor.Cm Go.Proofs.YtjiifmdjhdhabaaGreatDoor.Em Go.Proofs.YtjiifmdjhdhabaaGreatDoor.Ep

set_option maxHeartbeats 1000000

theorem cyc_of {c : CalZ} (h : KindOk c) : c.sh = 3 → c.cy = 1 ∨ c.cy = 2 ∨ c.cy = 4 := fun e => by
  rcases shape_cases h with h | h | ⟨_, _, h⟩
  · omega
  · omega
  · rcases cut_cases h with h | h | h | h | h <;> omega

set_option maxRecDepth 100000 in
theorem Periods_any (c : CalZ) (v er : Int) (w : World) (R : PersA c v er) (hm : c.nm.size ≤ maxLen) (T : FTab w) :
    Calls Tryz.prog 41 #[.agg #[.string c.nm, .int .i64 c.k, .int .i64 c.d, .int .i64 c.m, .int .i64 c.s, .int .i64 c.sh, .int .i64 c.p0, .int .i64 c.p1, .int .i64 c.p2, .int .i64 c.cy, .int .i64 c.ex, .int .i64 c.fi, .int .i64 c.la, .int .i64 c.po]] w fun e w' => e = .returned (.tuple #[.int .i64 v, .int .i64 er]) ∧ Below w.heap.size w w' := by
  have C := CalIn.new w c 24
  have B := balloc (Below.refl _ w) (.cells #[.string c.nm, .int .i64 c.k, .int .i64 c.d, .int .i64 c.m, .int .i64 c.s, .int .i64 c.sh, .int .i64 c.p0, .int .i64 c.p1, .int .i64 c.p2, .int .i64 c.cy, .int .i64 c.ex, .int .i64 c.fi, .int .i64 c.la, .int .i64 c.po] 24)
  replace T := T.alloc (.cells #[.string c.nm, .int .i64 c.k, .int .i64 c.d, .int .i64 c.m, .int .i64 c.s, .int .i64 c.sh, .int .i64 c.p0, .int .i64 c.p1, .int .i64 c.p2, .int .i64 c.cy, .int .i64 c.ex, .int .i64 c.fi, .int .i64 c.la, .int .i64 c.po] 24)
  rcases R with ⟨ok, hv, rfl⟩ | ⟨no, rfl, rfl⟩
  · have ck := fun w T => Check_any c 0 w (.inl ⟨ok, rfl⟩) hm T
    have cp := fun w => periods_any c v w hv (cyc_of ok.1)
    clear ok hv
    go_enter Tryz.func41, Tryz.ntmps41
    go_upto_region 1 with fail
    generalize w.alloc (.cells #[.string c.nm, .int .i64 c.k, .int .i64 c.d, .int .i64 c.m, .int .i64 c.s, .int .i64 c.sh, .int .i64 c.p0, .int .i64 c.p1, .int .i64 c.p2, .int .i64 c.cy, .int .i64 c.ex, .int .i64 c.fi, .int .i64 c.la, .int .i64 c.po] 24) = W0 at *
    obtain ⟨_, c0, c1, c2, c3, c4, c5, c6, c7, c8, c9, c10, c11, c12, c13⟩ := id C
    go_wp2_with fail
    refine (ck _ T).mono ?_
    rintro e w1 ⟨rfl, hb⟩
    replace C := C.kept hb
    replace B := bthen B hb
    replace T := T.kept hb
    clear hb c0 c1 c2 c3 c4 c5 c6 c7 c8 c9 c10 c11 c12 c13
    obtain ⟨_, c0, c1, c2, c3, c4, c5, c6, c7, c8, c9, c10, c11, c12, c13⟩ := id C
    go_wp2_with fail
    refine (cp _).mono ?_
    rintro e w2 ⟨rfl, hb⟩
    replace C := C.kept hb
    replace B := bthen B hb
    replace T := T.kept hb
    clear hb c0 c1 c2 c3 c4 c5 c6 c7 c8 c9 c10 c11 c12 c13
    obtain ⟨_, c0, c1, c2, c3, c4, c5, c6, c7, c8, c9, c10, c11, c12, c13⟩ := id C
    go_wp2
    go_ret2
    exact ⟨rfl, B⟩
  · have ck := fun w T => Check_any c 1 w (.inr ⟨no, rfl⟩) hm T
    clear no
    go_enter Tryz.func41, Tryz.ntmps41
    go_upto_region 1 with fail
    generalize w.alloc (.cells #[.string c.nm, .int .i64 c.k, .int .i64 c.d, .int .i64 c.m, .int .i64 c.s, .int .i64 c.sh, .int .i64 c.p0, .int .i64 c.p1, .int .i64 c.p2, .int .i64 c.cy, .int .i64 c.ex, .int .i64 c.fi, .int .i64 c.la, .int .i64 c.po] 24) = W0 at *
    obtain ⟨_, c0, c1, c2, c3, c4, c5, c6, c7, c8, c9, c10, c11, c12, c13⟩ := id C
    go_wp2_with fail
    refine (ck _ T).mono ?_
    rintro e w3 ⟨rfl, hb⟩
    replace C := C.kept hb
    replace B := bthen B hb
    replace T := T.kept hb
    clear hb c0 c1 c2 c3 c4 c5 c6 c7 c8 c9 c10 c11 c12 c13
    obtain ⟨_, c0, c1, c2, c3, c4, c5, c6, c7, c8, c9, c10, c11, c12, c13⟩ := id C
    go_wp2
    go_ret2
    exact ⟨rfl, B⟩

set_option maxRecDepth 100000 in
theorem patternOf_any (c : CalZ) (a b d : Int) (w : World) (cut : CutOk c) (ha : a = pat c 1) (hb' : b = pat c 2) (hd : d = pat c 3) :
    Calls Tryz.prog 132 #[.agg #[.string c.nm, .int .i64 c.k, .int .i64 c.d, .int .i64 c.m, .int .i64 c.s, .int .i64 c.sh, .int .i64 c.p0, .int .i64 c.p1, .int .i64 c.p2, .int .i64 c.cy, .int .i64 c.ex, .int .i64 c.fi, .int .i64 c.la, .int .i64 c.po]] w fun e w' => e = .returned (.agg #[.int .i64 a, .int .i64 b, .int .i64 d]) ∧ Below w.heap.size w w' := by
  have C := CalIn.new w c 24
  have B := balloc (Below.refl _ w) (.cells #[.string c.nm, .int .i64 c.k, .int .i64 c.d, .int .i64 c.m, .int .i64 c.s, .int .i64 c.sh, .int .i64 c.p0, .int .i64 c.p1, .int .i64 c.p2, .int .i64 c.cy, .int .i64 c.ex, .int .i64 c.fi, .int .i64 c.la, .int .i64 c.po] 24)
  have O : (c.sh = 2 ∧ a = 4 ∧ b = 4 ∧ d = 4) ∨ (c.sh = 3 ∧ a = c.cy ∧ b = c.cy ∧ d = c.cy) ∨ (c.sh = 1 ∧ a = c.p0 ∧ b = c.p1 ∧ d = c.p2) := by
    subst ha hb' hd
    unfold pat
    rcases cut_cases cut with h | h | h | h | h
    · exact .inr (.inr ⟨h.1, by rw [if_pos h.1, if_pos (by decide)], by rw [if_pos h.1, if_neg (by decide), if_pos (by decide)], by rw [if_pos h.1, if_neg (by decide), if_neg (by decide)]⟩)
    · exact .inl ⟨h.1, by rw [if_neg (by omega), if_pos h.1], by rw [if_neg (by omega), if_pos h.1], by rw [if_neg (by omega), if_pos h.1]⟩
    all_goals exact .inr (.inl ⟨h.1, by rw [if_neg (by omega), if_neg (by omega)], by rw [if_neg (by omega), if_neg (by omega)], by rw [if_neg (by omega), if_neg (by omega)]⟩)
  clear ha hb' hd cut
  obtain ⟨_, c0, c1, c2, c3, c4, c5, c6, c7, c8, c9, c10, c11, c12, c13⟩ := id C
  rcases O with ⟨h, rfl, rfl, rfl⟩ | ⟨h, rfl, rfl, rfl⟩ | ⟨h, rfl, rfl, rfl⟩
  · have d2 : (c.sh == 2) = true := by rw [h]; rfl
    clear h
    go_enter Tryz.func132, Tryz.ntmps132
    go_wp2
    refine bodyPost_ret (v := .agg #[.int .i64 4, .int .i64 4, .int .i64 4]) (by simp [results, Tryz.results132, go_sem]) rfl ⟨rfl, ?_⟩
    exact balloc B _
  · have d2 : (c.sh == 2) = false := by rw [h]; rfl
    have d3 : (c.sh == 3) = true := by rw [h]; rfl
    clear h
    go_enter Tryz.func132, Tryz.ntmps132
    go_wp2
    refine bodyPost_ret (v := .agg #[.int .i64 c.cy, .int .i64 c.cy, .int .i64 c.cy]) (by simp [results, Tryz.results132, go_sem]) rfl ⟨rfl, ?_⟩
    exact balloc B _
  · have d2 : (c.sh == 2) = false := by rw [h]; rfl
    have d3 : (c.sh == 3) = false := by rw [h]; rfl
    clear h
    go_enter Tryz.func132, Tryz.ntmps132
    go_wp2
    refine bodyPost_ret (v := .agg #[.int .i64 c.p0, .int .i64 c.p1, .int .i64 c.p2]) (by simp [results, Tryz.results132, go_sem]) rfl ⟨rfl, ?_⟩
    exact balloc B _

end Go.Proofs.YtjiifmdjhdhabaaGreatDoor.Hp
