/- Split and Exact of package rate. -/
import Derived.Test.YtoeifpeiogeenaaGreatDoorPcode
import Derived.Test.YtoeifpeiogeenaaGreatDoorJS
namespace Go.Proofs.YtoeifpeiogeenaaGreatDoor.Pp
set_option linter.unusedSimpArgs false
set_option linter.unusedVariables false
open Go.RowKit Go.Proofs.YtoeifpeiogeenaaGreatDoor.Bn Go.Proofs.YtoeifpeiogeenaaGreatDoor.Bx Go.Proofs.YtoeifpeiogeenaaGreatDoor.Cp Go.Proofs.YtoeifpeiogeenaaGreatDoor.Am Go.Proofs.YtoeifpeiogeenaaGreatDoor.Fp Go.Proofs.YtoeifpeiogeenaaGreatDoor.Ap Go.Proofs.YtoeifpeiogeenaaGreatDoor.Cm Go.Proofs.YtoeifpeiogeenaaGreatDoor.Em Go.Proofs.YtoeifpeiogeenaaGreatDoor.Ep Go.Proofs.YtoeifpeiogeenaaGreatDoor.Rk Go.Proofs.YtoeifpeiogeenaaGreatDoor.Hp Go.Proofs.YtoeifpeiogeenaaGreatDoor.Ip Go.Proofs.YtoeifpeiogeenaaGreatDoor.Jp Go.Proofs.YtoeifpeiogeenaaGreatDoor.Dp
open Go.Proofs.YtoeifpeiogeenaaGreatDoor.Vm (Fit1)
open Go.Proofs.YtoeifpeiogeenaaGreatDoor.Sm (IsSplit sm)
open Go.Proofs.YtoeifpeiogeenaaGreatDoor.Sr (wt split_go)
open Go.Proofs.YtoeifpeiogeenaaGreatDoor.Sl (ls ls_len ls_at ls_sum row_rd)

set_option maxHeartbeats 8000000

theorem infoS : (Tryz.prog.info? 58).map (fun i => (i.zero, i.size, i.bytes)) = some (some (.agg #[.int .i64 0, .int .i64 0, .int .i64 0, .int .i64 0]), 4, 32) := by kernel_rfl
theorem underS : Tryz.prog.underlying 50 = some (.slice 58) := by kernel_rfl

/-- a new row of shares, noughts -/
theorem make_shares (n : Nat) (hn : n ≤ 1000000) :
    ∃ cs : Array Value, (∀ w, (Instr.makeSlice 50 (.int .i64 (n : Int)) (.int .i64 (n : Int))).run Tryz.prog w = .ok (.slice (some ⟨w.heap.size, 0, none⟩) n n) (w.alloc (.cells cs 58))) ∧ ∀ w : World, Mrow (w.alloc (.cells cs 58)) w.heap.size n 4 (fun _ _ => 0) := by
  obtain ⟨i, hi, hz0, hz1, hz2⟩ := info_parts infoS
  have e1 : (n : Int).toNat = n := by omega
  have at' : ∀ j, j < n * 4 → (madeCells #[Value.int .i64 0, .int .i64 0, .int .i64 0, .int .i64 0] (n * 4))[j]? = some (.int .i64 0) := fun j hj => by
    unfold madeCells
    have hm : j % 4 = 0 ∨ j % 4 = 1 ∨ j % 4 = 2 ∨ j % 4 = 3 := by omega
    rcases hm with h | h | h | h <;> simp [hj, h]
  refine ⟨madeCells #[.int .i64 0, .int .i64 0, .int .i64 0, .int .i64 0] (n * 4), fun w => ?_, fun w => ⟨by simp, fun i j hi hj => ?_, fun i j hi hj => by simp [go_sem]⟩⟩
  · have h := run_make (P := Tryz.prog) (w := w) 50 58 i (.agg #[.int .i64 0, .int .i64 0, .int .i64 0, .int .i64 0]) underS hi hz0 .i64 .i64 n n (by omega) (by omega) (by rw [hz2]; omega) (by omega)
    rw [e1, hz1] at h
    exact h
  · simp [go_sem, at' (i * 4 + j) (by omega)]

/-- days as weights -/
structure Weigh (c : CalZ) (L a b : Int) (u : Int × Int) (M : Nat) (zs : List Int) : Prop where
  eq : zs = ls (pday c L a b u) M
  len : zs.length = M
  p : ∀ z ∈ zs, 0 ≤ z
  f : ∀ z ∈ zs, Fit1 z
  s : zs.sum = b - a + 1
  w : ∀ i, i < M → wt zs i = pday c L a b u i
theorem weigh {c : CalZ} {L a b y0 i0 y n : Int} {N M : Nat} (h : Cut c L a b y0 i0 y n N) (hM : N + 1 = M) : Weigh c L a b (y0, i0) M (ls (pday c L a b (y0, i0)) M) := by
  have m : ∀ z ∈ ls (pday c L a b (y0, i0)) M, ∃ k, k ≤ N ∧ z = pday c L a b (y0, i0) k := fun z hz => by
    unfold ls at hz
    rw [List.mem_map] at hz
    obtain ⟨k, hk, rfl⟩ := hz
    exact ⟨k, by have := List.mem_range.1 hk; omega, rfl⟩
  refine ⟨rfl, ls_len _ _, fun z hz => ?_, fun z hz => ?_, ?_, fun i hi => ls_at _ hi⟩
  · obtain ⟨k, hk, rfl⟩ := m z hz
    have := (h.day k hk).1
    omega
  · obtain ⟨k, hk, rfl⟩ := m z hz
    have d := h.day k hk
    have g := h.way.long k hk
    unfold Fit1
    omega
  · rw [ls_sum, ← hM, h.sum]

/-- what Split tells: the unit, and its part -/
def shareF (c : CalZ) (L : Int) (u : Int × Int) (o : Nat → Int) (k j : Nat) : Int :=
  if j = 0 then L else if j = 1 then (itu c L u k).1 else if j = 2 then (itu c L u k).2 else o k
def SharesTo (w : World) (c : CalZ) (L A a b : Int) (u : Int × Int) (M : Nat) (e : Ending) (w' : World) : Prop :=
  ∃ (g : Nat) (o : Nat → Int), e = .returned (.tuple #[.slice (some ⟨g, 0, none⟩) M M, .int .i64 0]) ∧ Mrow w' g M 4 (shareF c L u o) ∧ IsSplit A (pday c L a b u) M o ∧ w.heap.size ≤ g ∧ Below w.heap.size w w'

set_option maxRecDepth 100000 in
theorem Split_ok (c : CalZ) (L A a b y0 i0 y n : Int) (N M : Nat) (w : World) (h : Cut c L a b y0 i0 y n N) (hM : N + 1 = M) (M1 : M ≤ 4096) (fa : Fit1 A) (hm : c.nm.size ≤ maxLen) (T : FTab w) :
    Calls Tryz.prog 27 #[.agg #[.string c.nm, .int .i64 c.k, .int .i64 c.d, .int .i64 c.m, .int .i64 c.s, .int .i64 c.sh, .int .i64 c.p0, .int .i64 c.p1, .int .i64 c.p2, .int .i64 c.cy, .int .i64 c.ex, .int .i64 c.fi, .int .i64 c.la, .int .i64 c.po], .int .i64 L, .int .i64 A, .agg #[.int .i64 a, .int .i64 b]] w (SharesTo w c L A a b (y0, i0) M) := by
  have C := CalIn.new w c 24
  have S := Go.Proofs.YtoeifpeiogeenaaGreatDoor.Pr.Two.new (w.alloc (.cells #[.string c.nm, .int .i64 c.k, .int .i64 c.d, .int .i64 c.m, .int .i64 c.s, .int .i64 c.sh, .int .i64 c.p0, .int .i64 c.p1, .int .i64 c.p2, .int .i64 c.cy, .int .i64 c.ex, .int .i64 c.fi, .int .i64 c.la, .int .i64 c.po] 24)) (.int .i64 a) (.int .i64 b) 43
  rw [World.size_alloc] at S
  replace C := C.alloc (.cells #[.int .i64 a, .int .i64 b] 43)
  have B := balloc (balloc (Below.refl _ w) (.cells #[.string c.nm, .int .i64 c.k, .int .i64 c.d, .int .i64 c.m, .int .i64 c.s, .int .i64 c.sh, .int .i64 c.p0, .int .i64 c.p1, .int .i64 c.p2, .int .i64 c.cy, .int .i64 c.ex, .int .i64 c.fi, .int .i64 c.la, .int .i64 c.po] 24)) (.cells #[.int .i64 a, .int .i64 b] 43)
  replace T := (T.alloc (.cells #[.string c.nm, .int .i64 c.k, .int .i64 c.d, .int .i64 c.m, .int .i64 c.s, .int .i64 c.sh, .int .i64 c.p0, .int .i64 c.p1, .int .i64 c.p2, .int .i64 c.cy, .int .i64 c.ex, .int .i64 c.fi, .int .i64 c.la, .int .i64 c.po] 24)).alloc (.cells #[.int .i64 a, .int .i64 b] 43)
  have qc := fun w T => cut_ok c L a b y0 i0 y n N M w h hM (by omega) hm T
  have qd := fun g w R => daysOf_ok g M M (partF c L a b (y0, i0)) w R (by omega) (fun k hk => part_bd h k (by omega))
  have W := weigh h hM
  have bd := h.bd
  have ab := h.ab
  have qs := fun g w R => split_go (some ⟨g, 0, none⟩) M M (ls (pday c L a b (y0, i0)) M) A w W.len (by omega) M1 fa W.f R W.p (by rw [W.s]; omega) (by rw [W.s]; unfold Fit1; omega)
  have HW : Hid (∀ o, IsSplit A (wt (ls (pday c L a b (y0, i0)) M)) M o → IsSplit A (pday c L a b (y0, i0)) M o) := Lib.hid (fun o ho => Go.Proofs.YtoeifpeiogeenaaGreatDoor.Sl.split_congr (fun i hi => W.w i hi) ho)
  obtain ⟨cs, hmk, hrow⟩ := make_shares M (by omega)
  have HR := Lib.hid hrow
  clear h hM bd ab W hrow fa
  go_enter Tryz.func27, Tryz.ntmps27
  go_upto_region 1 with fail
  generalize (w.alloc (.cells #[.string c.nm, .int .i64 c.k, .int .i64 c.d, .int .i64 c.m, .int .i64 c.s, .int .i64 c.sh, .int .i64 c.p0, .int .i64 c.p1, .int .i64 c.p2, .int .i64 c.cy, .int .i64 c.ex, .int .i64 c.fi, .int .i64 c.la, .int .i64 c.po] 24)).alloc (.cells #[.int .i64 a, .int .i64 b] 43) = W0 at *
  obtain ⟨_, c0, c1, c2, c3, c4, c5, c6, c7, c8, c9, c10, c11, c12, c13⟩ := id C
  obtain ⟨_, s0, s1, fs0, fs1⟩ := id S
  go_wp2_with fail
  refine (qc _ T).mono ?_
  rintro e w1 ⟨g, rfl, R, hg, hb⟩
  replace C := C.kept hb
  replace B := bthen B hb
  replace T := T.kept hb
  replace S := S.kept hb
  clear hb c0 c1 c2 c3 c4 c5 c6 c7 c8 c9 c10 c11 c12 c13 s0 s1 fs0 fs1
  obtain ⟨_, c0, c1, c2, c3, c4, c5, c6, c7, c8, c9, c10, c11, c12, c13⟩ := id C
  obtain ⟨_, s0, s1, fs0, fs1⟩ := id S
  clear hg s0 s1 fs0 fs1 S qc
  clear c0 c1 c2 c3 c4 c5 c6 c7 c8 c9 c10 c11 c12 c13 
  go_wp2_with fail
  refine (qd g _ R).mono ?_
  rintro e w2 ⟨g2, rfl, Q, hg2, hb⟩
  replace B := bthen B hb
  replace R := R.kept hb
  clear hb hg2 qd
  go_wp2_with fail
  refine (qs g2 _ (row_rd Q)).mono ?_
  rintro e w3 ⟨g3, o, rfl, O, hg3, ho, hb⟩
  replace B := bthen B hb
  replace R := R.kept hb
  have HO := Lib.hid (HW.out o ho)
  clear hb hg3 qs Q ho HW T C
  go_upto_region 8 with fail
  have Q0 := HR.out w3
  have B1 := balloc (Below.refl _ w3) (.cells cs 58)
  have szG := B.size
  generalize hW2 : w3.alloc (.cells cs 58) = W2 at *
  generalize hG : w3.heap.size = G at *
  clear hW2
  go_wp2
  go_loopw [41] (fun Y wr => ∃ k : Nat, k ≤ M ∧ Y = .int .i64 (k : Int) ∧ Below w3.heap.size w3 wr ∧ Mrow wr G M 4 (upTo k (shareF c L (y0, i0) o))) (fun Y _ => M - (intOf Y).toNat)
  case atStart => exact ⟨0, by omega, rfl, by rw [hG]; exact B1, Q0.congr (fun i j _ _ => (upTo_zero _ i j).symm)⟩
  case round =>
    clear Q0 B1
    obtain ⟨k, kM, rfl, B2, Q⟩ := hrel
    have R2 := R.kept B2
    have O2 := O.kept B2
    by_cases hlt : k < M
    · have r0 := R2.c k 0 hlt (by omega)
      have r1 := R2.c k 1 hlt (by omega)
      have r2 := R2.c k 2 hlt (by omega)
      have r3 := R2.c k 3 hlt (by omega)
      have r4 := R2.c k 4 hlt (by omega)
      rw [Nat.add_zero] at r0
      have e0 : partF c L a b (y0, i0) k 0 = L := rfl
      have e1 : partF c L a b (y0, i0) k 1 = (itu c L (y0, i0) k).1 := rfl
      have e2 : partF c L a b (y0, i0) k 2 = (itu c L (y0, i0) k).2 := rfl
      rw [e0] at r0
      rw [e1] at r1
      rw [e2] at r2
      clear e0 e1 e2
      obtain ⟨p, hp⟩ : ∃ x, (itu c L (y0, i0) k).1 = x := ⟨_, rfl⟩
      obtain ⟨q, hq⟩ : ∃ x, (itu c L (y0, i0) k).2 = x := ⟨_, rfl⟩
      obtain ⟨v, hv⟩ : ∃ x, o k = x := ⟨_, rfl⟩
      have HE := Lib.hid (And.intro hp (And.intro hq hv))
      rw [hp] at r1
      rw [hq] at r2
      clear hp hq hv
      generalize partF c L a b (y0, i0) k 3 = f at r3
      generalize partF c L a b (y0, i0) k 4 = t at r4
      have kk : (k : Int) < (M : Int) := by omega
      have B3 := balloc B2 (.cells #[.int .i64 L, .int .i64 p, .int .i64 q, .int .i64 f, .int .i64 t] 98)
      have K := Box.new wr #[.int .i64 L, .int .i64 p, .int .i64 q, .int .i64 f, .int .i64 t] 98
      have Q3 := Q.alloc (.cells #[.int .i64 L, .int .i64 p, .int .i64 q, .int .i64 f, .int .i64 t] 98)
      go_upto_region 11 with fail
      clear r0 r1 r2 r3 r4 R2 Q O2
      generalize wr.alloc (.cells #[.int .i64 L, .int .i64 p, .int .i64 q, .int .i64 f, .int .i64 t] 98) = W8 at *
      have O3 := O.kept B3
      obtain ⟨_, k0, k1, k2, k3, k4, fk0, fk1, fk2, fk3, fk4⟩ := K.five
      have ov := O3.c k hlt
      rw [HE.out.2.2] at ov
      have p0 := Q3.c k 0 hlt (by omega)
      have p1 := Q3.c k 1 hlt (by omega)
      have p2 := Q3.c k 2 hlt (by omega)
      have p3 := Q3.c k 3 hlt (by omega)
      have z0 := Q3.z k 0 hlt (by omega)
      have z1 := Q3.z k 1 hlt (by omega)
      have z2 := Q3.z k 2 hlt (by omega)
      have z3 := Q3.z k 3 hlt (by omega)
      rw [Nat.add_zero] at p0 z0
      generalize upTo k (shareF c L (y0, i0) o) k 0 = o0 at p0
      generalize upTo k (shareF c L (y0, i0) o) k 1 = o1 at p1
      generalize upTo k (shareF c L (y0, i0) o) k 2 = o2 at p2
      generalize upTo k (shareF c L (y0, i0) o) k 3 = o3 at p3
      have X := (Q3.set4 hlt L p q v).congr (f' := upTo (k + 1) (shareF c L (y0, i0) o)) (fun i j _ hj => upTo_next (fun e => by
        have : j = 0 ∨ j = 1 ∨ j = 2 ∨ j = 3 := by omega
        rcases this with rfl | rfl | rfl | rfl
        · rfl
        · exact HE.out.1
        · exact HE.out.2.1
        · exact HE.out.2.2))
      have B10 := bset (bset (bset (bset B3 (g := G) (by omega) (k * 4) (.int .i64 L)) (g := G) (by omega) (k * 4 + 1) (.int .i64 p)) (g := G) (by omega) (k * 4 + 2) (.int .i64 q)) (g := G) (by omega) (k * 4 + 3) (.int .i64 v)
      have XB := Lib.hid (And.intro X B10)
      clear Q3 B3 O3 K fk0 fk1 fk2 fk3 fk4 X B10
      go_region
      all_goals go_wp2
      all_goals go_roundw
      case rel => exact ⟨k + 1, by omega, by go_num, bdrewN XB.out.2 1, XB.out.1.kept (bdrewN (Below.refl _ _) 1)⟩
      case measure => simp [intOf]; omega
    · obtain rfl : k = M := by omega
      have kk : decide ((k : Int) < (k : Int)) = false := decide_eq_false (by omega)
      have Z : SharesTo w c L A a b (y0, i0) k (.returned (.tuple #[.slice (some ⟨G, 0, none⟩) k k, .int .i64 0])) wr := ⟨G, o, rfl, Q.congr (fun i j hi _ => upTo_all hi), HO.out, by omega, bthen B B2⟩
      have HZ := Lib.hid Z
      clear Z Q
      go_wp2
      exact bodyPost_ret (v := .tuple #[.slice (some ⟨G, 0, none⟩) k k, .int .i64 0]) (by simp [results, Tryz.results27, go_sem]) rfl HZ.out

set_option maxRecDepth 100000 in
theorem Split_er (c : CalZ) (L A a b er : Int) (w : World) (R : MeetsA c L a b er) (ne : er ≠ 0) (hm : c.nm.size ≤ maxLen) (T : FTab w) :
    Calls Tryz.prog 27 #[.agg #[.string c.nm, .int .i64 c.k, .int .i64 c.d, .int .i64 c.m, .int .i64 c.s, .int .i64 c.sh, .int .i64 c.p0, .int .i64 c.p1, .int .i64 c.p2, .int .i64 c.cy, .int .i64 c.ex, .int .i64 c.fi, .int .i64 c.la, .int .i64 c.po], .int .i64 L, .int .i64 A, .agg #[.int .i64 a, .int .i64 b]] w fun e w' => e = .returned (.tuple #[.slice none 0 0, .int .i64 er]) ∧ Below w.heap.size w w' := by
  have C := CalIn.new w c 24
  have S := Go.Proofs.YtoeifpeiogeenaaGreatDoor.Pr.Two.new (w.alloc (.cells #[.string c.nm, .int .i64 c.k, .int .i64 c.d, .int .i64 c.m, .int .i64 c.s, .int .i64 c.sh, .int .i64 c.p0, .int .i64 c.p1, .int .i64 c.p2, .int .i64 c.cy, .int .i64 c.ex, .int .i64 c.fi, .int .i64 c.la, .int .i64 c.po] 24)) (.int .i64 a) (.int .i64 b) 43
  rw [World.size_alloc] at S
  replace C := C.alloc (.cells #[.int .i64 a, .int .i64 b] 43)
  have B := balloc (balloc (Below.refl _ w) (.cells #[.string c.nm, .int .i64 c.k, .int .i64 c.d, .int .i64 c.m, .int .i64 c.s, .int .i64 c.sh, .int .i64 c.p0, .int .i64 c.p1, .int .i64 c.p2, .int .i64 c.cy, .int .i64 c.ex, .int .i64 c.fi, .int .i64 c.la, .int .i64 c.po] 24)) (.cells #[.int .i64 a, .int .i64 b] 43)
  replace T := (T.alloc (.cells #[.string c.nm, .int .i64 c.k, .int .i64 c.d, .int .i64 c.m, .int .i64 c.s, .int .i64 c.sh, .int .i64 c.p0, .int .i64 c.p1, .int .i64 c.p2, .int .i64 c.cy, .int .i64 c.ex, .int .i64 c.fi, .int .i64 c.la, .int .i64 c.po] 24)).alloc (.cells #[.int .i64 a, .int .i64 b] 43)
  have qm := fun w T => cut_er c L a b er w R ne hm T
  have n1 : (er != 0) = true := bne_iff_ne.2 ne
  clear R ne
  go_enter Tryz.func27, Tryz.ntmps27
  go_upto_region 1 with fail
  generalize (w.alloc (.cells #[.string c.nm, .int .i64 c.k, .int .i64 c.d, .int .i64 c.m, .int .i64 c.s, .int .i64 c.sh, .int .i64 c.p0, .int .i64 c.p1, .int .i64 c.p2, .int .i64 c.cy, .int .i64 c.ex, .int .i64 c.fi, .int .i64 c.la, .int .i64 c.po] 24)).alloc (.cells #[.int .i64 a, .int .i64 b] 43) = W0 at *
  obtain ⟨_, c0, c1, c2, c3, c4, c5, c6, c7, c8, c9, c10, c11, c12, c13⟩ := id C
  obtain ⟨_, s0, s1, fs0, fs1⟩ := id S
  go_wp2_with fail
  refine (qm _ T).mono ?_
  rintro e w1 ⟨rfl, hb⟩
  replace C := C.kept hb
  replace B := bthen B hb
  replace T := T.kept hb
  replace S := S.kept hb
  clear hb c0 c1 c2 c3 c4 c5 c6 c7 c8 c9 c10 c11 c12 c13 s0 s1 fs0 fs1
  obtain ⟨_, c0, c1, c2, c3, c4, c5, c6, c7, c8, c9, c10, c11, c12, c13⟩ := id C
  obtain ⟨_, s0, s1, fs0, fs1⟩ := id S
  go_wp2
  go_ret2
  exact ⟨by simp, B⟩

end Go.Proofs.YtoeifpeiogeenaaGreatDoor.Pp
