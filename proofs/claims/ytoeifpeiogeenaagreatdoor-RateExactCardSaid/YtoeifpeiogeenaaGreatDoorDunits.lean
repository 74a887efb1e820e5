/- The units from one to another one, told one by one: package find's units. -/
import Derived.Shelf.Abstract
import Derived.Shelf.RegionOpen
import Derived.WalkKit
import Derived.OwnWalkIn
import Derived.TacticsInMore
import Derived.LoopNIn
import Derived.LoopIn
import Derived.Test.YtoeifpeiogeenaaGreatDoorFcode2
import Derived.Test.YtoeifpeiogeenaaGreatDoorFtab
import Derived.Test.YtoeifpeiogeenaaGreatDoorJD
namespace Go.Proofs.YtoeifpeiogeenaaGreatDoor.Dp
set_option linter.unusedSimpArgs false
set_option linter.unusedVariables false
open Go.RowKit Go.Shelf Go.Proofs.YtoeifpeiogeenaaGreatDoor.Bn Go.Proofs.YtoeifpeiogeenaaGreatDoor.Bx Go.Proofs.YtoeifpeiogeenaaGreatDoor.Cp Go.Proofs.YtoeifpeiogeenaaGreatDoor.Am Go.Proofs.YtoeifpeiogeenaaGreatDoor.Fp Go.Proofs.YtoeifpeiogeenaaGreatDoor.Cm Go.Proofs.YtoeifpeiogeenaaGreatDoor.Em Go.Proofs.YtoeifpeiogeenaaGreatDoor.Rk Go.Proofs.YtoeifpeiogeenaaGreatDoor.Ui
attribute [local go_sem] Oper.semAt_some

set_option maxRecDepth 100000 in
set_option maxHeartbeats 4000000 in
theorem units1_in (c : CalZ) (L y0 i0 y n : Int) (N : Nat) (way : UWay c L y0 i0 y n N) (bc b1 b2 : Nat) (w0 w : World) (hw : Below w0.heap.size w0 w) (C0 : CalIn w0 bc c) (F1 : Tri w0 b1 (.int .i64 L) (.int .i64 y0) (.int .i64 i0)) (F2 : Tri w0 b2 (.int .i64 L) (.int .i64 y) (.int .i64 n))
    (T0 : FTab w0) (m : Nat) (hm1 : 1 ≤ m) (cd : ∀ z, Served c z → ∀ w, FTab w → Calls Tryz.prog 68 #[.agg #[.string c.nm, .int .i64 c.k, .int .i64 c.d, .int .i64 c.m, .int .i64 c.s, .int .i64 c.sh, .int .i64 c.p0, .int .i64 c.p1, .int .i64 c.p2, .int .i64 c.cy, .int .i64 c.ex, .int .i64 c.fi, .int .i64 c.la, .int .i64 c.po], .int .i64 L, .int .i64 z] w fun e w' => e = .returned (.int .i64 (ucount c z L)) ∧ Below w.heap.size w w') :
    SeqU Fence.wide m Tryz.prog 101 #[.pointer (some ⟨b1, 0, none⟩), .pointer (some ⟨b2, 0, none⟩), .pointer (some ⟨bc, 0, none⟩)] (fun u : U3 => #[uval u]) w0.heap.size (ulist c L (y0, i0) (N + 1)) w := by
  intro l J W hW bear hY h0
  have B0 : Below w0.heap.size w0 W := hw.trans (hW.mono hw.size)
  refine callsIn_of_wp Tryz.func101 rfl trivial ?_ rfl
  simp only [Tryz.ntmps101, List.size_toArray, List.length_cons, List.length_nil, Nat.reduceAdd, Nat.reduceSub, Array.replicate_succ, Array.replicate_zero, List.push_toArray, List.append_toArray, List.nil_append, List.cons_append]
  have T := T0.kept B0
  have C := C0.kept B0
  obtain ⟨_, u0, u1, u2, fu0, fu1, fu2⟩ := F1.kept B0
  gi_wp2
  have V := Tri.new W (.int .i64 L) (.int .i64 y0) (.int .i64 i0) 26
  have hJ1 := bear.track _ _ _ (.cells #[.int .i64 L, .int .i64 y0, .int .i64 i0] 26) h0
  have B1 := balloc B0 (.cells #[.int .i64 L, .int .i64 y0, .int .i64 i0] 26)
  have sz := B0.size
  gi_loopw [5, 6] (fun p q wr => ∃ (b k : Nat) (fs : List Nat) (z i : Int), p = .pointer (some ⟨b, 0, none⟩) ∧ b ∈ fs ∧ w0.heap.size ≤ b ∧ Tri wr b (.int .i64 L) (.int .i64 z) (.int .i64 i) ∧ J (ulist c L (y0, i0) k) fs wr ∧ Below w0.heap.size w0 wr ∧ (StandU c L y0 i0 y n N z i k ∨ (z = y + 1 ∧ k = N + 1)))
    (fun p _ wr => (y + 1 - cellI wr (blkOf p) 1).toNat)
  case atStart => exact ⟨W.heap.size, 0, _, y0, i0, rfl, List.mem_cons_self .., sz, V, hJ1, B1, .inl (stand_start way)⟩
  case round =>
    obtain ⟨b, k, fs, z, i, rfl, hb, b0, V, hJ, B, O⟩ := hrel
    have F2r := F2.kept B
    obtain ⟨_, v0, v1, v2, fv0, fv1, fv2⟩ := id V
    obtain ⟨_, l0, l1, l2, _, _, _⟩ := id F2r
    rcases O with S | ⟨rfl, rfl⟩
    · obtain ⟨hz0, hz1, hi1, _⟩ := id S
      have M := way.many hz0 hz1
      have st := served_told way.u.1 M.2.2.2
      have sy := served_told way.u.1 way.v.2.2.1
      have n60 : 1 ≤ n ∧ n ≤ 60 := by
        have h1 := way.v.2.2.2.1
        have h2 := way.v.2.2.2.2
        have := (ucount_bd (L := L) (y := y) way.u.1.1 (by omega) (by omega)).2
        omega
      obtain ⟨mz, hmz⟩ : ∃ mz, mz = manyU c L y n z := ⟨_, rfl⟩
      have lt : (z < y ∧ mz = ucount c z L) ∨ (z = y ∧ mz = n) := by
        rw [hmz]; unfold manyU
        by_cases q : z < y
        · exact .inl ⟨q, if_pos q⟩
        · exact .inr ⟨by omega, if_neg q⟩
      have Cr := C0.kept B
      have Tr := T0.kept B
      obtain ⟨_, c0, c1, c2, c3, c4, c5, c6, c7, c8, c9, c10, c11, c12, c13⟩ := id Cr
      have V0 := V
      rcases lt with ⟨lt, em⟩ | ⟨lt, em⟩
      · gi_wp2_with fail
        refine ⟨trivial, (callsIn_wide.2 (cd z M.2.2.2 _ Tr)).mono ?_⟩
        rintro e w1 ⟨rfl, hb1⟩
        rw [← em]
        have Vw := V.kept hb1
        have Jw := bear.grow _ _ _ _ hJ (grow_below hb1)
        have Bw := bthen B hb1
        have F2w := F2.kept Bw
        clear v0 v1 v2 fv0 fv1 fv2 l0 l1 l2 c0 c1 c2 c3 c4 c5 c6 c7 c8 c9 c10 c11 c12 c13
        obtain ⟨_, l0, l1, l2, _, _, _⟩ := id F2w
        clear V hJ B
        have V := Vw
        have hJ := Jw
        have B := Bw
        obtain ⟨_, v0, v1, v2, fv0, fv1, fv2⟩ := id V
        gi_wp2
        gi_loopw [] (fun wr' => ∃ (k : Nat) (fs : List Nat) (i : Int), b ∈ fs ∧ Tri wr' b (.int .i64 L) (.int .i64 z) (.int .i64 i) ∧ J (ulist c L (y0, i0) k) fs wr' ∧ Below w0.heap.size w0 wr' ∧ StandU c L y0 i0 y n N z i k) (fun wr' => (62 - cellI wr' b 2).toNat)
        case atStart => exact ⟨k, fs, i, hb, V, hJ, B, S⟩
        case round =>
          obtain ⟨k, fs, i, hb, V, hJ, B, S⟩ := hrel
          obtain ⟨_, v0, v1, v2, fv0, fv1, fv2⟩ := id V
          obtain ⟨_, _, hi1, O⟩ := id S
          have i60 : i ≤ mz + 1 := by
            rw [← hmz] at O
            rcases O with ⟨q, _⟩ | ⟨q, _⟩ | ⟨q1, q2, _⟩ <;> omega
          clear O
          by_cases le : i ≤ mz
          · obtain ⟨kN, at_, S2⟩ := stand_step way S (by rw [← hmz]; exact le)
            obtain ⟨fn, tmps, assign, body, hy, hR⟩ := hY _ fs (L, z, i) wr hJ (by rw [ulist_len, ulist_len]; omega)
            simp only [uval] at hy
            gi_wp2
            refine hR.mono ?_
            rintro e W3 ⟨rfl, hJ3, hk3, hb3⟩
            have V3 := tri_heap V (hk3 b hb)
            have B3 := B.trans hb3
            have u' : ulist c L (y0, i0) (k + 1) = ulist c L (y0, i0) k ++ [(L, z, i)] := by simp [ulist, at_]
            rw [← u'] at hJ3
            clear v0 v1 v2 fv0 fv1 fv2
            have c2' := V3.c2
            obtain ⟨_, v0, v1, v2, fv0, fv1, fv2⟩ := id V3
            gi_wp2
            go_roundw
            case rel => exact ⟨k + 1, fs, i + 1, hb, V3.set2 _, bear.store _ _ _ _ b hJ3 hb (grow_set _ _ _ _), B3.setCell (p := ⟨b, 2, none⟩) b0 _, S2⟩
            case measure =>
              rw [cellI_is (V3.set2 (.int .i64 (i + 1))).c2, cellI_is V.c2]
              omega
          · have out := stand_out way S (by rw [← hmz]; omega)
            gi_wp2
            obtain ⟨Wn, hWn⟩ : ∃ Wn, wr.alloc (.cells #[.int .i64 L, .int .i64 (z + 1), .int .i64 1] 26) = Wn := ⟨_, rfl⟩
            have Vn : Tri Wn wr.heap.size (.int .i64 L) (.int .i64 (z + 1)) (.int .i64 1) := by rw [← hWn]; exact Tri.new _ _ _ _ _
            have Jn : J (ulist c L (y0, i0) k) (wr.heap.size :: fs) Wn := by rw [← hWn]; exact bear.track _ _ _ _ hJ
            have Bn : Below w0.heap.size w0 Wn := by rw [← hWn]; exact balloc B _
            have zn := B.size
            rw [hWn]
            go_roundw
            case rel => exact ⟨wr.heap.size, k, wr.heap.size :: fs, z + 1, 1, rfl, List.mem_cons_self .., zn, Vn, Jn, Bn, out.imp (fun h => h.2) (fun h => ⟨by omega, h.2⟩)⟩
            case measure =>
              unfold blkOf
              rw [cellI_is Vn.c1, cellI_is V0.c1]
              omega
      · have nlt : ¬ z < y := by omega
        rw [em] at hmz
        have HM := Lib.hid hmz
        clear lt em hmz
        gi_wp2
        gi_loopw [] (fun wr' => ∃ (k : Nat) (fs : List Nat) (i : Int), b ∈ fs ∧ Tri wr' b (.int .i64 L) (.int .i64 z) (.int .i64 i) ∧ J (ulist c L (y0, i0) k) fs wr' ∧ Below w0.heap.size w0 wr' ∧ StandU c L y0 i0 y n N z i k) (fun wr' => (62 - cellI wr' b 2).toNat)
        case atStart => exact ⟨k, fs, i, hb, V, hJ, B, S⟩
        case round =>
          obtain ⟨k, fs, i, hb, V, hJ, B, S⟩ := hrel
          obtain ⟨_, v0, v1, v2, fv0, fv1, fv2⟩ := id V
          obtain ⟨_, _, hi1, O⟩ := id S
          have i60 : i ≤ n + 1 := by
            rw [← HM.out] at O
            rcases O with ⟨q, _⟩ | ⟨q, _⟩ | ⟨q1, q2, _⟩ <;> omega
          clear O
          by_cases le : i ≤ n
          · obtain ⟨kN, at_, S2⟩ := stand_step way S (by rw [← HM.out]; exact le)
            obtain ⟨fn, tmps, assign, body, hy, hR⟩ := hY _ fs (L, z, i) wr hJ (by rw [ulist_len, ulist_len]; omega)
            simp only [uval] at hy
            gi_wp2
            refine hR.mono ?_
            rintro e W3 ⟨rfl, hJ3, hk3, hb3⟩
            have V3 := tri_heap V (hk3 b hb)
            have B3 := B.trans hb3
            have u' : ulist c L (y0, i0) (k + 1) = ulist c L (y0, i0) k ++ [(L, z, i)] := by simp [ulist, at_]
            rw [← u'] at hJ3
            clear v0 v1 v2 fv0 fv1 fv2
            have c2' := V3.c2
            obtain ⟨_, v0, v1, v2, fv0, fv1, fv2⟩ := id V3
            gi_wp2
            go_roundw
            case rel => exact ⟨k + 1, fs, i + 1, hb, V3.set2 _, bear.store _ _ _ _ b hJ3 hb (grow_set _ _ _ _), B3.setCell (p := ⟨b, 2, none⟩) b0 _, S2⟩
            case measure =>
              rw [cellI_is (V3.set2 (.int .i64 (i + 1))).c2, cellI_is V.c2]
              omega
          · have out := stand_out way S (by rw [← HM.out]; omega)
            gi_wp2
            obtain ⟨Wn, hWn⟩ : ∃ Wn, wr.alloc (.cells #[.int .i64 L, .int .i64 (z + 1), .int .i64 1] 26) = Wn := ⟨_, rfl⟩
            have Vn : Tri Wn wr.heap.size (.int .i64 L) (.int .i64 (z + 1)) (.int .i64 1) := by rw [← hWn]; exact Tri.new _ _ _ _ _
            have Jn : J (ulist c L (y0, i0) k) (wr.heap.size :: fs) Wn := by rw [← hWn]; exact bear.track _ _ _ _ hJ
            have Bn : Below w0.heap.size w0 Wn := by rw [← hWn]; exact balloc B _
            have zn := B.size
            rw [hWn]
            go_roundw
            case rel => exact ⟨wr.heap.size, k, wr.heap.size :: fs, z + 1, 1, rfl, List.mem_cons_self .., zn, Vn, Jn, Bn, out.imp (fun h => h.2) (fun h => ⟨by omega, h.2⟩)⟩
            case measure =>
              unfold blkOf
              rw [cellI_is Vn.c1, cellI_is V0.c1]
              omega
    · gi_wp2
      go_end0
      exact ⟨⟨_, rfl⟩, fs, hJ⟩

end Go.Proofs.YtoeifpeiogeenaaGreatDoor.Dp
