/- The reference's Exact, of items that are the same with their places. -/
import Derived.Test.YtjebdoecigmkhaaDoorYrsame
import Derived.Deep.Cut
import Derived.Deep.CutRange
import Derived.Lib.QuietBelow
namespace Go.Proofs.YtjebdoecigmkhaaDoor.Yr
set_option linter.unusedSimpArgs false
set_option linter.unusedVariables false
open Go.RowKit Go.Proofs.YtjebdoecigmkhaaDoor.Zm Go.Proofs.YtjebdoecigmkhaaDoor.Zk Go.Proofs.YtjebdoecigmkhaaDoor.Ym Go.Proofs.YtjebdoecigmkhaaDoor.Bn

set_option maxHeartbeats 1000000

set_option maxRecDepth 100000 in
theorem rexact_any (N : Nat) (hN : N ≤ 1000000) : ∀ (l : List Nd) (v u : Value) (S : Nat → Prop) (w : World) (d : Nat), countL l < N → NdsV S w v l → NdsV S w u l → (∀ b, S b → b < w.heap.size) → RightL d l →
    Calls Tryd.prog 28 #[v, u] w fun e w' => e = .returned (.bool true) ∧ Below w.heap.size w w' := by
  induction N with
  | zero => intro l v u S w d h; omega
  | succ N ih =>
    intro l v u S w d hc hv hu hS hR
    have cs := Lib.hid (rSameN_any 1000000 (by omega) l l v u S w d (by omega) hv hu hS hR (Lib.hid rfl))
    have HR := Lib.hid hR
    clear hR
    have ih := ih (by omega)
    obtain ⟨ptr, cap, rfl, hl⟩ := hv
    obtain ⟨ptr2, cap2, rfl, hm⟩ := hu
    have HL := Lib.hid hl
    have HM := Lib.hid hm
    have hlen := len_count l
    obtain ⟨L, hL⟩ : ∃ L, l.length = L := ⟨_, rfl⟩
    rw [hL] at hlen cs ⊢
    have hLl : Hid (l.length = L) := Lib.hid hL
    clear hl hm hL
    go_enter Tryd.func28, Tryd.ntmps28
    go_wp2_with fail
    refine cs.out.mono ?_
    rintro e w1 ⟨rfl, hb0⟩
    clear cs
    go_wp2_with fail
    go_loopw [15] (fun I wr => ∃ k : Nat, k ≤ L ∧ I = .int .i64 k ∧ Below w.heap.size w wr) (fun I _ => L - (intOf I).toNat)
    case atStart => exact ⟨0, by omega, rfl, hb0⟩
    case round =>
      clear hb0
      obtain ⟨k, hk, rfl, B1⟩ := hrel
      by_cases hlt : k < L
      · have hlL := hLl.out
        obtain ⟨g, o, rfl, hf⟩ := HL.out.resolve_left (by intro e; rw [e] at hlL; simp at hlL; omega)
        obtain ⟨g2, o2, rfl, hf2⟩ := HM.out.resolve_left (by intro e; rw [e] at hlL; simp at hlL; omega)
        have k1 : k < l.length := by omega
        have hn := hf.get k k1
        have hn2 := hf2.get k k1
        have hcn := count_mem l k k1
        obtain ⟨nm, a, ws, b, ks, he⟩ : ∃ nm a ws b ks, l[k] = Nd.mk nm a ws b ks := by
          cases h : l[k] with
          | mk nm a ws b ks => exact ⟨nm, a, ws, b, ks, rfl⟩
        have hRn := right_get HR.out k k1
        rw [he] at hn hn2 hcn hRn
        obtain ⟨_, w8, _, _, _, r6⟩ := hRn
        simp only [NdAt] at hn hn2
        simp only [countN] at hcn
        obtain ⟨h0, x0, x1, ⟨wv, x2, hwv⟩, x3, kp, kc, x4, hks⟩ := hn
        obtain ⟨i0, y0, y1, ⟨uv, y2, huv⟩, y3, jp, jc, y4, hjs⟩ := hn2
        have lg := hS g h0
        have lg2 := hS g2 i0
        have ck : ∀ W, Below w.heap.size w W → Calls Tryd.prog 28 #[.slice kp ks.length kc, .slice jp ks.length jc] W fun e w' => e = .returned (.bool true) ∧ Below W.heap.size W w' := fun W hB =>
          ih ks _ _ S W (d + 1) (by omega) (NdsV.kept (W := w) ⟨kp, kc, rfl, hks⟩ ((Stay.below hB).mono hS)) (NdsV.kept (W := w) ⟨jp, jc, rfl, hjs⟩ ((Stay.below hB).mono hS)) (fun b hb => Nat.lt_of_lt_of_le (hS b hb) hB.size) r6
        rw [Nat.mul_comm 5 k] at x0 x1 x2 x3 x4 y0 y1 y2 y3 y4
        obtain ⟨wp, wc, rfl, hws⟩ := hwv
        obtain ⟨up, uc, rfl, hus⟩ := huv
        have HW := Lib.hid hws
        have HU := Lib.hid hus
        have HY2 := Lib.hid y2
        replace x0 := (B1.cell (p := ⟨g, _, none⟩) lg).trans x0
        replace x1 := (B1.cell (p := ⟨g, _, none⟩) lg).trans x1
        replace x2 := (B1.cell (p := ⟨g, _, none⟩) lg).trans x2
        replace x3 := (B1.cell (p := ⟨g, _, none⟩) lg).trans x3
        replace x4 := (B1.cell (p := ⟨g, _, none⟩) lg).trans x4
        obtain ⟨s0, hs0⟩ : ∃ s0, (⟨nm.toArray⟩ : ByteArray) = s0 := ⟨_, rfl⟩
        rw [hs0] at x0
        obtain ⟨q, hq⟩ : ∃ q, ws.length = q := ⟨_, rfl⟩
        have HQ := Lib.hid hq
        rw [hq] at x2 w8 HY2
        obtain ⟨q4, hq4⟩ : ∃ q, ks.length = q := ⟨_, rfl⟩
        rw [hq4] at x4 y4 ck
        clear r6 hks hjs hf hf2 ih he hws hus hs0 hq hq4 hlL k1 hcn y0 y3 y2
        have lg' := Nat.lt_of_lt_of_le lg B1.size
        go_upto_region 6 with fail
        have P1 := Box.new wr #[.string s0, .int .i64 a, .slice wp q wc, .bool b, .slice kp q4 kc] 40
        have B2 := balloc B1 (.cells #[.string s0, .int .i64 a, .slice wp q wc, .bool b, .slice kp q4 kc] 40)
        generalize wr.alloc (.cells #[.string s0, .int .i64 a, .slice wp q wc, .bool b, .slice kp q4 kc] 40) = W2 at *
        generalize wr.heap.size = b6 at *
        clear x0 x1 x2 x3 x4 lg'
        obtain ⟨z1, c0, c1, c2, c3, c4, _⟩ := id P1.five
        replace y1 := (B2.cell (p := ⟨g2, _, none⟩) lg2).trans y1
        replace y4 := (B2.cell (p := ⟨g2, _, none⟩) lg2).trans y4
        have j1 := cell_regrown c1
        have j2 := cell_regrown c4
        have j3 := cell_regrown y1
        have j4 := cell_regrown y4
        have qA := fun d os => Calls.regrown_of (ck _ (bthen B2 (below_regrown W2 d os)))
        clear ck c0 c1 c2 c3 c4
        refine wp_region_quiet_below (by kernel_rfl) (by kernel_rfl) ?_
        repeat (quiet_step ((with_reducible exact qA _ _)))
        refine wpQuiet_nil ?_
        intro _ hw'
        obtain ⟨⟨dq, osq⟩, hw''⟩ := hw'
        subst hw''
        have hb := below_regrown W2 dq osq
        generalize Go.Sort.grow (redrawn W2 dq) osq = w2 at hb ⊢
        replace P1 := P1.kept hb
        have B4 := bthen B2 hb
        clear hb j1 j2 j3 j4 qA y1 y4 z1 B2
        obtain ⟨z1, _, _, c2, _, _, _⟩ := id P1.five
        go_wp2_with fail
        go_loopw [42] (fun J w5 => ∃ j : Nat, j ≤ q ∧ J = .int .i64 j ∧ Below w2.heap.size w2 w5) (fun J _ => q - (intOf J).toNat)
        case atStart => exact ⟨0, by omega, rfl, Below.refl _ _⟩
        case round =>
          clear c2
          obtain ⟨j, hj, rfl, B3⟩ := hrel
          have B5 := bthen B4 B3
          by_cases hjt : j < q
          · have hQ := HQ.out
            have j1 : j < ws.length := by omega
            obtain ⟨gw, ow, rfl, hw⟩ := HW.out.resolve_left (by intro e; rw [e] at j1; simp at j1)
            obtain ⟨gu, ou, rfl, hu⟩ := HU.out.resolve_left (by intro e; rw [e] at j1; simp at j1)
            obtain ⟨t0, p0, p1, p2, p3⟩ := hw.get j j1
            obtain ⟨t1, r0, r1, r2, r3⟩ := hu.get j j1
            have lw := hS gw t0
            have lu := hS gu t1
            rw [Nat.mul_comm 4 j] at p0 p1 p2 p3 r3
            replace p0 := (B5.cell (p := ⟨gw, _, none⟩) lw).trans p0
            replace p1 := (B5.cell (p := ⟨gw, _, none⟩) lw).trans p1
            replace p2 := (B5.cell (p := ⟨gw, _, none⟩) lw).trans p2
            replace p3 := (B5.cell (p := ⟨gw, _, none⟩) lw).trans p3
            replace r3 := (B5.cell (p := ⟨gu, _, none⟩) lu).trans r3
            have y2 := (B5.cell (p := ⟨g2, _, none⟩) lg2).trans HY2.out
            generalize ws[j].num = wn at *
            generalize ws[j].n = wx at *
            generalize ws[j].a = wa at *
            obtain ⟨wt, hwt⟩ : ∃ wt, (⟨ws[j].s.toArray⟩ : ByteArray) = wt := ⟨_, rfl⟩
            rw [hwt] at p2
            have lw' := Nat.lt_of_lt_of_le lw B5.size
            have lu' := Nat.lt_of_lt_of_le lu B5.size
            have lg2' := Nat.lt_of_lt_of_le lg2 B5.size
            clear hw hu hwt hQ j1 r0 r1 r2
            go_wp2_with fail
            go_quiet (fail)
            go_wp2_with fail
            go_roundw
            case rel => exact ⟨j + 1, by omega, by go_num, bdrewN (balloc B3 _) _⟩
            case measure => simp [intOf]; omega
          · obtain rfl : j = q := by omega
            go_wp2_with fail
            go_roundw
            case rel => exact ⟨k + 1, by omega, by go_num, B5⟩
            case measure => simp [intOf]; omega
      · obtain rfl : k = L := by omega
        go_wp2_with fail
        go_ret
        exact ⟨rfl, B1⟩

end Go.Proofs.YtjebdoecigmkhaaDoor.Yr
