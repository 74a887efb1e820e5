/- The reference's Same of layer 9, of items that are the same. -/
import Derived.Test.YtjebdoecigmkhaaDoorYrfew
import Derived.BigQuiet
namespace Go.Proofs.YtjebdoecigmkhaaDoor.Yr
set_option linter.unusedSimpArgs false
set_option linter.unusedVariables false
open Go.RowKit Go.Proofs.YtjebdoecigmkhaaDoor.Zm Go.Proofs.YtjebdoecigmkhaaDoor.Zk Go.Proofs.YtjebdoecigmkhaaDoor.Ym Go.Proofs.YtjebdoecigmkhaaDoor.Bn

set_option maxHeartbeats 1000000

def stW (x : Wd) : Wd := { x with a := 0 }
mutual
/-- an item without places -/
def stN : Nd → Nd
  | .mk nm _ ws b ks => .mk nm 0 (ws.map stW) b (stL ks)
def stL : List Nd → List Nd
  | [] => []
  | n :: l => stN n :: stL l
end

theorem stL_map (l : List Nd) : stL l = l.map stN := by
  induction l with
  | nil => rfl
  | cons n l ih => simp [stL, ih]

theorem stL_get {l m : List Nd} (h : stL l = stL m) : l.length = m.length ∧ ∀ i (h1 : i < l.length) (h2 : i < m.length), stN l[i] = stN m[i] := by
  rw [stL_map, stL_map] at h
  have hl : l.length = m.length := by simpa using congrArg List.length h
  refine ⟨hl, fun i h1 h2 => ?_⟩
  have := congrArg (fun x => x[i]?) h
  simpa [h1, h2] using this

theorem stW_get {l m : List Wd} (h : l.map stW = m.map stW) : l.length = m.length ∧ ∀ i (h1 : i < l.length) (h2 : i < m.length), l[i].num = m[i].num ∧ l[i].n = m[i].n ∧ l[i].s = m[i].s := by
  have hl : l.length = m.length := by simpa using congrArg List.length h
  refine ⟨hl, fun i h1 h2 => ?_⟩
  have := congrArg (fun x => x[i]?) h
  simp [h1, h2, stW] at this
  exact this

/-- a word, compared with itself -/
theorem wd_same (p : Bool) (n a : Int) (s : ByteArray) (w : World) :
    (binOp .neq 42 (.agg #[.bool p, .int .i64 n, .string s, .int .i64 a]) (.agg #[.bool p, .int .i64 n, .string s, .int .i64 a])).run Tryd.prog w = .ok (.bool false) w := by
  simp [go_sem]

set_option maxRecDepth 100000 in
theorem rSameN_any (N : Nat) (hN : N ≤ 1000000) : ∀ (l m : List Nd) (v u : Value) (S : Nat → Prop) (w : World) (d : Nat), countL l < N → NdsV S w v l → NdsV S w u m → (∀ b, S b → b < w.heap.size) →
    RightL d l → Hid (stL l = stL m) →
    Calls Tryd.prog 26 #[v, u] w fun e w' => e = .returned (.bool true) ∧ Below w.heap.size w w' := by
  induction N with
  | zero => intro l m v u S w d h; omega
  | succ N ih =>
    intro l m v u S w d hc hv hu hS hR hst
    have HR := Lib.hid hR
    clear hR
    have ih := ih (by omega)
    obtain ⟨ptr, cap, rfl, hl⟩ := hv
    obtain ⟨ptr2, cap2, rfl, hm⟩ := hu
    have HL := Lib.hid hl
    have HM := Lib.hid hm
    have hlen := len_count l
    obtain ⟨hlm, _⟩ := stL_get hst.out
    obtain ⟨L, hL⟩ : ∃ L, m.length = L := ⟨_, rfl⟩
    rw [hL] at hlm ⊢
    have hLl : Hid (m.length = L ∧ l.length = L) := Lib.hid ⟨hL, hlm⟩
    rw [hlm] at hlen ⊢
    clear hl hm hL hlm
    go_enter Tryd.func26, Tryd.ntmps26
    go_wp2_with fail
    go_loopw [17] (fun I wr => ∃ k : Nat, k ≤ L ∧ I = .int .i64 k ∧ Below w.heap.size w wr) (fun I _ => L - (intOf I).toNat)
    case atStart => exact ⟨0, by omega, rfl, Below.refl _ _⟩
    case round =>
      obtain ⟨k, hk, rfl, B1⟩ := hrel
      by_cases hlt : k < L
      · obtain ⟨hmL, hlL⟩ := hLl.out
        obtain ⟨g, o, rfl, hf⟩ := HL.out.resolve_left (by intro e; rw [e] at hlL; simp at hlL; omega)
        obtain ⟨g2, o2, rfl, hf2⟩ := HM.out.resolve_left (by intro e; rw [e] at hmL; simp at hmL; omega)
        have k1 : k < l.length := by omega
        have k2 : k < m.length := by omega
        have hn := hf.get k k1
        have hn2 := hf2.get k k2
        have hcn := count_mem l k k1
        have hs := (stL_get hst.out).2 k k1 k2
        obtain ⟨nm, a, ws, b, ks, he⟩ : ∃ nm a ws b ks, l[k] = Nd.mk nm a ws b ks := by
          cases h : l[k] with
          | mk nm a ws b ks => exact ⟨nm, a, ws, b, ks, rfl⟩
        obtain ⟨nm2, a2, ws2, b2, ks2, he2⟩ : ∃ nm a ws b ks, m[k] = Nd.mk nm a ws b ks := by
          cases h : m[k] with
          | mk nm a ws b ks => exact ⟨nm, a, ws, b, ks, rfl⟩
        have hRn := right_get HR.out k k1
        rw [he] at hn hcn hs hRn
        obtain ⟨_, w8, _, _, _, r6⟩ := hRn
        rw [he2] at hn2 hs
        simp only [NdAt] at hn hn2
        simp only [countN] at hcn
        simp only [stN] at hs
        injection hs with s1 s2 s3 s4 s5
        subst s1
        subst s4
        obtain ⟨h0, x0, x1, ⟨wv, x2, hwv⟩, x3, kp, kc, x4, hks⟩ := hn
        obtain ⟨i0, y0, y1, ⟨uv, y2, huv⟩, y3, jp, jc, y4, hjs⟩ := hn2
        have lg := hS g h0
        have lg2 := hS g2 i0
        have hkl := (stL_get s5).1
        rw [← hkl] at y4
        have ck : ∀ W, Below w.heap.size w W → Calls Tryd.prog 26 #[.slice kp ks.length kc, .slice jp ks.length jc] W fun e w' => e = .returned (.bool true) ∧ Below W.heap.size W w' := fun W hB =>
          ih ks ks2 _ _ S W (d + 1) (by omega) (NdsV.kept (W := w) ⟨kp, kc, rfl, hks⟩ ((Stay.below hB).mono hS)) (NdsV.kept (W := w) ⟨jp, jc, by rw [hkl], hjs⟩ ((Stay.below hB).mono hS)) (fun b hb => Nat.lt_of_lt_of_le (hS b hb) hB.size) r6 (Lib.hid s5)
        rw [Nat.mul_comm 5 k] at x0 x1 x2 x3 x4 y0 y1 y2 y3 y4
        replace x0 := (B1.cell (p := ⟨g, _, none⟩) lg).trans x0
        replace x1 := (B1.cell (p := ⟨g, _, none⟩) lg).trans x1
        replace x2 := (B1.cell (p := ⟨g, _, none⟩) lg).trans x2
        replace x3 := (B1.cell (p := ⟨g, _, none⟩) lg).trans x3
        replace x4 := (B1.cell (p := ⟨g, _, none⟩) lg).trans x4
        replace y0 := (B1.cell (p := ⟨g2, _, none⟩) lg2).trans y0
        replace y1 := (B1.cell (p := ⟨g2, _, none⟩) lg2).trans y1
        replace y2 := (B1.cell (p := ⟨g2, _, none⟩) lg2).trans y2
        replace y3 := (B1.cell (p := ⟨g2, _, none⟩) lg2).trans y3
        replace y4 := (B1.cell (p := ⟨g2, _, none⟩) lg2).trans y4
        obtain ⟨wp, wc, rfl, hws⟩ := hwv
        obtain ⟨up, uc, rfl, hus⟩ := huv
        have hwl := stW_get s3
        rw [← hwl.1] at y2
        have HW := Lib.hid hws
        have HU := Lib.hid hus
        have HE := Lib.hid hwl
        obtain ⟨s0, hs0⟩ : ∃ s0, (⟨nm.toArray⟩ : ByteArray) = s0 := ⟨_, rfl⟩
        rw [hs0] at x0 y0
        obtain ⟨q, hq⟩ : ∃ q, ws.length = q := ⟨_, rfl⟩
        have HQ := Lib.hid hq
        rw [hq] at x2 y2 w8
        obtain ⟨q4, hq4⟩ : ∃ q, ks.length = q := ⟨_, rfl⟩
        rw [hq4] at x4 y4 ck
        clear r6 hks hjs hf hf2 ih he he2 hwl hws hus hs0 hq hq4 hkl s2 s3 s5 hmL hlL k1 k2 hcn
        have lg' := Nat.lt_of_lt_of_le lg B1.size
        have lg2' := Nat.lt_of_lt_of_le lg2 B1.size
        go_wp2_with fail
        refine (ck _ (balloc (balloc B1 _) _)).mono ?_
        rintro e w2 ⟨rfl, hb⟩
        have B2 := bthen (balloc (balloc B1 _) _) hb
        have P1 := ((Box.new wr #[.string s0, .int .i64 a, .slice wp q wc, .bool b, .slice kp q4 kc] 40).alloc (.cells #[.string s0, .int .i64 a2, .slice up q uc, .bool b, .slice jp q4 jc] 40)).kept hb
        have P2 := (Box.new (wr.alloc (.cells #[.string s0, .int .i64 a, .slice wp q wc, .bool b, .slice kp q4 kc] 40)) #[.string s0, .int .i64 a2, .slice up q uc, .bool b, .slice jp q4 jc] 40).kept hb
        rw [World.size_alloc] at P2
        clear hb ck x0 x1 x2 x3 x4 y0 y1 y2 y3 y4
        obtain ⟨z1, _, _, c2, _, _, _⟩ := id P1.five
        go_wp2_with fail
        go_loopw [58] (fun J w5 => ∃ j : Nat, j ≤ q ∧ J = .int .i64 j ∧ Below w2.heap.size w2 w5) (fun J _ => q - (intOf J).toNat)
        case atStart => exact ⟨0, by omega, rfl, Below.refl _ _⟩
        case round =>
          clear c2
          obtain ⟨j, hj, rfl, B3⟩ := hrel
          have B5 := bthen B2 B3
          by_cases hjt : j < q
          · have hQ := HQ.out
            have j1 : j < ws.length := by omega
            have j2 : j < ws2.length := by rw [← HE.out.1]; exact j1
            obtain ⟨gw, ow, rfl, hw⟩ := HW.out.resolve_left (by intro e; rw [e] at j1; simp at j1)
            obtain ⟨gu, ou, rfl, hu⟩ := HU.out.resolve_left (by intro e; rw [e] at j2; simp at j2)
            obtain ⟨t0, p0, p1, p2, p3⟩ := hw.get j j1
            obtain ⟨t1, r0, r1, r2, r3⟩ := hu.get j j2
            obtain ⟨e1, e2, e3⟩ := HE.out.2 j j1 j2
            rw [← e1] at r0
            rw [← e2] at r1
            rw [← e3] at r2
            have lw := hS gw t0
            have lu := hS gu t1
            rw [Nat.mul_comm 4 j] at p0 p1 p2 p3 r0 r1 r2 r3
            replace p0 := (B5.cell (p := ⟨gw, _, none⟩) lw).trans p0
            replace p1 := (B5.cell (p := ⟨gw, _, none⟩) lw).trans p1
            replace p2 := (B5.cell (p := ⟨gw, _, none⟩) lw).trans p2
            replace p3 := (B5.cell (p := ⟨gw, _, none⟩) lw).trans p3
            replace r0 := (B5.cell (p := ⟨gu, _, none⟩) lu).trans r0
            replace r1 := (B5.cell (p := ⟨gu, _, none⟩) lu).trans r1
            replace r2 := (B5.cell (p := ⟨gu, _, none⟩) lu).trans r2
            replace r3 := (B5.cell (p := ⟨gu, _, none⟩) lu).trans r3
            generalize ws[j].num = wn at *
            generalize ws[j].n = wx at *
            generalize ws[j].a = wa at *
            generalize ws2[j].a = wb at *
            obtain ⟨wt, hwt⟩ : ∃ wt, (⟨ws[j].s.toArray⟩ : ByteArray) = wt := ⟨_, rfl⟩
            rw [hwt] at p2 r2
            obtain ⟨z2, _, _, d2, _, _, _⟩ := id (P2.kept B3).five
            have hqn := fun w => wd_same wn wx wb wt w
            have lw' := Nat.lt_of_lt_of_le lw B5.size
            have lu' := Nat.lt_of_lt_of_le lu B5.size
            clear hw hu e1 e2 e3 hwt hQ j1 j2
            go_wp2_with fail
            go_quiet (fail)
            go_wp2_with fail
            go_roundw
            case rel => exact ⟨j + 1, by omega, by go_num, bdrewN (balloc B3 _) _⟩
            case measure => simp [intOf]; omega
          · obtain rfl : j = q := by omega
            go_wp2_with fail
            go_roundw
            case rel => exact ⟨k + 1, by omega, by go_num, B5⟩
            case measure => simp [intOf]; omega
      · obtain rfl : k = L := by omega
        go_wp2_with fail
        go_ret
        exact ⟨rfl, B1⟩

end Go.Proofs.YtjebdoecigmkhaaDoor.Yr
