/- What text, Print and Canon of the reference of layer 10 come to. -/
import Derived.Test.YtabhbcedldjjjaaGreatDoorJYo
import Derived.Test.YtabhbcedldjjjaaGreatDoorYrchk
import Derived.Test.YtabhbcedldjjjaaGreatDoorJYz
import Derived.Test.YtabhbcedldjjjaaGreatDoorYerp
namespace Go.Proofs.YtabhbcedldjjjaaGreatDoor.Yo
set_option linter.unusedSimpArgs false
set_option linter.unusedVariables false
open Go Go.RowKit Go.Proofs.YtabhbcedldjjjaaGreatDoor.Zm Go.Proofs.YtabhbcedldjjjaaGreatDoor.Ym Go.Proofs.YtabhbcedldjjjaaGreatDoor.Bn Go.Proofs.YtabhbcedldjjjaaGreatDoor.Zp Go.Proofs.YtabhbcedldjjjaaGreatDoor.Zk Go.Proofs.YtabhbcedldjjjaaGreatDoor.Yp Go.Proofs.YtabhbcedldjjjaaGreatDoor.Zr Go.Proofs.YtabhbcedldjjjaaGreatDoor.Yg Go.Proofs.YtabhbcedldjjjaaGreatDoor.Ye
open Go.Lib (decDigits)
open Go.Proofs.YtabhbcedldjjjaaGreatDoor.Yl (sum_two by_append parseR_er parseR_cut_ok)

set_option maxHeartbeats 4000000

mutual
theorem chk_wsN : ∀ (d : Nat) (n : NI), chkN d n = 0 → WsN 8 n
  | d, .mk nm a ws b ks, h => by
    obtain ⟨h1, _, _, h4⟩ := chk_un h
    simp only [WsN]
    exact ⟨h1.1, chk_wsL (d + 1) ks h4⟩
theorem chk_wsL : ∀ (d : Nat) (l : List NI), chkL d l = 0 → WsL 8 l
  | _, [], _ => by simp [WsL]
  | d, n :: l, h => by
    simp only [chkL] at h
    split at h
    · omega
    · rename_i h1
      simp only [WsL]
      exact ⟨chk_wsN d n (by omega), chk_wsL d l h⟩
end
theorem prtWs_append (a b : List Wd) : prtWs (a ++ b) = prtWs a ++ prtWs b := by
  induction a with
  | nil => rfl
  | cons w a ih => simp only [List.cons_append, prtWs, ih, List.append_assoc]
theorem mar_snoc (j : Nat) : Ym.mar j ++ [32, 32] = Ym.mar (j + 1) := by
  unfold Ym.mar
  rw [show 2 * (j + 1) = 2 * j + 1 + 1 by omega, List.replicate_succ', List.replicate_succ']
  simp
theorem prt_take_len (d : Nat) (l : List NI) (k : Nat) : (prtL d (toL (l.take k))).length ≤ (prtL d (toL l)).length := by
  have h : prtL d (toL l) = prtL d (toL (l.take k)) ++ prtL d (toL (l.drop k)) := by
    rw [← prtL_append, ← toL_append, List.take_append_drop]
  rw [h, List.length_append]; omega
theorem by_data (s : ByteArray) : s.data.toList = by_ s := rfl
/-- a word more -/
theorem word_num {xn a : Int} {y v1 v2 D v3 : ByteArray} {Y : List UInt8} (hy : by_ y = Y) (h1 : by_ v1 = by_ ⟨#[32]⟩ ++ by_ ⟨#[]⟩) (h2 : by_ v2 = by_ y ++ by_ v1) (hD : (⟨(decDigits xn.toNat).toArray⟩ : ByteArray) = D) (h3 : by_ v3 = by_ v2 ++ by_ D) :
    by_ v3 = Y ++ prtW (toW ⟨true, xn, ⟨#[]⟩, a⟩) := by
  rw [h3, h2, h1, hy, ← hD]
  simp [by_, prtW, toW]
theorem word_str {xs : ByteArray} {a : Int} {y v1 v2 : ByteArray} {Y : List UInt8} (hy : by_ y = Y) (h1 : by_ v1 = by_ ⟨#[32]⟩ ++ by_ xs) (h2 : by_ v2 = by_ y ++ by_ v1) :
    by_ v2 = Y ++ prtW (toW ⟨false, 0, xs, a⟩) := by
  rw [h2, h1, hy]
  simp [by_, prtW, toW]

set_option maxRecDepth 100000 in
theorem rText_any (N : Nat) (hN : N ≤ 4001) : ∀ (l : List NI) (v : Value) (S : Nat → Prop) (w : World) (d : Nat), cntL l < N → d ≤ 6 → chkL d l = 0 → NsV S w v l → (∀ b, S b → b < w.heap.size) →
    Calls Tryz.prog 18 #[v, .int .i64 d] w fun e w' => (∃ t : ByteArray, e = .returned (.tuple #[.string t, .int .i64 (tkL l)]) ∧ by_ t = prtL d (toL l)) ∧ Below w.heap.size w w' := by
  induction N with
  | zero => intro l v S w d h; omega
  | succ N ih =>
    intro l v S w d hc hd hk hv hS
    have ih := ih (by omega)
    obtain ⟨hr, _⟩ := chk_rightL d l hd hk
    have hlen := prtL_len d (by omega) (toL l) hr
    rw [cnt_toL] at hlen
    have htk := tk_fewL l 8 (chk_wsL d l hk)
    obtain ⟨ptr, cap, rfl, hl⟩ := hv
    have HL := Lib.hid hl
    have HK := Lib.hid hk
    have hll := cnt_len l
    clear hl hr hk
    go_enter Tryz.func18, Tryz.ntmps18
    go_wp2_with fail
    go_loopw [8, 16] (fun M I wr => ∃ (j : Nat) (u : ByteArray), j ≤ d ∧ I = .int .i64 j ∧ M = .string u ∧ u.size = 2 * j ∧ Hid (by_ u = Ym.mar j) ∧ Below w.heap.size w wr) (fun _ I _ => d - (intOf I).toNat)
    case atStart => exact ⟨0, _, by omega, rfl, rfl, rfl, Lib.hid rfl, Below.refl _ _⟩
    case round =>
      obtain ⟨j, um, hj, rfl, rfl, zm, hm, B0⟩ := hrel
      by_cases hjd : j < d
      · obtain ⟨u1, k1, z1, s1⟩ := sum_two um ⟨#[32, 32]⟩ (by omega) (by decide)
        have z1' : u1.size = um.size + 2 := z1
        have HM : Hid (by_ u1 = Ym.mar (j + 1)) := Lib.hid (by rw [k1, hm.out]; exact mar_snoc j)
        clear k1 z1 hm
        go_wp2_with fail
        go_roundw
        case rel => exact ⟨j + 1, u1, by omega, by go_num, rfl, by omega, HM, B0⟩
        case measure => simp [intOf]; omega
      · have q0 : j = d := by omega
        subst j
        go_wp2_with fail
        go_loopw [6, 7, 23] (fun U M I wr => ∃ (k : Nat) (u : ByteArray), k ≤ l.length ∧ I = .int .i64 k ∧ U = .string u ∧ M = .int .i64 (tkL (l.take k)) ∧ Hid (by_ u = prtL d (toL (l.take k))) ∧ Below w.heap.size w wr) (fun _ _ I _ => l.length - (intOf I).toNat)
        case atStart => exact ⟨0, _, by omega, rfl, rfl, by simp [tkL], Lib.hid rfl, B0⟩
        case round =>
          clear B0
          obtain ⟨k, u, hk, rfl, rfl, rfl, hu, B1⟩ := hrel
          have hul : u.size ≤ 800200 := by
            rw [← by_len, hu.out]
            have := prt_take_len d l k
            omega
          by_cases hlt : k < l.length
          · obtain ⟨g, o, rfl, hf⟩ := HL.out.resolve_left (by intro e; rw [e] at hlt; simp at hlt)
            obtain ⟨nm, a, ws, b, ks, vw, vk, he, h0, x0, x1, x2, x3, x4, hw, hks⟩ := (hf.get k hlt).un
            have hcn := cnt_get l k hlt
            have hck := chk_get HK.out k hlt
            have htt := tkL_take l k hlt
            have htm := tkL_take_le l (k + 1)
            have hpt := prt_take d l k hlt
            rw [he] at hcn hck htt hpt
            simp only [cntN] at hcn
            simp only [tkN] at htt
            obtain ⟨⟨hw8, hnm, hfw⟩, hb0, hb6, hkk⟩ := chk_un hck
            obtain ⟨kp, kc, rfl, hks⟩ := hks
            obtain ⟨wp, wc, rfl, hws⟩ := hw
            have lg := hS g h0
            have ck : b = true → ∀ W, Below w.heap.size w W → Calls Tryz.prog 18 #[.slice kp ks.length kc, .int .i64 ((d : Int) + 1)] W fun e w' => (∃ t : ByteArray, e = .returned (.tuple #[.string t, .int .i64 (tkL ks)]) ∧ by_ t = prtL (d + 1) (toL ks)) ∧ Below W.heap.size W w' := fun q W hB => by
              have hd6 := hb6 q
              exact ih ks _ S W (d + 1) (by omega) (by omega) hkk (NsV.on (W := w) ⟨kp, kc, rfl, hks⟩ hS hB) (fun b hb => Nat.lt_of_lt_of_le (hS b hb) hB.size)
            have hkl : b = true → (prtL (d + 1) (toL ks)).length ≤ 800200 := fun q => by
              have hd6 := hb6 q
              have := prtL_len (d + 1) (by omega) (toL ks) (chk_rightL (d + 1) ks (by omega) hkk).1
              rw [cnt_toL] at this
              omega
            have CK := Lib.hid ck
            have HKL := Lib.hid hkl
            have HF := Lib.hid hfw
            have HW := Lib.hid hws
            have HPT := Lib.hid hpt
            have HTT := Lib.hid htt
            have hnl : nm.size ≤ 16 := by
              have := name_len hnm
              rw [by_data, by_len] at this
              exact this
            replace x0 := (B1.cell (p := ⟨g, _, none⟩) lg).trans x0
            replace x1 := (B1.cell (p := ⟨g, _, none⟩) lg).trans x1
            replace x2 := (B1.cell (p := ⟨g, _, none⟩) lg).trans x2
            replace x3 := (B1.cell (p := ⟨g, _, none⟩) lg).trans x3
            replace x4 := (B1.cell (p := ⟨g, _, none⟩) lg).trans x4
            have lg' := Nat.lt_of_lt_of_le lg B1.size
            obtain ⟨u1, k1, z1, s1⟩ := sum_two um nm (by omega) (by omega)
            obtain ⟨u2, k2, z2, s2⟩ := sum_two u u1 (by omega) (by omega)
            have HU2 : Hid (by_ u2 = prtL d (toL (l.take k)) ++ (Ym.mar d ++ by_ nm)) := Lib.hid (by rw [k2, k1, hm.out, hu.out])
            have hu2 : u2.size ≤ 800400 := by omega
            have K0 := (Box.new wr #[.string nm, .int .i64 a, .slice wp ws.length wc, .bool b, .slice kp ks.length kc] 50)
            have B2 := balloc B1 (.cells #[.string nm, .int .i64 a, .slice wp ws.length wc, .bool b, .slice kp ks.length kc] 50)
            obtain ⟨q, hq⟩ : ∃ q, ws.length = q := ⟨_, rfl⟩
            have HQ := Lib.hid hq
            obtain ⟨T, hT⟩ : ∃ T, tkL (l.take k) = T := ⟨_, rfl⟩
            have hTm := tkL_take_le l k
            rw [hT] at hTm
            rw [hT]
            rw [hT] at HTT
            rw [hq] at x2 K0 B2 hw8
            clear k1 k2 hq hT hws hfw hck hkk hkl ck hks hf ih he hpt htt hnm hb6 lg h0
            go_upto_region 11 with fail
            generalize (wr.alloc (.cells #[.string nm, .int .i64 a, .slice wp q wc, .bool b, .slice kp ks.length kc] 50)) = W1 at *
            obtain ⟨z0, c0, c1, c2, c3, c4⟩ := id K0.five
            go_wp2_with fail
            go_loopw [6, 36] (fun U J w2 => ∃ (jj : Nat) (y : ByteArray), jj ≤ q ∧ J = .int .i64 jj ∧ U = .string y ∧ y.size ≤ 800400 + 40 * jj ∧ Hid (by_ y = by_ u2 ++ prtWs ((ws.take jj).map toW)) ∧ Below W1.heap.size W1 w2) (fun _ J _ => q - (intOf J).toNat)
            case atStart => exact ⟨0, u2, by omega, rfl, rfl, by omega, Lib.hid (by simp [prtWs]), Below.refl _ _⟩
            case round =>
              clear c0 c1 c2 c3 c4 x0 x1 x2 x3 x4
              obtain ⟨jj, y, hjj, rfl, rfl, hyz, hy, B3⟩ := hrel
              have B4 := bthen B2 B3
              by_cases hjl : jj < q
              · have hQ := HQ.out
                have j1 : jj < ws.length := by omega
                obtain ⟨gw, ow, rfl, hwf⟩ := HW.out.resolve_left (by intro e; rw [e] at j1; simp at j1)
                obtain ⟨t0, p0, p1, p2, p3⟩ := hwf.get jj j1
                have hfx := HF.out _ (List.getElem_mem j1)
                have HT : Hid (prtWs ((ws.take (jj + 1)).map toW) = prtWs ((ws.take jj).map toW) ++ prtW (toW ws[jj])) := Lib.hid (by
                  rw [List.take_add_one, List.getElem?_eq_getElem j1]
                  simp only [Option.toList, List.map_append, List.map_cons, List.map_nil]
                  rw [prtWs_append]
                  simp [prtWs])
                have lw := hS gw t0
                replace p0 := (B4.cell (p := ⟨gw, _, none⟩) lw).trans p0
                replace p1 := (B4.cell (p := ⟨gw, _, none⟩) lw).trans p1
                replace p2 := (B4.cell (p := ⟨gw, _, none⟩) lw).trans p2
                replace p3 := (B4.cell (p := ⟨gw, _, none⟩) lw).trans p3
                have lw' := Nat.lt_of_lt_of_le lw B4.size
                generalize ws[jj] = x at *
                obtain ⟨xm, xn, xs, xa⟩ := x
                simp only at p0 p1 p2 p3
                clear hwf hQ j1 K0
                rcases hfx with ⟨h1, h2, h3, h4⟩ | ⟨h1, h2, h3⟩
                · simp only at h1 h2 h3 h4
                  subst h1 h2
                  obtain ⟨v1, m1, y1, r1⟩ := sum_two ⟨#[32]⟩ ⟨#[]⟩ (by decide) (by decide)
                  have y1' : v1.size = 1 := y1
                  obtain ⟨v2, m2, y2, r2⟩ := sum_two y v1 (by omega) (by omega)
                  obtain ⟨D, hD⟩ : ∃ D, (⟨(decDigits xn.toNat).toArray⟩ : ByteArray) = D := ⟨_, rfl⟩
                  have hDl : D.size ≤ 9 := by
                    rw [← hD]
                    have := dec_len (u := xn.toNat) (k := 9) (by omega) (by omega)
                    simpa [ByteArray.size] using this
                  have cd := fun W => rDecimal xn.toNat W (by omega)
                  rw [show ((xn.toNat : Nat) : Int) = xn by omega, hD] at cd
                  obtain ⟨v3, m3, y3, r3⟩ := sum_two v2 D (by omega) (by omega)
                  have HN : Hid (by_ v3 = by_ u2 ++ prtWs ((ws.take (jj + 1)).map toW)) := Lib.hid (by rw [HT.out, ← List.append_assoc]; exact word_num hy.out m1 m2 hD m3)
                  clear m1 m2 m3 hD y1
                  go_wp2_with fail
                  refine (cd _).mono ?_
                  rintro e w4 ⟨rfl, hb⟩
                  have B5 := bthen (balloc B3 _) hb
                  clear hb
                  go_wp2_with fail
                  go_roundw
                  case rel => exact ⟨jj + 1, v3, by omega, by go_num, rfl, by omega, HN, B5⟩
                  case measure => simp [intOf]; omega
                · simp only at h1 h2 h3
                  subst h1 h2
                  have hxl : xs.size ≤ 16 := by
                    have := name_len h3
                    rw [by_data, by_len] at this
                    exact this
                  obtain ⟨v1, m1, y1, r1⟩ := sum_two ⟨#[32]⟩ xs (by decide) (by omega)
                  have y1' : v1.size = 1 + xs.size := y1
                  obtain ⟨v2, m2, y2, r2⟩ := sum_two y v1 (by omega) (by omega)
                  have HN : Hid (by_ v2 = by_ u2 ++ prtWs ((ws.take (jj + 1)).map toW)) := Lib.hid (by rw [HT.out, ← List.append_assoc]; exact word_str hy.out m1 m2)
                  clear m1 m2 y1
                  have B5 := balloc B3 (.cells #[.bool false, .int .i64 0, .string xs, .int .i64 xa] 64)
                  go_wp2_with fail
                  go_roundw
                  case rel => exact ⟨jj + 1, v2, by omega, by go_num, rfl, by omega, HN, B5⟩
                  case measure => simp [intOf]; omega
              · have q0 : jj = q := by omega
                subst jj
                have hT : ws.take q = ws := by rw [← HQ.out, List.take_length]
                have hT2 := HTT.out
                have hQ := HQ.out
                rw [hT] at hy
                have HY : Hid (by_ y = prtL d (toL (l.take k)) ++ (Ym.mar d ++ by_ nm) ++ prtWs (ws.map toW)) := Lib.hid (by rw [hy.out, HU2.out])
                obtain ⟨_, _, _, c2, c3, c4⟩ := (K0.kept B3).five
                clear hT hy HU2 K0
                cases b with
                | false =>
                  have hk0 := hb0 rfl
                  obtain ⟨v1, m1, y1, r1⟩ := sum_two y ⟨#[59, 10]⟩ (by omega) (by decide)
                  have HN : Hid (by_ v1 = prtL d (toL (l.take (k + 1)))) := Lib.hid (by
                    rw [HPT.out, line_shut, m1, HY.out]
                    simp [by_])
                  have hT3 : T + (2 + q) = tkL (l.take (k + 1)) := by
                    rw [hT2, hk0]; simp [tkL]; omega
                  clear m1 y1 HY HPT
                  go_wp2_with fail
                  go_roundw
                  case rel => exact ⟨k + 1, v1, by omega, by go_num, rfl, by congr 1; omega, HN, B4⟩
                  case measure => simp [intOf]; omega
                | true =>
                  have hT3 : T + (2 + q) + (1 + tkL ks) = tkL (l.take (k + 1)) := by
                    rw [hT2]; simp; omega
                  go_wp2_with fail
                  refine (CK.out (by first | rfl | trivial) _ B4).mono ?_
                  rintro e w5 ⟨⟨ti, rfl, hti⟩, hb5⟩
                  have B5 := bthen B4 hb5
                  have hil : ti.size ≤ 800200 := by rw [← by_len, hti]; exact HKL.out (by first | rfl | trivial)
                  obtain ⟨v1, m1, y1, r1⟩ := sum_two ⟨#[32, 123, 10]⟩ ti (by decide) (by omega)
                  have y1' : v1.size = 3 + ti.size := y1
                  obtain ⟨v2, m2, y2, r2⟩ := sum_two v1 um (by omega) (by omega)
                  obtain ⟨v3, m3, y3, r3⟩ := sum_two v2 ⟨#[125, 10]⟩ (by omega) (by decide)
                  have y3' : v3.size = v2.size + 2 := y3
                  obtain ⟨v4, m4, y4, r4⟩ := sum_two y v3 (by omega) (by omega)
                  have HN : Hid (by_ v4 = prtL d (toL (l.take (k + 1)))) := Lib.hid (by
                    rw [HPT.out, line_open, m4, HY.out, m3, m2, m1, hm.out, hti]
                    simp [by_])
                  clear m1 m2 m3 m4 y1 y3 HY HPT hti hb5 c2 c3 c4
                  go_wp2_with fail
                  go_roundw
                  case rel => exact ⟨k + 1, v4, by omega, by go_num, rfl, by congr 1; omega, HN, B5⟩
                  case measure => simp [intOf]; omega
          · have q0 : k = l.length := by omega
            subst k
            rw [List.take_length] at hu
            rw [List.take_length]
            go_wp2_with fail
            refine bodyPost_ret (v := .tuple #[.string u, .int .i64 (tkL l)]) (by simp [results, Tryz.results18, go_sem]) rfl ?_
            exact ⟨⟨u, rfl, hu.out⟩, B1⟩
theorem rChk_any (l : List NI) (v : Value) (S : Nat → Prop) (w : World) (hc : cntL l ≤ 4000) (hv : NsV S w v l) (hS : ∀ b, S b → b < w.heap.size) (hwf : WfL l) :
    Calls Tryz.prog 17 #[v] w fun e w' => e = .returned (.int .i64 (chkL 0 l : Nat)) ∧ Below w.heap.size w w' := by
  have ck := rCheckI_any 4001 (by omega) l v S w 0 (by omega) (by omega) hv hS hwf
  obtain ⟨E, hE⟩ : ∃ E, chkL 0 l = E := ⟨_, rfl⟩
  rw [hE] at ck ⊢
  clear hE
  go_enter Tryz.func17, Tryz.ntmps17
  go_wp2_with fail
  refine ck.mono ?_
  rintro e w1 ⟨rfl, hb⟩
  go_wp2_with fail
  refine bodyPost_ret (v := .int .i64 E) (by simp [results, Tryz.results17, go_sem]) rfl ⟨rfl, hb⟩

set_option maxRecDepth 100000 in
theorem rPrint_any (l : List NI) (v : Value) (S : Nat → Prop) (w : World) (r : ByteArray × Nat) (hc : cntL l ≤ 4000) (hwf : WfL l) (hv : NsV S w v l) (hS : ∀ b, S b → b < w.heap.size) (hr : Hid (printI l = r)) :
    Calls Tryz.prog 7 #[v] w fun e w' => e = .returned (.tuple #[.string r.1, .int .i64 r.2]) ∧ Below w.heap.size w w' := by
  have ck := rChk_any l v S w hc hv hS hwf
  obtain ⟨E, hE⟩ : ∃ E, chkL 0 l = E := ⟨_, rfl⟩
  rw [hE] at ck
  by_cases h0 : E = 0
  · subst h0
    have ct := fun W (hB : Below w.heap.size w W) => rText_any 4001 (by omega) l v S W 0 (by omega) (by omega) hE (hv.on hS hB) (fun b hb => Nat.lt_of_lt_of_le (hS b hb) hB.size)
    have htk := tk_fewL l 8 (chk_wsL 0 l hE)
    obtain ⟨T, hT⟩ : ∃ T, tkL l = T := ⟨_, rfl⟩
    rw [hT] at htk
    simp only [hT] at ct
    obtain ⟨X, hX⟩ : ∃ X, prtL 0 (toL l) = X := ⟨_, rfl⟩
    rw [hX] at ct
    have HI : Hid (r = if 8192 < T then (⟨#[]⟩, 6) else if 65536 < X.length then (⟨#[]⟩, 6) else (⟨X.toArray⟩, 0)) := Lib.hid (by
      rw [← hr.out, printI, if_neg (by rw [hE]; decide), hT, hX])
    clear hE hT hX hr hwf hv
    go_enter Tryz.func7, Tryz.ntmps7
    go_wp2_with fail
    refine ck.mono ?_
    rintro e w1 ⟨rfl, hb1⟩
    go_wp2_with fail
    refine (ct _ hb1).mono ?_
    rintro e w2 ⟨⟨t, rfl, ht⟩, hb2⟩
    have B2 := bthen hb1 hb2
    have htz : t.size = X.length := by rw [← by_len, ht]
    have hte : t = ⟨X.toArray⟩ := by
      apply ByteArray.ext
      apply Array.toList_inj.1
      simpa using ht
    clear hb1 hb2 ct ck ht
    by_cases h1 : 8192 < T
    · have d1 : decide ((8192 : Int) < (T : Int)) = true := decide_eq_true (by omega)
      have HJ : Hid (r = (⟨#[]⟩, 6)) := Lib.hid (by rw [HI.out, if_pos h1])
      clear HI hte
      go_wp2_with fail
      refine bodyPost_ret (v := .tuple #[.string ⟨#[]⟩, .int .i64 6]) (by simp [results, Tryz.results7, go_sem]) rfl ?_
      rw [HJ.out]
      exact ⟨rfl, B2⟩
    · have d1 : decide ((8192 : Int) < (T : Int)) = false := decide_eq_false (by omega)
      by_cases h2 : 65536 < X.length
      · have d2 : decide ((65536 : Int) < (t.size : Int)) = true := decide_eq_true (by omega)
        have HJ : Hid (r = (⟨#[]⟩, 6)) := Lib.hid (by rw [HI.out, if_neg h1, if_pos h2])
        clear HI hte
        go_wp2_with fail
        refine bodyPost_ret (v := .tuple #[.string ⟨#[]⟩, .int .i64 6]) (by simp [results, Tryz.results7, go_sem]) rfl ?_
        rw [HJ.out]
        exact ⟨rfl, B2⟩
      · have d2 : decide ((65536 : Int) < (t.size : Int)) = false := decide_eq_false (by omega)
        have HJ : Hid (r = (t, 0)) := Lib.hid (by rw [HI.out, if_neg h1, if_neg h2, hte])
        clear HI hte
        go_wp2_with fail
        refine bodyPost_ret (v := .tuple #[.string t, .int .i64 0]) (by simp [results, Tryz.results7, go_sem]) rfl ?_
        rw [HJ.out]
        exact ⟨rfl, B2⟩
  · have d3 : ((E : Int) != 0) = true := by
      have : ((E : Int) == 0) = false := beq_eq_false_iff_ne.2 (by omega)
      simp [bne, this]
    have HI : Hid (r = (⟨#[]⟩, E)) := Lib.hid (by rw [← hr.out, printI, if_pos (by rw [hE]; exact h0), hE])
    clear hE hr hwf hv
    go_enter Tryz.func7, Tryz.ntmps7
    go_wp2_with fail
    refine ck.mono ?_
    rintro e w1 ⟨rfl, hb1⟩
    go_wp2_with fail
    refine bodyPost_ret (v := .tuple #[.string ⟨#[]⟩, .int .i64 E]) (by simp [results, Tryz.results7, go_sem]) rfl ?_
    rw [HI.out]
    exact ⟨rfl, hb1⟩

set_option maxRecDepth 100000 in
theorem rCanon_any (s : ByteArray) (w : World) (r : ByteArray × Nat × Nat) (hm : s.size ≤ maxLen) (hc : Hid (∀ l, parseR s = .ok l → countL l ≤ 4000)) (hr : Hid (canonR s = r)) :
    Calls Tryz.prog 9 #[.string s] w fun e w' => e = .returned (.tuple #[.string r.1, .int .i64 r.2.1, .int .i64 r.2.2]) ∧ Below w.heap.size w w' := by
  obtain ⟨R, hR⟩ : ∃ R, parseR s = R := ⟨_, rfl⟩
  have cp := rParse_any s w R hm (Lib.hid hR)
  cases R with
  | error x =>
    obtain ⟨er, q⟩ := x
    have d3 : ((er : Int) != 0) = true := by rcases parseR_er hR with rfl | rfl | rfl <;> rfl
    have HI : Hid (r = (⟨#[]⟩, q, er)) := Lib.hid (by rw [← hr.out, canonR, hR])
    clear hR hm hc
    go_enter Tryz.func9, Tryz.ntmps9
    go_wp2_with fail
    refine cp.mono ?_
    rintro e w1 ⟨rfl, hb⟩
    go_wp2_with fail
    refine bodyPost_ret (v := .tuple #[.string ⟨#[]⟩, .int .i64 q, .int .i64 er]) (by simp [results, Tryz.results9, go_sem]) rfl ?_
    rw [HI.out]
    exact ⟨rfl, hb⟩
  | ok l =>
    have hcl := hc.out l hR
    have hs65 : s.size ≤ 65536 := by
      rw [parseR] at hR
      split at hR
      · cases hR
      · omega
    have hR' : parse (by_ s) = .ok l := by
      rw [parseR, if_neg (by omega)] at hR
      exact hR
    obtain ⟨ta, hta⟩ := parseR_cut_ok hR
    obtain ⟨hcs, hcut⟩ := cutR_ok hta
    obtain ⟨pa1, pa2, _, pa4, pa5⟩ := parse_right hR' hcut
    have hfl : (flatL l).length ≤ 8192 := by
      have := (cut_tokens _ _ _ _ _ (Nat.le_refl _) hcut).2.2 (by omega)
      rw [pa2, List.length_map]
      omega
    have hpr := print_read pa1 hfl
    obtain ⟨p, hp⟩ : ∃ p, printI (embL l) = p := ⟨_, rfl⟩
    have HI : Hid (r = (p.1, 0, p.2)) := Lib.hid (by
      rw [← hr.out, canonR, hR]
      simp only
      rw [← hp, hpr]
      split <;> rfl)
    have HF := Lib.hid (wf_embL 0 l pa1)
    have HP := Lib.hid hp
    have hce : cntL (embL l) ≤ 4000 := by rw [cnt_embL]; exact hcl
    clear hR hR' hta hcs hcut pa1 pa2 pa4 pa5 hfl hpr hp hc hm
    go_enter Tryz.func9, Tryz.ntmps9
    go_wp2_with fail
    refine cp.mono ?_
    rintro e w1 ⟨v, S, rfl, hb, hN, hS⟩
    have cq := rPrint_any (embL l) v S w1 p hce HF.out (nsV_emb hN) (fun b h => (hS b h).2) HP
    clear hN hS cp
    go_wp2_with fail
    refine cq.mono ?_
    rintro e w2 ⟨rfl, hb2⟩
    have B2 := bthen hb hb2
    go_wp2_with fail
    refine bodyPost_ret (v := .tuple #[.string p.1, .int .i64 0, .int .i64 p.2]) (by simp [results, Tryz.results9, go_sem]) rfl ?_
    rw [HI.out]
    exact ⟨rfl, B2⟩

end Go.Proofs.YtabhbcedldjjjaaGreatDoor.Yo
