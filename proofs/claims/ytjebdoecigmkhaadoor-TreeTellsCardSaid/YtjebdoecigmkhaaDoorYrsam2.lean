/- The reference's Same, for any items. -/
import Derived.Test.YtjebdoecigmkhaaDoorYgen2
import Derived.Test.YtjebdoecigmkhaaDoorYsame
import Derived.OwnWalk
import Derived.BigQuiet
namespace Go.Proofs.YtjebdoecigmkhaaDoor.Yg
set_option linter.unusedSimpArgs false
set_option linter.unusedVariables false
open Go Go.RowKit Go.Proofs.YtjebdoecigmkhaaDoor.Zm Go.Proofs.YtjebdoecigmkhaaDoor.Ym Go.Proofs.YtjebdoecigmkhaaDoor.Bn

set_option maxHeartbeats 2000000

theorem wd_neq (p p' : Bool) (n n' a : Int) (s s' : ByteArray) (w : World) :
    (binOp .neq 42 (.agg #[.bool p, .int .i64 n, .string s, .int .i64 a]) (.agg #[.bool p', .int .i64 n', .string s', .int .i64 a])).run Tryd.prog w = .ok (.bool (!decide (p = p' ∧ n = n' ∧ s = s'))) w := by
  by_cases h1 : p = p'
  · by_cases h3 : n = n'
    · by_cases h4 : s = s'
      · subst h1 h3 h4; simp [go_sem]
      · simp [go_sem, h1, h3, h4]; intro e; exact h4 (by rw [ByteArray.toList_eq, ByteArray.toList_eq] at e; exact ByteArray.ext (Array.toList_inj.1 e))
    · simp [go_sem, h1, h3]
  · simp [go_sem, h1]
theorem str_ne {a b : ByteArray} (h : a ≠ b) : (a.toList == b.toList) = false := beq_eq_false_iff_ne.2 (fun e => h (by
  rw [ByteArray.toList_eq, ByteArray.toList_eq] at e
  exact ByteArray.ext (Array.toList_inj.1 e)))

set_option maxRecDepth 100000 in
theorem rSameI_any (N : Nat) (hN : N ≤ 1000000) : ∀ (l m : List NI) (v u : Value) (S : Nat → Prop) (w : World) (r : Bool), cntL l < N → WsL 1000000 l → NsV S w v l → NsV S w u m → (∀ b, S b → b < w.heap.size) → Hid (r = true ↔ SameL l m) →
    Calls Tryd.prog 26 #[v, u] w fun e w' => e = .returned (.bool r) ∧ Below w.heap.size w w' := by
  induction N with
  | zero => intro l m v u S w r h; omega
  | succ N ih =>
    intro l m v u S w r hc hws hv hu hS hr
    have ih := ih (by omega)
    obtain ⟨p1, c1, rfl, h1⟩ := hv
    obtain ⟨p2, c2, rfl, h2⟩ := hu
    have hlen := cnt_len l
    by_cases hlm : l.length = m.length
    · have dn : ((l.length : Int) != (m.length : Int)) = false := by simp [hlm]
      have H1 := Lib.hid h1
      have H2 := Lib.hid h2
      have HLM := Lib.hid hlm
      have HWs := Lib.hid hws
      clear h1 h2 hlm hws
      go_enter Tryd.func26, Tryd.ntmps26
      go_wp2_with fail
      go_loopw [17] (fun I wr => ∃ k : Nat, k ≤ l.length ∧ I = .int .i64 k ∧ Hid (∀ i (h1 : i < l.length) (h2 : i < m.length), i < k → SameN l[i] m[i]) ∧ Below w.heap.size w wr) (fun I _ => l.length - (intOf I).toNat)
      case atStart => exact ⟨0, by omega, rfl, Lib.hid (fun i _ _ h => by omega), Below.refl _ _⟩
      case round =>
        obtain ⟨k, hk, rfl, HE, B1⟩ := hrel
        by_cases hlt : k < l.length
        · have hkm : k < m.length := by have := HLM.out; omega
          obtain ⟨g, o, rfl, f1⟩ := H1.out.resolve_left (by intro e; rw [e] at hlt; simp at hlt)
          obtain ⟨g2, o2, rfl, f2⟩ := H2.out.resolve_left (by intro e; rw [e] at hkm; simp at hkm)
          obtain ⟨nm, a, ws, b, ks, vw, vk, he, s1, x0, x1, x2, x3, x4, hw, hk1⟩ := (f1.get k hlt).un
          obtain ⟨nm', a', ws', b', ks', vw', vk', he', s2, y0, y1, y2, y3, y4, hw', hk2⟩ := (f2.get k hkm).un
          have lg := hS g s1
          have lg2 := hS g2 s2
          have hcn := cnt_get l k hlt
          have hwk := HWs.out.get k hlt
          have hno : ¬ SameN l[k] m[k] → r = false := fun q => by
            cases r with
            | false => rfl
            | true => exact absurd (((sameL_iff l m).1 (hr.out.1 rfl)).2 k hlt hkm) q
          have hyes : SameN l[k] m[k] → ∀ i (h1 : i < l.length) (h2 : i < m.length), i < k + 1 → SameN l[i] m[i] := fun e i h1 h2 h3 => by
            by_cases h4 : i < k
            · exact HE.out i h1 h2 h4
            · obtain rfl : i = k := by omega
              exact e
          rw [he] at hcn hwk hno hyes
          rw [he'] at hno hyes
          simp only [cntN] at hcn
          simp only [SameN] at hno hyes
          obtain ⟨hw20, hwsk⟩ := hwk
          replace x0 := (B1.cell (p := ⟨g, _, none⟩) lg).trans x0
          replace x1 := (B1.cell (p := ⟨g, _, none⟩) lg).trans x1
          replace x2 := (B1.cell (p := ⟨g, _, none⟩) lg).trans x2
          replace x3 := (B1.cell (p := ⟨g, _, none⟩) lg).trans x3
          replace x4 := (B1.cell (p := ⟨g, _, none⟩) lg).trans x4
          replace y0 := (B1.cell (p := ⟨g2, _, none⟩) lg2).trans y0
          replace y1 := (B1.cell (p := ⟨g2, _, none⟩) lg2).trans y1
          replace y2 := (B1.cell (p := ⟨g2, _, none⟩) lg2).trans y2
          replace y3 := (B1.cell (p := ⟨g2, _, none⟩) lg2).trans y3
          replace y4 := (B1.cell (p := ⟨g2, _, none⟩) lg2).trans y4
          have lg' := Nat.lt_of_lt_of_le lg B1.size
          have lg2' := Nat.lt_of_lt_of_le lg2 B1.size
          obtain ⟨wp, wc, rfl, hwf⟩ := hw
          obtain ⟨up, uc, rfl, huf⟩ := hw'
          obtain ⟨kp, kc, rfl, hkf⟩ := hk1
          obtain ⟨jp, jc, rfl, hjf⟩ := hk2
          have HW := Lib.hid hwf
          have HU := Lib.hid huf
          have HK := Lib.hid hkf
          have HJ := Lib.hid hjf
          have Hno := Lib.hid hno
          have Hyes := Lib.hid hyes
          have Hih := Lib.hid ih
          clear hwf huf hkf hjf f1 f2 he he' s1 s2 HE hno hyes ih
          by_cases q1 : nm = nm'
          · subst q1
            by_cases q2 : b = b'
            · subst q2
              by_cases q3 : ws.length = ws'.length
              · rw [← q3] at y2
                obtain ⟨q, hq⟩ : ∃ q : Bool, q = true ↔ SameL ks ks' := by
                  by_cases h : SameL ks ks'
                  · exact ⟨true, by simp [h]⟩
                  · exact ⟨false, by simp [h]⟩
                have ck : ∀ W, Below w.heap.size w W → Calls Tryd.prog 26 #[.slice kp ks.length kc, .slice jp ks'.length jc] W fun e w' => e = .returned (.bool q) ∧ Below W.heap.size W w' := fun W hB =>
                  Hih.out ks ks' _ _ S W q (by omega) hwsk (NsV.on (W := w) ⟨kp, kc, rfl, HK.out⟩ hS hB) (NsV.on (W := w) ⟨jp, jc, rfl, HJ.out⟩ hS hB) (fun b hb => Nat.lt_of_lt_of_le (hS b hb) hB.size) (Lib.hid hq)
                have ck := Lib.hid ck
                have Hq := Lib.hid hq
                have HQ3 := Lib.hid q3
                clear hq q3 Hih hr
                cases q with
                | false =>
                  obtain rfl := Hno.out (fun h => by have := Hq.out.2 h.2.2.2; cases this)
                  clear Hno Hyes
                  go_wp2_with fail
                  refine (ck.out _ (balloc (balloc B1 _) _)).mono ?_
                  rintro e w2 ⟨rfl, hb⟩
                  have B2 := bthen (balloc (balloc B1 _) _) hb
                  clear hb ck
                  go_wp2_with fail
                  go_ret
                  exact ⟨rfl, B2⟩
                | true =>
                  obtain ⟨q, hq⟩ : ∃ q, ws.length = q := ⟨_, rfl⟩
                  have HQ := Lib.hid hq
                  rw [hq] at x2 y2 hw20
                  clear hq
                  obtain ⟨q4, hq4⟩ : ∃ q, ks.length = q := ⟨_, rfl⟩
                  obtain ⟨q5, hq5⟩ : ∃ q, ks'.length = q := ⟨_, rfl⟩
                  rw [hq4] at x4 ck
                  rw [hq5] at y4 ck
                  clear hq4 hq5 hcn hwsk
                  go_wp2_with fail
                  refine (ck.out _ (balloc (balloc B1 _) _)).mono ?_
                  rintro e w2 ⟨rfl, hb⟩
                  have B2 := bthen (balloc (balloc B1 _) _) hb
                  have P1 := ((Box.new wr #[.string nm, .int .i64 a, .slice wp q wc, .bool b, .slice kp q4 kc] 40).alloc (.cells #[.string nm, .int .i64 a', .slice up q uc, .bool b, .slice jp q5 jc] 40)).kept hb
                  have P2 := (Box.new (wr.alloc (.cells #[.string nm, .int .i64 a, .slice wp q wc, .bool b, .slice kp q4 kc] 40)) #[.string nm, .int .i64 a', .slice up q uc, .bool b, .slice jp q5 jc] 40).kept hb
                  rw [World.size_alloc] at P2
                  clear hb ck x0 x1 x2 x3 x4 y0 y1 y2 y3 y4
                  obtain ⟨z1, _, _, c2, _, _, _⟩ := id P1.five
                  go_wp2_with fail
                  go_loopw [58] (fun J w5 => ∃ j : Nat, j ≤ q ∧ J = .int .i64 j ∧ Hid (∀ i (h1 : i < ws.length) (h2 : i < ws'.length), i < j → stw ws[i] = stw ws'[i]) ∧ Below w2.heap.size w2 w5) (fun J _ => q - (intOf J).toNat)
                  case atStart => exact ⟨0, by omega, rfl, Lib.hid (fun i _ _ h => by omega), Below.refl _ _⟩
                  case round =>
                    clear c2
                    obtain ⟨j, hj, rfl, HJE, B3⟩ := hrel
                    have B5 := bthen B2 B3
                    by_cases hjt : j < q
                    · have hQ := HQ.out
                      have j1 : j < ws.length := by omega
                      have j2 : j < ws'.length := by rw [← HQ3.out]; exact j1
                      obtain ⟨gw, ow, rfl, hw⟩ := HW.out.resolve_left (by intro e; rw [e] at j1; simp at j1)
                      obtain ⟨gu, ou, rfl, hu⟩ := HU.out.resolve_left (by intro e; rw [e] at j2; simp at j2)
                      obtain ⟨t0, p0, p1, p2, p3⟩ := hw.get j j1
                      obtain ⟨t1, r0, r1, r2, r3⟩ := hu.get j j2
                      have lw := hS gw t0
                      have lu := hS gu t1
                      replace p0 := (B5.cell (p := ⟨gw, _, none⟩) lw).trans p0
                      replace p1 := (B5.cell (p := ⟨gw, _, none⟩) lw).trans p1
                      replace p2 := (B5.cell (p := ⟨gw, _, none⟩) lw).trans p2
                      replace p3 := (B5.cell (p := ⟨gw, _, none⟩) lw).trans p3
                      replace r0 := (B5.cell (p := ⟨gu, _, none⟩) lu).trans r0
                      replace r1 := (B5.cell (p := ⟨gu, _, none⟩) lu).trans r1
                      replace r2 := (B5.cell (p := ⟨gu, _, none⟩) lu).trans r2
                      replace r3 := (B5.cell (p := ⟨gu, _, none⟩) lu).trans r3
                      obtain ⟨z2, _, _, d2, _, _, _⟩ := id (P2.kept B3).five
                      have lw' := Nat.lt_of_lt_of_le lw B5.size
                      have lu' := Nat.lt_of_lt_of_le lu B5.size
                      obtain ⟨E, hE⟩ : ∃ E, (!decide (ws[j].num = ws'[j].num ∧ ws[j].n = ws'[j].n ∧ ws[j].s = ws'[j].s)) = E := ⟨_, rfl⟩
                      have hqn := fun w => wd_neq ws[j].num ws'[j].num ws[j].n ws'[j].n ws'[j].a ws[j].s ws'[j].s w
                      rw [hE] at hqn
                      have HE1 : Hid (E = true → r = false) := Lib.hid (fun e => by
                        subst e
                        refine Hno.out (fun h => ?_)
                        have := ((stw_iff ws ws').1 h.2.2.1).2 j j1 j2
                        simp only [stw, Prod.mk.injEq] at this
                        simp [this] at hE)
                      have HE2 : Hid (E = false → ∀ i (h1 : i < ws.length) (h2 : i < ws'.length), i < j + 1 → stw ws[i] = stw ws'[i]) := Lib.hid (fun e i h1 h2 h3 => by
                        by_cases h4 : i < j
                        · exact HJE.out i h1 h2 h4
                        · obtain rfl : i = j := by omega
                          subst e
                          have := of_decide_eq_true (by simpa using hE : decide (ws[i].num = ws'[i].num ∧ ws[i].n = ws'[i].n ∧ ws[i].s = ws'[i].s) = true)
                          simp only [stw, Prod.mk.injEq]
                          exact this)
                      generalize ws[j].num = wn at *
                      generalize ws[j].n = wx at *
                      generalize ws[j].a = wa at *
                      generalize ws[j].s = wt at *
                      generalize ws'[j].num = wn' at *
                      generalize ws'[j].n = wx' at *
                      generalize ws'[j].a = wb at *
                      generalize ws'[j].s = wt' at *
                      clear hw hu hQ j1 j2 HJE hE
                      cases E with
                      | false =>
                        have HE3 := Lib.hid (HE2.out rfl)
                        clear HE1 HE2
                        go_wp2_with fail
                        go_quiet (fail)
                        go_wp2_with fail
                        go_roundw
                        case rel => exact ⟨j + 1, by omega, by go_num, HE3, bdrewN (balloc B3 _) _⟩
                        case measure => simp [intOf]; omega
                      | true =>
                        obtain rfl := HE1.out rfl
                        clear HE1 HE2
                        have B6 := balloc B5 (.cells #[.bool wn, .int .i64 wx, .string wt, .int .i64 wb] 42)
                        go_wp2_with fail
                        go_quiet (fail)
                        go_wp2_with fail
                        go_ret
                        exact ⟨rfl, bdrewN (balloc B5 _) _⟩
                    · obtain rfl : j = q := by omega
                      have HY := Lib.hid (Hyes.out ⟨by first | exact trivial | rfl, by first | exact trivial | rfl, (stw_iff ws ws').2 ⟨HQ3.out, fun i h1 h2 => HJE.out i h1 h2 (by have := HQ.out; omega)⟩, by have := Hq.out; simpa using this⟩)
                      clear Hyes Hno HJE
                      go_wp2_with fail
                      go_roundw
                      case rel => exact ⟨k + 1, by omega, by go_num, HY, B5⟩
                      case measure => simp [intOf]; omega
              · obtain rfl := Hno.out (fun h => q3 (by have := congrArg List.length h.2.2.1; simpa using this))
                have dw : ((ws.length : Int) != (ws'.length : Int)) = true := by simp; omega
                clear Hno Hyes HW HU HK HJ Hih hr
                go_wp2_with fail
                go_ret
                exact ⟨rfl, balloc (balloc B1 _) _⟩
            · obtain rfl := Hno.out (fun h => q2 h.2.1)
              have db : (b != b') = true := by simpa using q2
              have db' : (b == b') = false := by simpa using q2
              clear Hno Hyes HW HU HK HJ Hih hr
              go_wp2_with fail
              go_ret
              exact ⟨rfl, balloc (balloc B1 _) _⟩
          · obtain rfl := Hno.out (fun h => q1 h.1)
            have ds := str_ne q1
            have ds' : (nm.toList != nm'.toList) = true := by simp [bne, ds]
            clear Hno Hyes HW HU HK HJ Hih hr
            go_wp2_with fail
            go_ret
            exact ⟨rfl, balloc (balloc B1 _) _⟩
        · obtain rfl : k = l.length := by omega
          obtain rfl : r = true := hr.out.2 ((sameL_iff l m).2 ⟨HLM.out, fun i h1 h2 => HE.out i h1 h2 h1⟩)
          go_wp2_with fail
          go_ret
          exact ⟨rfl, B1⟩
    · have dn : ((l.length : Int) != (m.length : Int)) = true := by simp [hlm]; omega
      obtain rfl : r = false := by
        cases r with
        | false => rfl
        | true => exact absurd ((sameL_iff l m).1 (hr.out.1 rfl)).1 hlm
      clear hr hlm h1 h2 ih
      go_enter Tryd.func26, Tryd.ntmps26
      go_wp2_with fail
      go_ret
      exact ⟨rfl, Below.refl _ _⟩

end Go.Proofs.YtjebdoecigmkhaaDoor.Yg
