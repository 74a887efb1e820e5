/- Texts of this claim, joined: Ssplit, Rowp, Rowp2, Gcode, Qmath, Qchk, Qtimes, Qops, Qlaw, Sexact, Wref, Wrmul, Kchk, Klow, Kmath, Rcompare, Kops, Kmake. -/
import Derived.Test.YtodpmdmfdnbehabG03
import Derived.Laws.BitsAllLaws
import Derived.Deep.RegionHeld3
import Derived.Deep.DeepCutAuto
/- Split of the reference of layer 4, where the weights may be. -/
namespace Go.Proofs.Ytodpmdmfdnbehab.Sr
set_option linter.unusedSimpArgs false
set_option linter.unusedVariables false
open Go.RowKit Go.Proofs.Ytodpmdmfdnbehab.Vm Go.Proofs.Ytodpmdmfdnbehab.Vc Go.Proofs.Ytodpmdmfdnbehab.Pr Go.Proofs.Ytodpmdmfdnbehab.Rk Go.Proofs.Ytodpmdmfdnbehab.Sm Go.Proofs.Ytodpmdmfdnbehab.Om

set_option maxHeartbeats 2000000

theorem row_congr {W : World} {g n : Nat} {f f' : Nat → Int} (p : Row W g n f) (h : ∀ i, i < n → f i = f' i) : Row W g n f' :=
  ⟨p.lt, fun i hi => by rw [← h i hi]; exact p.c i hi, p.fz⟩

theorem rinfoI : (Try.prog.info? 2).map (fun i => (i.zero, i.size, i.bytes)) = some (some (.int .i64 0), 1, 8) := by kernel_rfl
theorem runderS : Try.prog.underlying 22 = some (.slice 2) := by kernel_rfl

/-- the first n values of o, as a list -/
def rl (o : Nat → Int) (n : Nat) : List Int := (List.range n).map o
theorem rl_len (o : Nat → Int) (n : Nat) : (rl o n).length = n := by simp [rl]
theorem rl_at (o : Nat → Int) {n i : Nat} (h : i < n) : (rl o n).getD i 0 = o i := by simp [rl, List.getD, h]
theorem rl_sum (o : Nat → Int) (n : Nat) : (rl o n).sum = sm o n := by
  have h := sm_list (rl o n)
  rw [rl_len] at h
  rw [← h]
  exact sm_congr (fun i hi => rl_at o hi)

/-- while some are to be given still, the next one has something left over -/
theorem step_pos {a : Int} {w : Nat → Int} {n j : Nat} {C : Nat → Bool} {b : Nat} (h : MayBe w n) (hC : cnt C n = j) (hj : (j : Int) < left a w n) (m : ∀ k, k < n → C k = false → rem a w n k ≤ rem a w n b) : 0 < rem a w n b := by
  have r0 := (rem_bd (a := a) h b).1
  by_cases c : 0 < rem a w n b
  · exact c
  · exfalso
    have le : ∀ k, k < n → rem a w n k ≤ tot w n * one (C k) := by
      intro k hk
      have rb := rem_bd (a := a) h k
      cases ck : C k
      · have := m k hk ck; simp [one]; omega
      · simp [one]; omega
    have s := sm_le le
    rw [sm_mul] at s
    have e1 : sm (fun k => one (C k)) n = j := hC
    rw [e1, (left_is (a := a) h).2] at s
    have := Int.mul_le_mul_of_nonneg_left (show (j : Int) + 1 ≤ left a w n by omega) (show 0 ≤ tot w n by have := h.2; omega)
    rw [Int.mul_add, Int.mul_one] at this
    have := h.2
    omega

/-- what the search has found ahead of place i -/
def Found (A : Nat → Int) (i b : Nat) : Prop := b ≤ i ∧ ∀ k, k < i → A k < A b ∨ (A k = A b ∧ b ≤ k)
theorem found_best {r : Nat → Int} {n j c b : Nat} {C : Nat → Bool} (hb : b < n) (h : Best r n j C) (jc : j < c) (cn : c ≤ n) (r0 : ∀ i, i < n → 0 ≤ r i) (F : Found (fun i => if C i = true then -1 else r i) n b) :
    C b = false ∧ ∀ k, k < n → C k = false → k ≠ b → Ahead r b k := by
  obtain ⟨k0, h0, c0⟩ := cnt_lt (C := C) (n := n) (by rw [h.1]; omega)
  have cb : C b = false := by
    cases e : C b
    · rfl
    · have := F.2 k0 h0
      have := r0 k0 h0
      simp only [e, c0, if_true] at *
      simp at *
      omega
  refine ⟨cb, fun k hk ck ne => ?_⟩
  have := F.2 k hk
  simp only [cb, ck] at this
  simp at this
  unfold Ahead; omega

/-- what Split of the reference leaves -/
def RSplitRes (w : World) (n : Nat) (P : (Nat → Int) → Prop) (e : Ending) (w' : World) : Prop :=
  ∃ (g cap : Nat) (o : Nat → Int), e = .returned (.tuple #[.slice (some ⟨g, 0, none⟩) n cap, .int .i64 0]) ∧ Row w' g n o ∧ w.heap.size ≤ g ∧ P o ∧ Below w.heap.size w w'

set_option maxRecDepth 100000 in
theorem rsplit_go (A : Option Addr) (n cap : Nat) (zs : List Int) (a : Int) (w : World) (hn : zs.length = n) (n0 : 0 < n) (n1 : n ≤ 300) (fa : Fit1 a) (hf : ∀ z ∈ zs, Fit1 z) (hr : Rd w w.heap.size A zs) (hp : ∀ z ∈ zs, 0 ≤ z) (hs : 0 < zs.sum) (fs : Fit1 zs.sum) :
    Calls Try.prog 7 #[.int .i64 a, .slice A n cap] w (RSplitRes w n (IsSplit a (wt zs) n)) := by
  have ct := fun w h => rAll_any A n cap zs zs.sum 0 w hn (.inl n1) (by omega) hf h (.inr (.inr ⟨by omega, hp, .inr (.inr ⟨hs, fs, rfl, rfl⟩)⟩))
  obtain ⟨b, off, rfl, hb, hcell⟩ := hr.resolve_left (by intro e; rw [e] at hn; simp at hn; omega)
  have M : MayBe (wt zs) n := by rw [← hn]; exact may_list hp hs
  have te : tot (wt zs) n = zs.sum := by rw [← hn]; exact sm_list zs
  obtain ⟨t, ht⟩ : ∃ t, t = zs.sum := ⟨_, rfl⟩
  rw [← ht] at ct te hs fs
  obtain ⟨x, hx⟩ : ∃ x, x = wt zs := ⟨_, rfl⟩
  have hcell2 : ∀ i, i < n → w.cell? ⟨b, off + i, none⟩ = some (.int .i64 (x i)) := fun i hi => by rw [hx]; exact hcell i (by omega)
  have fx : ∀ i, i < n → Fit1 (x i) := fun i hi => by rw [hx]; exact hf _ (getD_mem (by omega))
  rw [← hx] at M te ⊢
  have CM : Hid (∀ i W, i < n → Calls Try.prog 16 #[.int .i64 a, .int .i64 (x i), .int .i64 t] W fun e w' => e = .returned (.tuple #[.int .i64 (quo a x n i), .int .i64 (rem a x n i), .int .i64 0]) ∧ Below W.heap.size W w') :=
    Lib.hid (fun i W hi => Vr.rmuldiv_to a (x i) t (quo a x n i) (rem a x n i) 0 W fa (fx i hi) fs (.inr (.inr (.inr ⟨hs, rfl, quo_fit fa M hi, by unfold quo; rw [te], by unfold rem; rw [te]⟩))))
  have lb := left_bd (a := a) M
  obtain ⟨c, hc⟩ : ∃ c : Nat, (c : Int) = left a x n := ⟨(left a x n).toNat, by omega⟩
  have cn : c ≤ n := by omega
  have RB : ∀ i, 0 ≤ rem a x n i ∧ rem a x n i < t := fun i => by have := rem_bd (a := a) M i; rw [te] at this; exact this
  have fr : ∀ z ∈ rl (rem a x n) n, Fit1 z := by
    intro z hz
    unfold rl at hz
    obtain ⟨i, _, rfl⟩ := List.mem_map.1 hz
    have := RB i
    unfold Fit1 at *; omega
  have sr : (rl (rem a x n) n).sum = t * left a x n := by rw [rl_sum, ← te]; exact (left_is M).2
  obtain ⟨h1, l1, e1, b1⟩ := words_ex (x := (rl (rem a x n) n).sum) (by
    rw [sr, ← hc]
    have k1 : t * (c : Int) ≤ 9223372036854775807 * 300 := Int.mul_le_mul (by unfold Fit1 at fs; omega) (by omega) (by omega) (by omega)
    have k2 : 0 ≤ t * (c : Int) := Int.mul_nonneg (by omega) (by omega)
    unfold Fits; omega)
  obtain ⟨h2, l2, e2, b2⟩ := words_ex (x := (c : Int)) (by unfold Fits; omega)
  have CD : Hid (∀ W, Calls Try.prog 17 #[.agg #[.int .i64 h1, .int .u64 l1], .int .i64 t] W fun e w' => e = .returned (.tuple #[.agg #[.int .i64 h2, .int .u64 l2], .int .i64 0, .int .i64 0]) ∧ Below W.heap.size W w') :=
    Lib.hid (fun W => Vr.rDiv_any h1 l1 t h2 l2 0 0 W b1 fs (.inr (.inr ⟨hs, rfl, b2, by rw [e1, e2, sr, hc, Int.mul_comm]; omega, by omega, hs⟩)))
  have CF : Hid (∀ W, Calls Try.prog 19 #[.agg #[.int .i64 h2, .int .u64 l2]] W fun e w' => e = .returned (.tuple #[.int .i64 (c : Int), .int .i64 0]) ∧ Below W.heap.size W w') :=
    Lib.hid (fun W => Vr.rFit_any h2 l2 c 0 W b2 (.inl ⟨rfl, e2.symm, by unfold Fit1; rw [e2]; omega⟩))
  have CS : Hid (∀ (g cap : Nat) W, Row W g n (rem a x n) → Calls Try.prog 18 #[.slice (some ⟨g, 0, none⟩) n cap] W fun e w' => e = .returned (.agg #[.int .i64 h1, .int .u64 l1]) ∧ Below W.heap.size W w') :=
    Lib.hid (fun g cap W r => rSums_any (some ⟨g, 0, none⟩) n cap (rl (rem a x n) n) h1 l1 W (rl_len _ _) n1 fr (.inr ⟨g, 0, rfl, r.lt, fun i hi => by
      rw [rl_len] at hi
      rw [rl_at _ hi, Nat.zero_add]; exact r.c i hi⟩) b1 e1)
  have HX := Lib.hid hcell2
  have HM := Lib.hid M
  have HA := Lib.hid fa
  have HC := Lib.hid hc
  have ct0 := ct w hr
  obtain ⟨i0, hi, hz0, hz1, hz2⟩ := info_parts rinfoI
  clear ct hcell hcell2 M te fx hr hp hf hn ht hx hs fs lb hc RB fr sr e1 b1 e2 b2
  go_enter Try.func7, Try.ntmps7
  go_wp2_with fail
  refine ct0.mono ?_
  rintro e w1 ⟨rfl, hb1⟩
  clear ct0
  go_wp2
  go_loopw [8, 9, 33] (fun O Ab K wr => ∃ k : Nat, k ≤ n ∧ K = .int .i64 k ∧ Duo 2 w wr O Ab k (quo a x n) (rem a x n)) (fun _ _ K _ => n - (intOf K).toNat)
  case atStart => exact ⟨0, by omega, rfl, Duo.start _ w hb1 _ _⟩
  case round =>
    clear hb1
    obtain ⟨k, hk, rfl, X⟩ := hrel
    by_cases hlt : k < n
    · have hc := (X.below.cell (p := ⟨b, off + k, none⟩) hb).trans (HX.out k hlt)
      have cmk := fun W => CM.out k W hlt
      obtain ⟨xk, hxk⟩ : ∃ s, x k = s := ⟨_, rfl⟩
      obtain ⟨qk, hq⟩ : ∃ s, quo a x n k = s := ⟨_, rfl⟩
      obtain ⟨rk, hr⟩ : ∃ s, rem a x n k = s := ⟨_, rfl⟩
      rw [hxk] at hc
      rw [hxk, hq, hr] at cmk
      have HK := Lib.hid (And.intro hq hr)
      clear hxk hq hr
      go_wp2_with fail
      refine (cmk _).mono ?_
      rintro e w2 ⟨rfl, hb2⟩
      replace X := X.kept hb2
      clear hb2 cmk hc
      have sz := X.below.size
      go_wp2_with (first
        | (at_builtin; refine wpList_append_lies _ rfl _ _ 22 rfl w.heap.size 2 i0 (.int .i64 0) 1 8 runderS hi hz0 hz1 hz2 rfl (by decide) _ k (lst (quo a x n) k) rfl (X.a.alloc _) ⟨w2.heap.size, 0, none⟩ 1 1 [.int .i64 qk] rfl rfl ?c1 ?c2 (by omega) ?c3 ?c4 ?c5 _ rfl ?m1))
      case c1 =>
        intro j u hj
        match j, hj with
        | 0, hj => simp at hj; subst hj; simp [Addr.add]
      case c2 => intro u hu; simp at hu; subst hu; rfl
      case c3 => unfold maxLen; omega
      case c4 => omega
      case c5 => simp; omega
      case m1 =>
        intro g1 cap1 w3 hown1 hgrow1 hat1 hlt1
        have XB := (X.b.alloc (.cells #[.int .i64 qk] 2)).kept hgrow1 (X.apart' )
        have sz1 := hgrow1.size
        rw [World.size_alloc] at sz1
        go_wp2_with (first
          | (at_builtin; refine wpList_append_lies _ rfl _ _ 22 rfl w.heap.size 2 i0 (.int .i64 0) 1 8 runderS hi hz0 hz1 hz2 rfl (by decide) _ k (lst (rem a x n) k) rfl (XB.alloc _) ⟨w3.heap.size, 0, none⟩ 1 1 [.int .i64 rk] rfl rfl ?d1 ?d2 (by omega) ?d3 ?d4 ?d5 _ rfl ?m2))
        case d1 =>
          intro j u hj
          match j, hj with
          | 0, hj => simp at hj; subst hj; simp [Addr.add]
        case d2 => intro u hu; simp at hu; subst hu; rfl
        case d3 => unfold maxLen; omega
        case d4 => omega
        case d5 => simp; omega
        case m2 =>
          intro g2 cap2 w4 hown2 hgrow2 hat2 hlt2
          have X2 := X.next (o1 := .cells #[.int .i64 qk] 2) (o2 := .cells #[.int .i64 rk] 2) (by rw [HK.out.1]; exact hown1) hgrow1 hat1 hlt1 (by rw [HK.out.2]; exact hown2) hgrow2 hat2 hlt2
          clear hown1 hgrow1 hat1 hlt1 hown2 hgrow2 hat2 hlt2 X XB sz1 sz
          go_wp2
          go_roundw
          case rel => exact ⟨k + 1, by omega, by go_num, X2⟩
          case measure => simp [intOf] <;> omega
    · obtain rfl : k = n := by omega
      obtain ⟨g1, cap1, rfl, hg1, lt1⟩ := X.a.form n0
      obtain ⟨g2, cap2, rfl, hg2, lt2⟩ := X.b.form n0
      have RA := Row.of_owns X.a n0
      have RB := Row.of_owns X.b n0
      have ne : g1 ≠ g2 := fun e => X.apart g1 rfl (by rw [e]; rfl)
      have B1 := X.below
      clear X
      go_wp2_with fail
      refine (CS.out g2 cap2 _ RB).mono ?_
      rintro e w2 ⟨rfl, hb2⟩
      replace B1 := bthen B1 hb2
      replace RA := RA.kept hb2
      replace RB := RB.kept hb2
      clear hb2
      go_wp2_with fail
      refine (CD.out _).mono ?_
      rintro e w3 ⟨rfl, hb2⟩
      replace B1 := bthen B1 hb2
      replace RA := RA.kept hb2
      replace RB := RB.kept hb2
      clear hb2
      go_wp2_with fail
      refine (CF.out _).mono ?_
      rintro e w4 ⟨rfl, hb2⟩
      have A3 : Below w3.heap.size w3 (w3.alloc (.cells #[.int .i64 h2, .int .u64 l2] 44)) := balloc (Below.refl _ _) _
      replace B1 := bthen (balloc B1 _) hb2
      replace RA := (RA.kept A3).kept hb2
      replace RB := (RB.kept A3).kept hb2
      clear hb2 A3
      have HM1 := HM.out
      have R0 : ∀ i, i < k → 0 ≤ rem a x k i := fun i _ => (rem_bd HM1 i).1
      have HR0 := Lib.hid R0
      clear HM1 R0
      go_wp2
      go_loopw [68] (fun Y wr => ∃ (j : Nat) (C : Nat → Bool), j ≤ c ∧ Y = .int .i64 j ∧ Below w.heap.size w wr ∧ Row wr g1 k (fun i => quo a x k i + one (C i)) ∧ Row wr g2 k (fun i => if C i = true then -1 else rem a x k i) ∧ Hid (Best (rem a x k) k j C)) (fun Y _ => c - (intOf Y).toNat)
      case atStart => exact ⟨0, fun _ => false, by omega, rfl, B1, row_congr RA (fun i _ => by simp [one]), row_congr RB (fun i _ => by simp), Lib.hid (best_none _ _)⟩
      case round =>
        clear B1 RA RB
        obtain ⟨j, C, jc, rfl, B1, RA, RB, HB⟩ := hrel
        by_cases jlt : j < c
        · obtain ⟨Am, hAm⟩ : ∃ Am : Nat → Int, Am = fun i => if C i = true then -1 else rem a x k i := ⟨_, rfl⟩
          rw [← hAm] at RB
          have HAm := Lib.hid hAm
          clear hAm
          go_wp2
          go_loop [20, 72] (fun Bv I => ∃ b i : Nat, i ≤ k ∧ b < k ∧ Bv = .int .i64 b ∧ I = .int .i64 i ∧ Hid (Found Am i b)) (fun _ I => k - (intOf I).toNat)
          case atStart => exact ⟨0, 0, by omega, n0, rfl, rfl, Lib.hid ⟨by omega, fun q hq => by omega⟩⟩
          case round =>
            obtain ⟨bb, i, hi, hbb, rfl, rfl, F⟩ := hrel
            by_cases ilt : i < k
            · have k1 := RB.c i ilt
              have k2 := RB.c bb hbb
              have pi : (0 : Int) ≤ (i : Int) := by omega
              have bi : (i : Int) < (k : Int) := by omega
              have pb : (0 : Int) ≤ (bb : Int) := by omega
              have bb' : (bb : Int) < (k : Int) := by omega
              by_cases gt : Am bb < Am i
              · have F2 : Hid (Found Am (i + 1) i) := Lib.hid ⟨by omega, fun q hq => by
                  by_cases e : q = i
                  · subst e; exact .inr ⟨rfl, Nat.le_refl _⟩
                  · rcases F.out.2 q (by omega) with h | ⟨h, _⟩
                    · exact .inl (by omega)
                    · exact .inl (by omega)⟩
                have d1 : decide (Am bb < Am i) = true := decide_eq_true gt
                generalize Am bb = u at k2 d1 gt
                generalize Am i = v at k1 d1 gt
                clear F gt
                go_wp2
                go_round
                case rel => exact ⟨i, i + 1, by omega, ilt, rfl, by go_num, F2⟩
                case measure => simp [intOf] <;> omega
              · have F2 : Hid (Found Am (i + 1) bb) := Lib.hid ⟨by have := F.out.1; omega, fun q hq => by
                  by_cases e : q = i
                  · subst e
                    have := F.out.1
                    omega
                  · exact F.out.2 q (by omega)⟩
                have d1 : decide (Am bb < Am i) = false := decide_eq_false gt
                generalize Am bb = u at k2 d1 gt
                generalize Am i = v at k1 d1 gt
                clear F gt
                go_wp2
                go_round
                case rel => exact ⟨bb, i + 1, by omega, hbb, rfl, by go_num, F2⟩
                case measure => simp [intOf] <;> omega
            · obtain rfl : i = k := by omega
              have FB := found_best hbb HB.out jlt cn HR0.out (by rw [← HAm.out]; exact F.out)
              have sp := step_pos HM.out HB.out.1 (by rw [← HC.out]; omega) (fun q hq cq => by
                by_cases e : q = bb
                · rw [e]; exact Int.le_refl _
                · have := FB.2 q hq cq e; unfold Ahead at this; omega)
              have up := quo_up HA.out HM.out hbb sp
              have qf := quo_fit HA.out HM.out hbb
              unfold Fit1 at qf
              obtain ⟨q0, _⟩ := qf
              have k1 := RA.c bb hbb
              have f1 := RA.fz bb hbb
              rw [FB.1, show quo a x i bb + one false = quo a x i bb by simp [one]] at k1
              have k2 := RB.c bb hbb
              have f2 := RB.fz bb hbb
              have k3 : ∀ v, ((_ : World).setCell ⟨g1, bb, none⟩ v).cell? ⟨g2, bb, none⟩ = some (.int .i64 (Am bb)) := fun v => by
                rw [World.cell?_setCell_other _ _ _ _ (by intro e; simp only [Addr.mk.injEq] at e; omega)]; exact k2
              have RA2 := row_congr ((RA.set (quo a x i bb + 1) hbb).other (b := g2) bb (.int .i64 (-1)) ne) (f' := fun q => quo a x i q + one (if q = bb then true else C q)) (fun q _ => by
                by_cases e : q = bb
                · subst e; simp [one]
                · simp [e])
              have RB2 := row_congr ((RB.other (b := g1) bb (.int .i64 (quo a x i bb + 1)) (fun e => ne e.symm)).set (-1) hbb) (f' := fun q => if (if q = bb then true else C q) = true then -1 else rem a x i q) (fun q _ => by
                by_cases e : q = bb
                · subst e; simp
                · rw [HAm.out]; simp [e])
              have HB2 : Hid (Best (rem a x i) i ((j + 1 : Nat) : Int) (fun q => if q = bb then true else C q)) := Lib.hid (by
                have := best_step HB.out hbb FB.1 FB.2
                rw [show ((j + 1 : Nat) : Int) = (j : Int) + 1 by omega]; exact this)
              have B2 := bset (bset B1 hg1 bb (.int .i64 (quo a x i bb + 1))) hg2 bb (.int .i64 (-1))
              have pb : (0 : Int) ≤ (bb : Int) := by omega
              have bb' : (bb : Int) < (i : Int) := by omega
              generalize quo a x i bb = qv at k1 up q0 RA2 RB2 B2
              generalize Am bb = av at k2 k3
              clear FB sp RA RB B1 F
              go_wp2
              go_roundw
              case rel => exact ⟨j + 1, _, by omega, by go_num, B2, RA2, RB2, HB2⟩
              case measure => simp [intOf] <;> omega
        · obtain rfl : j = c := by omega
          have Y : RSplitRes w k (IsSplit a x k) (.returned (.tuple #[.slice (some ⟨g1, 0, none⟩) k cap1, .int .i64 0])) _ :=
            ⟨g1, cap1, _, rfl, RA, hg1, ⟨C, by rw [← HC.out]; exact HB.out, fun i _ => rfl⟩, B1⟩
          have HY := Lib.hid Y
          clear Y RA RB B1
          go_wp2
          exact bodyPost_ret (v := .tuple #[.slice (some ⟨g1, 0, none⟩) k cap1, .int .i64 0]) (by simp [results, Try.results7, go_sem]) rfl HY.out

end Go.Proofs.Ytodpmdmfdnbehab.Sr

/- Slices of ratios: rows whose elements have two cells; nothing of the program. -/
namespace Go.Proofs.Ytodpmdmfdnbehab.Rk
set_option linter.unusedSimpArgs false
set_option linter.unusedVariables false
open Go.RowKit

/-- a row in block g of n elements of two cells each -/
structure Rowp (W : World) (g n : Nat) (f d : Nat → Int) : Prop where
  lt : g < W.heap.size
  c0 : ∀ i, i < n → W.cell? ⟨g, i * 2, none⟩ = some (.int .i64 (f i))
  c1 : ∀ i, i < n → W.cell? ⟨g, i * 2 + 1, none⟩ = some (.int .i64 (d i))
  z0 : ∀ i, i < n → W.frozen? ⟨g, i * 2, none⟩ = false
  z1 : ∀ i, i < n → W.frozen? ⟨g, i * 2 + 1, none⟩ = false
section
variable {W w1 : World} {g n : Nat} {f d : Nat → Int}
theorem Rowp.kept (p : Rowp W g n f d) (hb : Below W.heap.size W w1) : Rowp w1 g n f d :=
  ⟨Nat.lt_of_lt_of_le p.lt hb.size, fun i hi => (hb.cell (p := ⟨g, i * 2, none⟩) p.lt).trans (p.c0 i hi), fun i hi => (hb.cell (p := ⟨g, i * 2 + 1, none⟩) p.lt).trans (p.c1 i hi),
   fun i hi => (hb.frozen (p := ⟨g, i * 2, none⟩) p.lt).trans (p.z0 i hi), fun i hi => (hb.frozen (p := ⟨g, i * 2 + 1, none⟩) p.lt).trans (p.z1 i hi)⟩
theorem Rowp.congr {f' d' : Nat → Int} (p : Rowp W g n f d) (h : ∀ i, i < n → f i = f' i) (h' : ∀ i, i < n → d i = d' i) : Rowp W g n f' d' :=
  ⟨p.lt, fun i hi => by rw [← h i hi]; exact p.c0 i hi, fun i hi => by rw [← h' i hi]; exact p.c1 i hi, p.z0, p.z1⟩
theorem Rowp.set (p : Rowp W g n f d) {k : Nat} (hk : k < n) (u v : Int) :
    Rowp ((W.setCell ⟨g, k * 2, none⟩ (.int .i64 u)).setCell ⟨g, k * 2 + 1, none⟩ (.int .i64 v)) g n (fun i => if i = k then u else f i) (fun i => if i = k then v else d i) := by
  have ot : ∀ (W : World) (a b : Nat) (x : Value), a ≠ b → (W.setCell ⟨g, a, none⟩ x).cell? ⟨g, b, none⟩ = W.cell? ⟨g, b, none⟩ := fun W a b x h =>
    World.cell?_setCell_other _ _ _ _ (by intro e; simp only [Addr.mk.injEq] at e; omega)
  have sm : ∀ (W : World) (a : Nat) (x y : Value), W.cell? ⟨g, a, none⟩ = some y → (W.setCell ⟨g, a, none⟩ x).cell? ⟨g, a, none⟩ = some x := fun W a x y h => World.cell?_setCell_same _ _ _ h
  refine ⟨by simp; exact p.lt, fun i hi => ?_, fun i hi => ?_, fun i hi => by simp [go_sem, p.z0 i hi], fun i hi => by simp [go_sem, p.z1 i hi]⟩
  · rw [ot _ _ _ _ (by omega)]
    by_cases e : i = k
    · subst e; rw [if_pos rfl]; exact sm _ _ _ _ (p.c0 i hi)
    · rw [if_neg e, ot _ _ _ _ (by omega)]; exact p.c0 i hi
  · by_cases e : i = k
    · subst e; rw [if_pos rfl]; exact sm _ _ _ _ (by rw [ot _ _ _ _ (by omega)]; exact p.c1 i hi)
    · rw [if_neg e, ot _ _ _ _ (by omega), ot _ _ _ _ (by omega)]; exact p.c1 i hi
theorem Rowp.other {b : Nat} (p : Rowp W g n f d) (k : Nat) (v : Value) (h : g ≠ b) : Rowp (W.setCell ⟨b, k, none⟩ v) g n f d :=
  have ot : ∀ a, (W.setCell ⟨b, k, none⟩ v).cell? ⟨g, a, none⟩ = W.cell? ⟨g, a, none⟩ := fun a => World.cell?_setCell_other _ _ _ _ (by intro e; simp only [Addr.mk.injEq] at e; omega)
  ⟨by simp; exact p.lt, fun i hi => (ot _).trans (p.c0 i hi), fun i hi => (ot _).trans (p.c1 i hi), fun i hi => by simp [go_sem, p.z0 i hi], fun i hi => by simp [go_sem, p.z1 i hi]⟩
end

end Go.Proofs.Ytodpmdmfdnbehab.Rk

/- A slice of ratios that grows; nothing of the program. -/
namespace Go.Proofs.Ytodpmdmfdnbehab.Rk
set_option linter.unusedSimpArgs false
set_option linter.unusedVariables false
open Go.RowKit

/-- the first k elements, cell by cell -/
def lst2 (f d : Nat → Int) (k : Nat) : List Value := (List.range (k * 2)).map fun j => .int .i64 (if j % 2 = 0 then f (j / 2) else d (j / 2))
theorem lst2_succ (f d : Nat → Int) (k : Nat) : lst2 f d (k + 1) = lst2 f d k ++ [.int .i64 (f k), .int .i64 (d k)] := by
  unfold lst2
  rw [show (k + 1) * 2 = k * 2 + 1 + 1 by omega, List.range_succ, List.range_succ]
  simp only [List.map_append, List.map_cons, List.map_nil, List.append_assoc, List.cons_append, List.nil_append]
  rw [if_pos (by omega), if_neg (by omega), show k * 2 / 2 = k by omega, show (k * 2 + 1) / 2 = k by omega]
theorem lst2_at0 (f d : Nat → Int) {n i : Nat} (h : i < n) : (lst2 f d n)[i * 2]? = some (.int .i64 (f i)) := by
  unfold lst2
  rw [List.getElem?_map, List.getElem?_range (by omega)]
  simp
theorem lst2_at1 (f d : Nat → Int) {n i : Nat} (h : i < n) : (lst2 f d n)[i * 2 + 1]? = some (.int .i64 (d i)) := by
  unfold lst2
  rw [List.getElem?_map, List.getElem?_range (by omega)]
  simp only [Option.map_some]
  rw [if_neg (by omega), show (i * 2 + 1) / 2 = i by omega]

structure One2 (EL : TypeId) (w W : World) (v : Value) (k : Nat) (f d : Nat → Int) : Prop where
  below : Below w.heap.size w W
  a : W.ownsRow w.heap.size EL 2 v k (lst2 f d k)
section
variable {EL : TypeId} {w W w1 : World} {v : Value} {k n : Nat} {f d : Nat → Int}
theorem One2.start (EL : TypeId) (w : World) (h : Below w.heap.size w W) (f d : Nat → Int) : One2 EL w W (.slice none 0 0) 0 f d := ⟨h, World.ownsRow_nil _ _ _ _⟩
theorem owns_below2 {base : Nat} {xs : List Value} (h : W.ownsRow base EL 2 v k xs) (hb : Below W.heap.size W w1) : w1.ownsRow base EL 2 v k xs :=
  h.kept (row := none) ⟨hb.os, hb.tape, hb.output, hb.size, fun i hi _ => hb.block i hi⟩ (by cases v.ownBlock <;> simp)
theorem One2.kept (x : One2 EL w W v k f d) (hb : Below W.heap.size W w1) : One2 EL w w1 v k f d := ⟨Pr.bthen x.below hb, owns_below2 x.a hb⟩
theorem own_at2 {base x : Nat} {xs : List Value} (h : W.ownsRow base EL 2 v n xs) (e : v.ownBlock = some x) : base ≤ x := by
  rcases h.2 with ⟨h1, _⟩ | ⟨g, cap, cur, hv, hb, hg, _⟩
  · rw [h1] at e; cases e
  · rw [hv] at e
    have : g = x := by simpa [Value.ownBlock] using e
    subst this; exact hb
theorem One2.next {W2 : World} {o1 : Obj} {g1 c1 : Nat} (X : One2 EL w W v k f d)
    (h1 : W2.ownsRow w.heap.size EL 2 (.slice (some ⟨g1, 0, none⟩) (k + 1) c1) (k + 1) (lst2 f d k ++ [.int .i64 (f k), .int .i64 (d k)])) (r1 : (W.alloc o1).grownBy W2 v.ownBlock) :
    One2 EL w W2 (.slice (some ⟨g1, 0, none⟩) (k + 1) c1) (k + 1) f d :=
  ⟨below_grown (Pr.balloc X.below o1) r1 (fun x e => own_at2 X.a e) (Nat.le_refl _), by rw [lst2_succ]; exact h1⟩
theorem Rowp.of_owns {base g cap : Nat} {e : TypeId} (h : W.ownsRow base e 2 (.slice (some ⟨g, 0, none⟩) n cap) n (lst2 f d n)) (hn : 0 < n) : Rowp W g n f d := by
  refine ⟨?_, fun i hi => ?_, fun i hi => ?_, fun i _ => h.frozenAt (i * 2), fun i _ => h.frozenAt (i * 2 + 1)⟩
  · obtain ⟨g', cap', e1, _, hlt⟩ := h.form hn
    cases e1; exact hlt
  · rw [h.cellAt (i * 2) (by omega), lst2_at0 f d hi]
  · rw [h.cellAt (i * 2 + 1) (by omega), lst2_at1 f d hi]
end

end Go.Proofs.Ytodpmdmfdnbehab.Rk

/- What Gcd of package whole comes to (out of XWcode, over XUcode). -/
namespace Go.Proofs.Ytodpmdmfdnbehab.Wc
set_option linter.unusedSimpArgs false
set_option linter.unusedVariables false
open Go.RowKit Go.Proofs.Ytodpmdmfdnbehab.Wm

set_option maxHeartbeats 400000

/-- a number that a remainder of two numbers is fits -/
theorem tmod_fit {a b : Int} (hb : Fit b) (h : b ≠ 0) : Fit (a.tmod b) := by
  have := tmod_abs a h
  unfold Fit at *; omega

theorem gcd_any (a b : Int) (w : World) (ha : Fit a) (hb : Fit b) (v e1 : Int)
    (hv : (Fit (Nat.gcd a.natAbs b.natAbs : Int) ∧ v = (Nat.gcd a.natAbs b.natAbs : Int) ∧ e1 = 0) ∨ (¬ Fit (Nat.gcd a.natAbs b.natAbs : Int) ∧ v = 0 ∧ e1 = 2)) :
    Calls Try.prog 68 #[.int .i64 a, .int .i64 b] w fun e w' => e = .returned (.tuple #[.int .i64 v, .int .i64 e1]) ∧ Drew w w' := by
  have HV := Lib.hid hv
  clear hv
  go_enter Try.func68, Try.ntmps68
  go_wp2
  go_loopw [0, 1] (fun x y w' => ∃ p q : Int, x = .int .i64 p ∧ y = .int .i64 q ∧ Fit p ∧ Fit q ∧ Hid (Nat.gcd p.natAbs q.natAbs = Nat.gcd a.natAbs b.natAbs) ∧ Drew w w') (fun _ y _ => (intOf y).natAbs)
  case atStart => exact ⟨a, b, rfl, rfl, ha, hb, Lib.hid rfl, 0, rfl⟩
  case round =>
    obtain ⟨p, q, rfl, rfl, hp, hq, hg, n, rfl⟩ := hrel
    by_cases hz : q = 0
    · subst hz
      rw [gcd_zero] at hg
      by_cases c1 : p < 0
      · have d1 : decide (p < 0) = true := decide_eq_true c1
        by_cases c2 : p = -9223372036854775808
        · subst c2
          have hv : v = 0 ∧ e1 = 2 := by
            rcases HV.out with ⟨h1, h2, h3⟩ | ⟨h1, h2, h3⟩
            · rw [← hg.out] at h1; exact absurd h1 (by decide)
            · exact ⟨h2, h3⟩
          obtain ⟨rfl, rfl⟩ := hv
          clear HV hg hp hq c1
          go_wp2_with (go_at_call 71; refine (neg_no _).mono ?_; rintro e w' ⟨rfl, rfl⟩)
          go_ret2
          exact ⟨rfl, n, rfl⟩
        · have hv : v = -p ∧ e1 = 0 := by
            rcases HV.out with ⟨h1, h2, h3⟩ | ⟨h1, h2, h3⟩
            · rw [← hg.out] at h2; exact ⟨by omega, h3⟩
            · rw [← hg.out] at h1; exact absurd (by unfold Fit at *; omega) h1
          obtain ⟨rfl, rfl⟩ := hv
          have ct := fun w0 => neg_yes p w0 hp c2
          clear HV hg hp hq c1 c2
          go_wp2_with (go_at_call 71; refine (ct _).mono ?_; rintro e w' ⟨rfl, rfl⟩)
          go_ret2
          exact ⟨rfl, n, rfl⟩
      · have d1 : decide (p < 0) = false := decide_eq_false c1
        have hv : v = p ∧ e1 = 0 := by
          rcases HV.out with ⟨h1, h2, h3⟩ | ⟨h1, h2, h3⟩
          · rw [← hg.out] at h2; exact ⟨by omega, h3⟩
          · rw [← hg.out] at h1; exact absurd (by unfold Fit at *; omega) h1
        obtain ⟨rfl, rfl⟩ := hv
        clear HV hg hp hq
        go_wp2
        go_ret2
        exact ⟨rfl, n, rfl⟩
    · have d0 : (q != 0) = true := by rw [bne_iff_ne]; exact hz
      have hs : Hid (Nat.gcd q.natAbs (p.tmod q).natAbs = Nat.gcd a.natAbs b.natAbs) := Lib.hid (by rw [gcd_step]; exact hg.out)
      have ht : p.natAbs % q.natAbs < q.natAbs := Nat.mod_lt _ (by omega)
      have hf := tmod_fit (a := p) hq hz
      go_wp2
      go_quiet (fail)
      go_wp2
      go_roundw
      case rel => exact ⟨q, p.tmod q, rfl, rfl, hq, hf, hs, _, by rw [World.drewN_drewN]⟩
      case measure => simp [intOf]; omega

theorem gcd_to (a b g : Int) (w : World) (ha : Vm.Fit1 a) (hb : Vm.Fit1 b) (hg : g = (Int.gcd a b : Int)) (fg : Vm.Fit1 g) :
    Calls Try.prog 68 #[.int .i64 a, .int .i64 b] w fun e w' => e = .returned (.tuple #[.int .i64 g, .int .i64 0]) ∧ Drew w w' :=
  gcd_any a b w ha hb g 0 (Or.inl ⟨by subst hg; exact fg, hg, rfl⟩)

theorem gcd_lost (a b : Int) (w : World) (ha : Vm.Fit1 a) (hb : Vm.Fit1 b) (fg : ¬ Vm.Fit1 (Int.gcd a b : Int)) :
    Calls Try.prog 68 #[.int .i64 a, .int .i64 b] w fun e w' => e = .returned (.tuple #[.int .i64 0, .int .i64 2]) ∧ Drew w w' :=
  gcd_any a b w ha hb 0 2 (Or.inr ⟨fg, rfl, rfl⟩)

end Go.Proofs.Ytodpmdmfdnbehab.Wc

/- Plain facts on ratios in lowest terms; nothing of the program. -/
namespace Go.Proofs.Ytodpmdmfdnbehab.Qm
set_option linter.unusedSimpArgs false
set_option linter.unusedVariables false
open Go.Proofs.Ytodpmdmfdnbehab.Vm

/-- a ratio that may be -/
def Low (N D : Int) : Prop := 0 < D ∧ Int.gcd N D = 1

theorem cop_dvd {a b c : Int} (h : Int.gcd a b = 1) (d : a ∣ b * c) : a ∣ c := by
  have h1 : a.natAbs.Coprime b.natAbs := h
  have h2 : a.natAbs ∣ b.natAbs * c.natAbs := by rw [← Int.natAbs_mul]; exact Int.natAbs_dvd_natAbs.2 d
  exact Int.natAbs_dvd_natAbs.1 (h1.dvd_of_dvd_mul_left h2)

theorem cop_mul {a b c : Int} (h1 : Int.gcd a c = 1) (h2 : Int.gcd b c = 1) : Int.gcd (a * b) c = 1 := by
  have h3 : a.natAbs.Coprime c.natAbs := h1
  have h4 : b.natAbs.Coprime c.natAbs := h2
  show Nat.gcd (a * b).natAbs c.natAbs = 1
  rw [Int.natAbs_mul]; exact h3.mul_left h4

theorem cop_mul' {a b c : Int} (h1 : Int.gcd a b = 1) (h2 : Int.gcd a c = 1) : Int.gcd a (b * c) = 1 := by
  rw [Int.gcd_comm]; exact cop_mul (by rw [Int.gcd_comm]; exact h1) (by rw [Int.gcd_comm]; exact h2)

theorem cop_left {a b c : Int} (h : Int.gcd b c = 1) (d : a ∣ b) : Int.gcd a c = 1 := by
  have := Int.gcd_dvd_gcd_of_dvd_left c d
  rw [h] at this; exact Nat.dvd_one.1 this
theorem cop_right {a b c : Int} (h : Int.gcd c b = 1) (d : a ∣ b) : Int.gcd c a = 1 := by
  rw [Int.gcd_comm]; exact cop_left (by rw [Int.gcd_comm]; exact h) d

theorem eq_of_dvd {a b : Int} (ha : 0 < a) (hb : 0 < b) (h1 : a ∣ b) (h2 : b ∣ a) : a = b := by
  have := Int.le_of_dvd hb h1
  have := Int.le_of_dvd ha h2
  omega

theorem mul_same {a b c : Int} (h : a ≠ 0) (e : a * b = a * c) : b = c := Int.eq_of_mul_eq_mul_left h e

theorem low_eq {N D N' D' : Int} (h : Low N D) (h' : Low N' D') (e : N * D' = N' * D) : N = N' ∧ D = D' := by
  have d1 : D ∣ D' := by
    apply cop_dvd (b := N) (by rw [Int.gcd_comm]; exact h.2)
    exact ⟨N', by rw [e, Int.mul_comm]⟩
  have d2 : D' ∣ D := by
    apply cop_dvd (b := N') (by rw [Int.gcd_comm]; exact h'.2)
    exact ⟨N, by rw [← e, Int.mul_comm]⟩
  have ed := eq_of_dvd h.1 h'.1 d1 d2
  subst ed
  refine ⟨?_, rfl⟩
  rw [Int.mul_comm, Int.mul_comm N'] at e
  exact mul_same (by have := h.1; omega) e

theorem low_unique {N D N' D' n d : Int} (hd : d ≠ 0) (h : Low N D) (h' : Low N' D') (e : N * d = n * D) (e' : N' * d = n * D') : N = N' ∧ D = D' := by
  apply low_eq h h'
  apply mul_same hd
  calc d * (N * D') = N * d * D' := by rw [← Int.mul_assoc, Int.mul_comm d N]
    _ = n * D * D' := by rw [e]
    _ = n * D' * D := by rw [Int.mul_assoc, Int.mul_comm D, ← Int.mul_assoc]
    _ = N' * d * D := by rw [e']
    _ = d * (N' * D) := by rw [← Int.mul_assoc, Int.mul_comm d N']

/-- what divides both taken out -/
theorem gcd_out {a b : Int} (h : b ≠ 0) : ∃ g x y : Int, 0 < g ∧ g = (Int.gcd a b : Int) ∧ a = g * x ∧ b = g * y ∧ Int.gcd x y = 1 ∧ y ≠ 0 := by
  have h1 : 0 < Int.gcd a b := Int.gcd_pos_of_ne_zero_right a h
  obtain ⟨x, hx⟩ := Int.gcd_dvd_left a b
  obtain ⟨y, hy⟩ := Int.gcd_dvd_right a b
  refine ⟨(Int.gcd a b : Int), x, y, by omega, rfl, hx, hy, ?_, ?_⟩
  · have h2 : Int.gcd a b = Int.gcd ((Int.gcd a b : Int) * x) ((Int.gcd a b : Int) * y) := by rw [← hx, ← hy]
    rw [Int.gcd_mul_left] at h2
    simp only [Int.natAbs_natCast] at h2
    exact Nat.eq_of_mul_eq_mul_left h1 (by omega)
  · intro e; subst e; rw [Int.mul_zero] at hy; exact h hy

theorem low_ex (n : Int) {d : Int} (hd : d ≠ 0) : ∃ N D, Low N D ∧ N * d = n * D := by
  obtain ⟨g, x, y, h0, _, ea, eb, hc, hy⟩ := gcd_out (a := n) hd
  subst ea eb
  by_cases c : 0 < y
  · exact ⟨x, y, ⟨c, hc⟩, by rw [Int.mul_comm g x, Int.mul_assoc]⟩
  · exact ⟨-x, -y, ⟨by omega, by rw [Int.neg_gcd, Int.gcd_neg]; exact hc⟩, by rw [Int.neg_mul, Int.mul_neg, Int.mul_comm g x, Int.mul_assoc]⟩

/-- what the ratio of n and d is, or that it does not fit -/
def Rat1 (n d N D er : Int) : Prop := (er = 0 ∧ Low N D ∧ N * d = n * D ∧ Fit1 N ∧ Fit1 D) ∨ (er = 2 ∧ N = 0 ∧ D = 0 ∧ ∀ N' D', Low N' D' → N' * d = n * D' → ¬ (Fit1 N' ∧ Fit1 D'))

theorem rat1_ex (n : Int) {d : Int} (hd : d ≠ 0) : ∃ N D er, Rat1 n d N D er := by
  obtain ⟨N, D, hl, he⟩ := low_ex n hd
  by_cases c : Fit1 N ∧ Fit1 D
  · exact ⟨N, D, 0, .inl ⟨rfl, hl, he, c.1, c.2⟩⟩
  · exact ⟨0, 0, 2, .inr ⟨rfl, rfl, rfl, fun N' D' hl' he' => by have := low_unique hd hl hl' he he'; rw [← this.1, ← this.2]; exact c⟩⟩

theorem rat1_unique {n d N D er N' D' er' : Int} (hd : d ≠ 0) (h : Rat1 n d N D er) (h' : Rat1 n d N' D' er') : N = N' ∧ D = D' ∧ er = er' := by
  rcases h with ⟨rfl, l, e, f⟩ | ⟨rfl, rfl, rfl, no⟩ <;> rcases h' with ⟨rfl, l', e', f'⟩ | ⟨rfl, rfl, rfl, no'⟩
  · have := low_unique hd l l' e e'; exact ⟨this.1, this.2, rfl⟩
  · exact absurd f (no' _ _ l e)
  · exact absurd f' (no _ _ l' e')
  · exact ⟨rfl, rfl, rfl⟩

theorem rat1_fit {n d N D er : Int} (h : Rat1 n d N D er) : Fit1 N ∧ Fit1 D := by
  rcases h with ⟨_, _, _, f⟩ | ⟨_, rfl, rfl, _⟩
  · exact f
  · unfold Fit1; omega

/-- what fitting answers of two numbers -/
def FitRes (n d N D er : Int) : Prop := (er = 0 ∧ N = n ∧ D = d ∧ Fit1 n ∧ Fit1 d) ∨ (er = 2 ∧ N = 0 ∧ D = 0 ∧ ¬ (Fit1 n ∧ Fit1 d))

theorem fitres_of {n d n' d' N D er : Int} (hd : d ≠ 0) (l : Low n' d') (e : n' * d = n * d') (r : Rat1 n d N D er) : FitRes n' d' N D er := by
  rcases r with ⟨rfl, l', e', f⟩ | ⟨rfl, rfl, rfl, no⟩
  · have := low_unique hd l l' e e'; rw [this.1, this.2]; exact .inl ⟨rfl, rfl, rfl, f⟩
  · exact .inr ⟨rfl, rfl, rfl, no _ _ l e⟩

/-- the sum of two ratios, cut by what divides both denominators once -/
theorem plus_low {x p y q s g p' q' t h t' k : Int} (hx : Int.gcd x p = 1) (hy : Int.gcd y q = 1) (hs : s = 1 ∨ s = -1) (hp : 0 < p) (hq : 0 < q) (g0 : 0 < g)
    (ep : p = g * p') (eq : q = g * q') (hc : Int.gcd p' q' = 1) (et : t = x * q' + s * y * p') (h0 : 0 < h) (et' : t = h * t') (eg : g = h * k) (hh : Int.gcd t' k = 1) :
    Low t' (p' * (q' * k)) ∧ t' * (p * q) = (x * q + s * (y * p)) * (p' * (q' * k)) := by
  have hs' : s * s = 1 := by rcases hs with rfl | rfl <;> rfl
  have p0 : 0 < p' := by
    rcases Int.lt_trichotomy p' 0 with c | c | c
    · have : g * p' < 0 := Int.mul_neg_of_pos_of_neg g0 c
      omega
    · subst c; rw [Int.mul_zero] at ep; omega
    · exact c
  have q0 : 0 < q' := by
    rcases Int.lt_trichotomy q' 0 with c | c | c
    · have : g * q' < 0 := Int.mul_neg_of_pos_of_neg g0 c
      omega
    · subst c; rw [Int.mul_zero] at eq; omega
    · exact c
  have k0 : 0 < k := by
    rcases Int.lt_trichotomy k 0 with c | c | c
    · have : h * k < 0 := Int.mul_neg_of_pos_of_neg h0 c
      omega
    · subst c; rw [Int.mul_zero] at eg; omega
    · exact c
  -- the sum has nothing in common with p', nor with q'
  have tp : Int.gcd t p' = 1 := by
    have xp : Int.gcd x p' = 1 := cop_right hx ⟨g, by rw [ep, Int.mul_comm]⟩
    have : Int.gcd (x * q') p' = 1 := cop_mul xp (by rw [Int.gcd_comm]; exact hc)
    rw [et, Int.add_comm]
    have e2 := Int.gcd_mul_right_add_left p' (x * q') (s * y)
    rw [e2]; exact this
  have tq : Int.gcd t q' = 1 := by
    have yq : Int.gcd y q' = 1 := cop_right hy ⟨g, by rw [eq, Int.mul_comm]⟩
    have sq : Int.gcd (s * y) q' = 1 := by rcases hs with rfl | rfl <;> simp [yq]
    have : Int.gcd (s * y * p') q' = 1 := cop_mul sq hc
    rw [et]
    have e2 := Int.gcd_mul_right_add_left q' (s * y * p') x
    rw [e2]; exact this
  have d : t' ∣ t := ⟨h, by rw [et', Int.mul_comm]⟩
  refine ⟨⟨Int.mul_pos p0 (Int.mul_pos q0 k0), cop_mul' (cop_left tp d) (cop_mul' (cop_left tq d) hh)⟩, ?_⟩
  have e1 : x * q + s * (y * p) = g * t := by
    rw [et, ep, eq, Int.mul_add]
    have a1 : x * (g * q') = g * (x * q') := by rw [← Int.mul_assoc, Int.mul_comm x g, Int.mul_assoc]
    have a2 : s * (y * (g * p')) = g * (s * y * p') := by
      rw [← Int.mul_assoc y, Int.mul_comm y g, Int.mul_assoc g, ← Int.mul_assoc s, Int.mul_comm s g, Int.mul_assoc g, ← Int.mul_assoc s]
    rw [a1, a2]
  rw [e1, et', ep, eq]
  have e2 : t' * (g * p' * (g * q')) = g * t' * g * (p' * q') := by ac_rfl
  have e3 : g * (h * t') * (p' * (q' * k)) = g * t' * (h * k) * (p' * q') := by ac_rfl
  rw [e2, e3, ← eg]

theorem cop_sign {a b a' b' : Int} (h : Int.gcd a b = 1) (e : (a' = a ∧ b' = b) ∨ (a' = -a ∧ b' = -b)) : Int.gcd a' b' = 1 := by
  rcases e with ⟨rfl, rfl⟩ | ⟨rfl, rfl⟩
  · exact h
  · rw [Int.neg_gcd, Int.gcd_neg]; exact h

/-- the product of x by p and n by d, each numerator cut against the other's denominator -/
theorem times_low {x p n d g1 x' d' g2 n' p' : Int} (hx : Int.gcd x p = 1) (hn : Int.gcd n d = 1) (ex : x = g1 * x') (ed : d = g1 * d') (h1 : Int.gcd x' d' = 1)
    (en : n = g2 * n') (ep : p = g2 * p') (h2 : Int.gcd n' p' = 1) (hD : 0 < p' * d') :
    Low (x' * n') (p' * d') ∧ x' * n' * (p * d) = x * n * (p' * d') := by
  have c1 : Int.gcd x' p' = 1 := cop_right (cop_left hx ⟨g1, by rw [ex, Int.mul_comm]⟩) ⟨g2, by rw [ep, Int.mul_comm]⟩
  have c2 : Int.gcd n' d' = 1 := cop_right (cop_left hn ⟨g2, by rw [en, Int.mul_comm]⟩) ⟨g1, by rw [ed, Int.mul_comm]⟩
  refine ⟨⟨hD, cop_mul (cop_mul' c1 h1) (cop_mul' h2 c2)⟩, ?_⟩
  rw [ex, ed, en, ep]
  ac_rfl

/-- what Make answers -/
def MakeRes (n d N D er : Int) : Prop := (d = 0 ∧ N = 0 ∧ D = 0 ∧ er = 3) ∨ (d ≠ 0 ∧ Rat1 n d N D er)
theorem makeres_ex (n d : Int) : ∃ N D er, MakeRes n d N D er := by
  by_cases c : d = 0
  · exact ⟨0, 0, 3, .inl ⟨c, rfl, rfl, rfl⟩⟩
  · obtain ⟨N, D, er, r⟩ := rat1_ex n c
    exact ⟨N, D, er, .inr ⟨c, r⟩⟩

/-- what is counted of a by b and c by d: the ratio of n and m, if both may be -/
def OpRes (a b c d n m N D er : Int) : Prop := (Low a b ∧ Low c d ∧ Rat1 n m N D er) ∨ (¬ (Low a b ∧ Low c d) ∧ N = 0 ∧ D = 0 ∧ er = 1)
theorem opres_ex {a b c d n m : Int} (h : Low a b → Low c d → m ≠ 0) : ∃ N D er, OpRes a b c d n m N D er := by
  by_cases k : Low a b ∧ Low c d
  · obtain ⟨N, D, er, r⟩ := rat1_ex n (h k.1 k.2)
    exact ⟨N, D, er, .inl ⟨k.1, k.2, r⟩⟩
  · exact ⟨0, 0, 1, .inr ⟨k, rfl, rfl, rfl⟩⟩
/-- what Div answers -/
def DivRes2 (a b c d N D er : Int) : Prop := (Low a b ∧ Low c d ∧ MakeRes (a * d) (b * c) N D er) ∨ (¬ (Low a b ∧ Low c d) ∧ N = 0 ∧ D = 0 ∧ er = 1)
theorem divres2_ex (a b c d : Int) : ∃ N D er, DivRes2 a b c d N D er := by
  by_cases k : Low a b ∧ Low c d
  · obtain ⟨N, D, er, r⟩ := makeres_ex (a * d) (b * c)
    exact ⟨N, D, er, .inl ⟨k.1, k.2, r⟩⟩
  · exact ⟨0, 0, 1, .inr ⟨k, rfl, rfl, rfl⟩⟩

/-- what Cmp answers, of a by b and c by d -/
def CmpRes (a b c d v er : Int) : Prop := (Low a b ∧ Low c d ∧ v = cv (a * d) (c * b) ∧ er = 0) ∨ (¬ (Low a b ∧ Low c d) ∧ v = 0 ∧ er = 1)
theorem cmpres_ex (a b c d : Int) : ∃ v er, CmpRes a b c d v er := by
  by_cases k : Low a b ∧ Low c d
  · exact ⟨_, 0, .inl ⟨k.1, k.2, rfl, rfl⟩⟩
  · exact ⟨0, 1, .inr ⟨k, rfl, rfl⟩⟩
/-- what Floor and Ceil answer -/
def FloorRes (a b v er : Int) : Prop := (Low a b ∧ v = a / b ∧ er = 0) ∨ (¬ Low a b ∧ v = 0 ∧ er = 1)
def CeilRes (a b v er : Int) : Prop := (Low a b ∧ v = (if a % b = 0 then a / b else a / b + 1) ∧ er = 0) ∨ (¬ Low a b ∧ v = 0 ∧ er = 1)
theorem floorres_ex (a b : Int) : ∃ v er, FloorRes a b v er := by
  by_cases k : Low a b
  · exact ⟨_, 0, .inl ⟨k, rfl, rfl⟩⟩
  · exact ⟨0, 1, .inr ⟨k, rfl, rfl⟩⟩
theorem ceilres_ex (a b : Int) : ∃ v er, CeilRes a b v er := by
  by_cases k : Low a b
  · exact ⟨_, 0, .inl ⟨k, rfl, rfl⟩⟩
  · exact ⟨0, 1, .inr ⟨k, rfl, rfl⟩⟩

theorem prod_small {a b : Int} (fa : Fit1 a) (b0 : -9223372036854775807 ≤ b) (b1 : b ≤ 9223372036854775807) :
    -85070591730234615856620279821087277056 ≤ a * b ∧ a * b ≤ 85070591730234615856620279821087277056 := by
  unfold Fit1 at fa
  have h1 : (a * b).natAbs ≤ 9223372036854775808 * 9223372036854775807 := by
    rw [Int.natAbs_mul]; exact Nat.mul_le_mul (by omega) (by omega)
  omega

end Go.Proofs.Ytodpmdmfdnbehab.Qm

/- What Check, fitting and lowest of package ratio come to. -/
namespace Go.Proofs.Ytodpmdmfdnbehab.Qc
set_option linter.unusedSimpArgs false
set_option linter.unusedVariables false
open Go.RowKit Go.Proofs.Ytodpmdmfdnbehab.Vm Go.Proofs.Ytodpmdmfdnbehab.Vc Go.Proofs.Ytodpmdmfdnbehab.Pr Go.Proofs.Ytodpmdmfdnbehab.Qm

set_option maxHeartbeats 400000

theorem gcd_le {N D : Int} (h : 0 < D) : (Int.gcd N D : Int) ≤ D ∧ 0 < (Int.gcd N D : Int) := by
  have h1 := Int.le_of_dvd h (Int.gcd_dvd_right N D)
  have h2 : 0 < Int.gcd N D := Int.gcd_pos_of_ne_zero_right N (by omega)
  omega

theorem Check_yes (N D : Int) (w : World) (fN : Fit1 N) (fD : Fit1 D) (h : Low N D) :
    Calls Try.prog 61 #[.agg #[.int .i64 N, .int .i64 D]] w fun e w' => e = .returned (.int .i64 0) ∧ Below w.heap.size w w' := by
  have cg := fun w => Wc.gcd_to N D 1 w fN fD (by rw [h.2]; rfl) (by unfold Fit1; omega)
  have d1 : decide (D ≤ 0) = false := decide_eq_false (by have := h.1; omega)
  clear h fN fD
  go_enter Try.func61, Try.ntmps61
  go_wp2_with fail
  refine (cg _).mono ?_
  rintro e w' ⟨rfl, n, rfl⟩
  go_wp2
  go_ret
  exact ⟨rfl, below_drewN ((Below.refl _ _).alloc (Nat.le_refl _) _) _⟩

theorem Check_no (N D : Int) (w : World) (fN : Fit1 N) (fD : Fit1 D) (h : ¬ Low N D) :
    Calls Try.prog 61 #[.agg #[.int .i64 N, .int .i64 D]] w fun e w' => e = .returned (.int .i64 1) ∧ Below w.heap.size w w' := by
  by_cases c : D ≤ 0
  · clear h fN fD
    go_enter Try.func61, Try.ntmps61
    go_wp2
    go_ret
    exact ⟨rfl, (Below.refl _ _).alloc (Nat.le_refl _) _⟩
  · have g0 := gcd_le (N := N) (D := D) (by omega)
    obtain ⟨g, hg⟩ : ∃ g, g = (Int.gcd N D : Int) := ⟨_, rfl⟩
    rw [← hg] at g0
    have cg := fun w => Wc.gcd_to N D g w fN fD hg (by unfold Fit1 at *; omega)
    have d1 : decide (D ≤ 0) = false := decide_eq_false c
    have d2 : (g != 1) = true := by
      rw [bne_iff_ne]; intro e; exact h ⟨by omega, by omega⟩
    clear h fN fD hg c g0
    go_enter Try.func61, Try.ntmps61
    go_wp2_with fail
    refine (cg _).mono ?_
    rintro e w' ⟨rfl, n, rfl⟩
    go_wp2
    go_ret
    exact ⟨rfl, below_drewN ((Below.refl _ _).alloc (Nat.le_refl _) _) _⟩

theorem fitting_any (h1 l1 h2 l2 N D er : Int) (w : World) (b1 : Bd h1 l1) (b2 : Bd h2 l2) (F : FitRes (num h1 l1) (num h2 l2) N D er) :
    Calls Try.prog 60 #[.agg #[.int .i64 h1, .int .u64 l1], .agg #[.int .i64 h2, .int .u64 l2]] w fun e w' =>
      e = .returned (.tuple #[.agg #[.int .i64 N, .int .i64 D], .int .i64 er]) ∧ Below w.heap.size w w' := by
  obtain ⟨v1, e1, r1⟩ := res1_ex (num h1 l1)
  obtain ⟨v2, e2, r2⟩ := res1_ex (num h2 l2)
  have cf1 := fun w => Fit_any h1 l1 v1 e1 w b1 r1
  have cf2 := fun w => Fit_any h2 l2 v2 e2 w b2 r2
  have O : (e1 ≠ 0 ∧ N = 0 ∧ D = 0 ∧ er = e1) ∨ (e1 = 0 ∧ e2 ≠ 0 ∧ N = 0 ∧ D = 0 ∧ er = e2) ∨ (e1 = 0 ∧ e2 = 0 ∧ N = v1 ∧ D = v2 ∧ er = 0) := by
    rcases r1 with ⟨rfl, rfl, f1⟩ | ⟨rfl, rfl, f1⟩
    · rcases r2 with ⟨rfl, rfl, f2⟩ | ⟨rfl, rfl, f2⟩
      · rcases F with ⟨rfl, rfl, rfl, _⟩ | ⟨_, _, _, no⟩
        · exact .inr (.inr ⟨rfl, rfl, rfl, rfl, rfl⟩)
        · exact absurd ⟨f1, f2⟩ no
      · rcases F with ⟨_, _, _, _, f⟩ | ⟨rfl, rfl, rfl, no⟩
        · exact absurd f f2
        · exact .inr (.inl ⟨rfl, by decide, rfl, rfl, rfl⟩)
    · rcases F with ⟨_, _, _, f, _⟩ | ⟨rfl, rfl, rfl, no⟩
      · exact absurd f f1
      · exact .inl ⟨by decide, rfl, rfl, rfl⟩
  clear F r1 r2 b1 b2
  rcases O with ⟨o1, rfl, rfl, rfl⟩ | ⟨rfl, o2, rfl, rfl, rfl⟩ | ⟨rfl, rfl, rfl, rfl, rfl⟩
  · have d1 : (er != 0) = true := bne_iff_ne.2 o1
    clear o1
    go_enter Try.func60, Try.ntmps60
    go_wp2_with fail
    refine (cf1 _).mono ?_
    rintro e w1 ⟨rfl, hb1⟩
    have P3 := (Two.new _ (.int .i64 0) (.int .i64 0) 50).kept hb1
    have B1 := bthen (balloc (balloc (balloc (Below.refl _ w) _) _) _) hb1
    clear hb1
    obtain ⟨z, c0, c1, f0, f1⟩ := id P3
    simp only [World.size_alloc] at z c0 c1 f0 f1
    go_wp2
    refine bodyPost_ret (v := .tuple #[.agg #[.int .i64 0, .int .i64 0], .int .i64 er]) (by simp [results, Try.results60, go_sem, c0, c1]) rfl ⟨rfl, ?_⟩
    exact bset (bset B1 (by omega) _ _) (by omega) _ _
  all_goals
    go_enter Try.func60, Try.ntmps60
    go_wp2_with fail
    refine (cf1 _).mono ?_
    rintro e w1 ⟨rfl, hb1⟩
    have P2 := ((Two.new _ (.int .i64 h2) (.int .u64 l2) 44).alloc (.cells #[.int .i64 0, .int .i64 0] 50)).kept hb1
    have P3 := (Two.new _ (.int .i64 0) (.int .i64 0) 50).kept hb1
    have B1 := bthen (balloc (balloc (balloc (Below.refl _ w) _) _) _) hb1
    clear hb1
    obtain ⟨z', d0, d1, _, _⟩ := id P2
    simp only [World.size_alloc] at z' d0 d1
    go_wp2_with fail
    refine (cf2 _).mono ?_
    rintro e w2 ⟨rfl, hb2⟩
    replace P3 := P3.kept hb2
    replace B1 := bthen B1 hb2
    clear hb2 z' d0 d1
    obtain ⟨z, c0, c1, f0, f1⟩ := id P3
    simp only [World.size_alloc] at z c0 c1 f0 f1
  · have d1 : (er != 0) = true := bne_iff_ne.2 o2
    clear o2
    go_wp2
    refine bodyPost_ret (v := .tuple #[.agg #[.int .i64 0, .int .i64 0], .int .i64 er]) (by simp [results, Try.results60, go_sem, c0, c1]) rfl ⟨rfl, ?_⟩
    exact bset (bset B1 (by omega) _ _) (by omega) _ _
  · go_wp2
    refine bodyPost_ret (v := .tuple #[.agg #[.int .i64 N, .int .i64 D], .int .i64 0]) (by simp [results, Try.results60, go_sem, c0, c1]) rfl ⟨rfl, ?_⟩
    exact bset (bset B1 (by omega) _ _) (by omega) _ _

/-- both cut by what divides them; g: that, or -2^63 -/
theorem lowest_any (n d x y g : Int) (w : World) (fn : Fit1 n) (fd : Fit1 d) (fx : Fit1 x) (fy : Fit1 y) (g0 : g ≠ 0) (en : n = g * x) (ed : d = g * y)
    (hg : (Fit1 g ∧ g = (Int.gcd n d : Int)) ∨ (¬ Fit1 (Int.gcd n d : Int) ∧ g = -9223372036854775808)) :
    Calls Try.prog 59 #[.int .i64 n, .int .i64 d] w fun e w' => e = .returned (.tuple #[.int .i64 x, .int .i64 y]) ∧ Wc.Drew w w' := by
  have k1 : n.tdiv g = x := by rw [en]; exact Int.mul_tdiv_cancel_left x g0
  have k2 : d.tdiv g = y := by rw [ed]; exact Int.mul_tdiv_cancel_left y g0
  have k3 : IntKind.i64.wrap x = x := IntWalk.i64_in _ fx
  have k4 : IntKind.i64.wrap y = y := IntWalk.i64_in _ fy
  have d0 : (g == 0) = false := beq_eq_false_iff_ne.2 g0
  have fin : ∀ n m, Wc.Drew w ((w.drewN n).drewN m) := fun n m => ⟨n + m, by rw [World.drewN_drewN]⟩
  rcases hg with ⟨fg, hg⟩ | ⟨fg, rfl⟩
  · have cg := fun w => Wc.gcd_to n d g w fn fd hg fg
    unfold Fit1 at fx fy fg
    obtain ⟨fx0, fx1⟩ := fx
    obtain ⟨fy0, fy1⟩ := fy
    obtain ⟨fg0, fg1⟩ := fg
    clear hg fn fd en ed
    go_enter Try.func59, Try.ntmps59
    go_wp2_with fail
    refine (cg _).mono ?_
    rintro e w1 ⟨rfl, n1, rfl⟩
    go_wp2
    go_quiet (fail)
    go_wp2
    go_ret2
    exact ⟨rfl, fin _ _⟩
  · have cg := fun w => Wc.gcd_lost n d w fn fd fg
    unfold Fit1 at fx fy
    obtain ⟨fx0, fx1⟩ := fx
    obtain ⟨fy0, fy1⟩ := fy
    clear fg fn fd en ed
    go_enter Try.func59, Try.ntmps59
    go_wp2_with fail
    refine (cg _).mono ?_
    rintro e w1 ⟨rfl, n1, rfl⟩
    go_wp2
    go_quiet (fail)
    go_wp2
    go_ret2
    exact ⟨rfl, fin _ _⟩

end Go.Proofs.Ytodpmdmfdnbehab.Qc

/- What times of package ratio comes to. -/
namespace Go.Proofs.Ytodpmdmfdnbehab.Qc
set_option linter.unusedSimpArgs false
set_option linter.unusedVariables false
open Go.RowKit Go.Proofs.Ytodpmdmfdnbehab.Vm Go.Proofs.Ytodpmdmfdnbehab.Vc Go.Proofs.Ytodpmdmfdnbehab.Pr Go.Proofs.Ytodpmdmfdnbehab.Qm

set_option maxHeartbeats 400000

theorem part_fit {n g x : Int} (fn : Fit1 n) (g0 : 0 < g) (e : n = g * x) : Fit1 x := by
  unfold Fit1 at *
  by_cases c : 0 ≤ x
  · have : 1 * x ≤ g * x := Int.mul_le_mul_of_nonneg_right (by omega) c
    omega
  · have : g * x ≤ 1 * x := Int.mul_le_mul_of_nonpos_right (by omega) (by omega)
    omega

theorem pos_part {g x : Int} (g0 : 0 < g) (h : 0 < g * x) : 0 < x := by
  rcases Int.lt_trichotomy x 0 with c | c | c
  · have := Int.mul_neg_of_pos_of_neg g0 c; omega
  · subst c; rw [Int.mul_zero] at h; omega
  · exact c
theorem neg_part {g x : Int} (g0 : 0 < g) (h : x < 0) : g * x < 0 := Int.mul_neg_of_pos_of_neg g0 h

/-- what lowest cuts by, and what is left -/
theorem low_cut {n d : Int} (fn : Fit1 n) (fd : Fit1 d) (hd : d ≠ 0) : ∃ g x y : Int, Fit1 x ∧ Fit1 y ∧ g ≠ 0 ∧ n = g * x ∧ d = g * y ∧ Int.gcd x y = 1 ∧
    ((Fit1 g ∧ g = (Int.gcd n d : Int)) ∨ (¬ Fit1 (Int.gcd n d : Int) ∧ g = -9223372036854775808)) ∧ y ≠ 0 ∧ (y < 0 → d < 0) ∧ (0 < d → 0 < g) := by
  obtain ⟨g, x, y, g0, hg, en, ed, hc, hy⟩ := gcd_out (a := n) hd
  by_cases c : Fit1 g
  · refine ⟨g, x, y, part_fit fn g0 en, part_fit fd g0 ed, by omega, en, ed, hc, .inl ⟨c, hg⟩, hy, ?_, fun _ => g0⟩
    intro h; rw [ed]; exact neg_part g0 h
  · have g1 : 9223372036854775808 ≤ g := by unfold Fit1 at c; omega
    have yb : y = 1 ∨ y = -1 := by
      rcases Int.lt_trichotomy y 0 with h | h | h
      · right
        have : g * y ≤ 9223372036854775808 * y := Int.mul_le_mul_of_nonpos_right g1 (by omega)
        unfold Fit1 at fd; omega
      · exact absurd h hy
      · left
        have : 9223372036854775808 * y ≤ g * y := Int.mul_le_mul_of_nonneg_right g1 (by omega)
        unfold Fit1 at fd; omega
    have ge : g = 9223372036854775808 ∧ y = -1 := by
      unfold Fit1 at fd
      rcases yb with rfl | rfl <;> omega
    obtain ⟨rfl, rfl⟩ := ge
    have fx : x = 0 ∨ x = -1 := by unfold Fit1 at fn; omega
    refine ⟨-9223372036854775808, -x, 1, by unfold Fit1; omega, by unfold Fit1; omega, by omega, by omega, by omega, by simp, .inr ⟨by rw [← hg]; exact c, rfl⟩, by omega, by omega, by omega⟩

theorem times_any (x p n d N D er : Int) (w : World) (fx : Fit1 x) (fp : Fit1 p) (fn : Fit1 n) (fd : Fit1 d) (hx : Low x p) (hn : Int.gcd n d = 1) (hd : d ≠ 0) (hs : d < 0 → 0 < n)
    (R : Rat1 (x * n) (p * d) N D er) :
    Calls Try.prog 40 #[.agg #[.int .i64 x, .int .i64 p], .int .i64 n, .int .i64 d] w fun e w' =>
      e = .returned (.tuple #[.agg #[.int .i64 N, .int .i64 D], .int .i64 er]) ∧ Below w.heap.size w w' := by
  have hpd : p * d ≠ 0 := Int.mul_ne_zero (by have := hx.1; omega) hd
  obtain ⟨g1, x', d', fx', fd', g10, ex, ed, hc1, hg1, hd', sd, _⟩ := low_cut fx fd hd
  obtain ⟨g2, n', p', fn', fp', g20, en, ep, hc2, hg2, hp', _, sp⟩ := low_cut fn fp (by have := hx.1; omega)
  have g2p : 0 < g2 := sp hx.1
  have p'p : 0 < p' := pos_part g2p (by rw [← ep]; exact hx.1)
  have cl1 := fun w => lowest_any x d x' d' g1 w fx fd fx' fd' g10 ex ed hg1
  have cl2 := fun w => lowest_any n p n' p' g2 w fn fp fn' fp' g20 en ep hg2
  by_cases c : d' < 0
  · have n'p : 0 < n' := pos_part g2p (by rw [← en]; exact hs (sd c))
    have n1 : -9223372036854775807 ≤ n' := by omega
    have p1 : -9223372036854775807 ≤ p' := by omega
    have fn'' : Fit1 (-n') := by unfold Fit1 at *; omega
    have fp'' : Fit1 (-p') := by unfold Fit1 at *; omega
    obtain ⟨h1, l1, e1, b1⟩ := words_ex (x := x' * -n') (by have := prod_fits fx' fn''; unfold Fits; omega)
    obtain ⟨h2, l2, e2, b2⟩ := words_ex (x := -p' * d') (by have := prod_fits fp'' fd'; unfold Fits; omega)
    obtain ⟨L, E⟩ := times_low (x := x) (p := p) (n := n) (d := d) (g1 := g1) (x' := x') (d' := d') (g2 := -g2) (n' := -n') (p' := -p') hx.2 hn ex ed hc1 (by rw [en]; exact (Int.neg_mul_neg g2 n').symm) (by rw [ep]; exact (Int.neg_mul_neg g2 p').symm) (by rw [Int.neg_gcd, Int.gcd_neg]; exact hc2) (Int.mul_pos_of_neg_of_neg (by omega) c)
    rw [← e1, ← e2] at L E
    have F := fitres_of hpd L E R
    have cm1 := fun w => Mul_any x' (-n') h1 l1 w fx' fn'' b1 e1
    have cm2 := fun w => Mul_any (-p') d' h2 l2 w fp'' fd' b2 e2
    have cf := fun w => fitting_any h1 l1 h2 l2 N D er w b1 b2 F
    unfold Fit1 at fn' fp'
    obtain ⟨_, fn1⟩ := fn'
    obtain ⟨_, fp1⟩ := fp'
    clear L E F b1 b2 e1 e2 R hx hn hd hs hpd ex ed en ep hc1 hc2 hg1 hg2 hd' hp' sd sp fx fp fn fd fx' fd' fn'' fp'' g10 g20 g2p
    go_enter Try.func40, Try.ntmps40
    go_wp2_with fail
    refine (cl1 _).mono ?_
    rintro e w1 ⟨rfl, m1, rfl⟩
    go_wp2_with fail
    refine (cl2 _).mono ?_
    rintro e w1 ⟨rfl, m2, rfl⟩
    go_wp2_with fail
    refine (cm1 _).mono ?_
    rintro e w1 ⟨rfl, hb1⟩
    have P4 := ((Two.new (w.alloc (.cells #[.int .i64 x, .int .i64 p] 50)) (.int .i64 0) (.int .i64 0) 50).drewN (m1 + m2)).kept hb1
    have B1 := bthen (bdrewN (balloc (balloc (Below.refl _ w) _) _) (m1 + m2)) hb1
    clear hb1
    go_wp2_with fail
    refine (cm2 _).mono ?_
    rintro e w2 ⟨rfl, hb1⟩
    replace P4 := P4.kept hb1
    replace B1 := bthen B1 hb1
    clear hb1
    go_wp2_with fail
    refine (cf _).mono ?_
    rintro e w3 ⟨rfl, hb1⟩
    replace P4 := P4.kept hb1
    replace B1 := bthen B1 hb1
    clear hb1
    obtain ⟨z, c0, c1, f0, f1⟩ := id P4
    simp only [World.size_alloc] at z c0 c1 f0 f1
    go_wp2
    refine bodyPost_ret (v := .tuple #[.agg #[.int .i64 N, .int .i64 D], .int .i64 er]) (by simp [results, Try.results40, go_sem, c0, c1]) rfl ⟨rfl, ?_⟩
    exact bset (bset B1 (by simp) _ _) (by simp) _ _
  · have d'p : 0 < d' := by omega
    have d2 : decide (d' < 0) = false := decide_eq_false c
    obtain ⟨h1, l1, e1, b1⟩ := words_ex (x := x' * n') (by have := prod_fits fx' fn'; unfold Fits; omega)
    obtain ⟨h2, l2, e2, b2⟩ := words_ex (x := p' * d') (by have := prod_fits fp' fd'; unfold Fits; omega)
    obtain ⟨L, E⟩ := times_low (x := x) (p := p) (n := n) (d := d) (g1 := g1) (x' := x') (d' := d') (g2 := g2) (n' := n') (p' := p') hx.2 hn ex ed hc1 en ep hc2 (Int.mul_pos p'p d'p)
    rw [← e1, ← e2] at L E
    have F := fitres_of hpd L E R
    have cm1 := fun w => Mul_any x' n' h1 l1 w fx' fn' b1 e1
    have cm2 := fun w => Mul_any p' d' h2 l2 w fp' fd' b2 e2
    have cf := fun w => fitting_any h1 l1 h2 l2 N D er w b1 b2 F
    clear L E F b1 b2 e1 e2 R hx hn hd hs hpd ex ed en ep hc1 hc2 hg1 hg2 hd' hp' sd sp fx fp fn fd fx' fd' fn' fp' g10 g20 g2p c
    go_enter Try.func40, Try.ntmps40
    go_wp2_with fail
    refine (cl1 _).mono ?_
    rintro e w1 ⟨rfl, m1, rfl⟩
    go_wp2_with fail
    refine (cl2 _).mono ?_
    rintro e w1 ⟨rfl, m2, rfl⟩
    go_wp2_with fail
    refine (cm1 _).mono ?_
    rintro e w1 ⟨rfl, hb1⟩
    have P4 := ((Two.new (w.alloc (.cells #[.int .i64 x, .int .i64 p] 50)) (.int .i64 0) (.int .i64 0) 50).drewN (m1 + m2)).kept hb1
    have B1 := bthen (bdrewN (balloc (balloc (Below.refl _ w) _) _) (m1 + m2)) hb1
    clear hb1
    go_wp2_with fail
    refine (cm2 _).mono ?_
    rintro e w2 ⟨rfl, hb1⟩
    replace P4 := P4.kept hb1
    replace B1 := bthen B1 hb1
    clear hb1
    go_wp2_with fail
    refine (cf _).mono ?_
    rintro e w3 ⟨rfl, hb1⟩
    replace P4 := P4.kept hb1
    replace B1 := bthen B1 hb1
    clear hb1
    obtain ⟨z, c0, c1, f0, f1⟩ := id P4
    simp only [World.size_alloc] at z c0 c1 f0 f1
    go_wp2
    refine bodyPost_ret (v := .tuple #[.agg #[.int .i64 N, .int .i64 D], .int .i64 er]) (by simp [results, Try.results40, go_sem, c0, c1]) rfl ⟨rfl, ?_⟩
    exact bset (bset B1 (by simp) _ _) (by simp) _ _

end Go.Proofs.Ytodpmdmfdnbehab.Qc

/- What Make, Mul and Div of package ratio come to, and the closures by which two are counted with. -/
namespace Go.Proofs.Ytodpmdmfdnbehab.Qc
set_option linter.unusedSimpArgs false
set_option linter.unusedVariables false
open Go.RowKit Go.Proofs.Ytodpmdmfdnbehab.Vm Go.Proofs.Ytodpmdmfdnbehab.Vc Go.Proofs.Ytodpmdmfdnbehab.Pr Go.Proofs.Ytodpmdmfdnbehab.Qm

set_option maxHeartbeats 400000

theorem Make_any (n d N D er : Int) (w : World) (fn : Fit1 n) (fd : Fit1 d) (R : MakeRes n d N D er) :
    Calls Try.prog 20 #[.int .i64 n, .int .i64 d] w fun e w' =>
      e = .returned (.tuple #[.agg #[.int .i64 N, .int .i64 D], .int .i64 er]) ∧ Below w.heap.size w w' := by
  rcases R with ⟨rfl, rfl, rfl, rfl⟩ | ⟨hd, R⟩
  · go_enter Try.func20, Try.ntmps20
    go_wp2
    refine bodyPost_ret (v := .tuple #[.agg #[.int .i64 0, .int .i64 0], .int .i64 3]) (by simp [results, Try.results20, go_sem]) rfl ⟨rfl, ?_⟩
    exact balloc (Below.refl _ w) _
  · have d0 : (d == 0) = false := beq_eq_false_iff_ne.2 hd
    have ct := fun w => times_any n 1 1 d N D er w fn (by unfold Fit1; omega) (by unfold Fit1; omega) fd ⟨by omega, by simp⟩ (by simp) hd (by omega) (by simpa using R)
    clear R hd fn fd
    go_enter Try.func20, Try.ntmps20
    go_wp2_with fail
    refine (ct _).mono ?_
    rintro e w1 ⟨rfl, hb1⟩
    have P4 := (Two.new w (.int .i64 0) (.int .i64 0) 50).kept hb1
    have B1 := bthen (balloc (Below.refl _ w) _) hb1
    clear hb1
    obtain ⟨z, c0, c1, f0, f1⟩ := id P4
    go_wp2
    refine bodyPost_ret (v := .tuple #[.agg #[.int .i64 N, .int .i64 D], .int .i64 er]) (by simp [results, Try.results20, go_sem, c0, c1]) rfl ⟨rfl, ?_⟩
    exact bset (bset B1 (by simp) _ _) (by simp) _ _

theorem mulf_any (p q : Nat) (a b c d N D er : Int) (w : World) (A : Two w p (.int .i64 a) (.int .i64 b)) (B : Two w q (.int .i64 c) (.int .i64 d)) (fa : Fit1 a) (fb : Fit1 b) (fc : Fit1 c) (fd : Fit1 d)
    (h1 : Low a b) (h2 : Low c d) (R : Rat1 (a * c) (b * d) N D er) :
    Calls Try.prog 42 #[.pointer (some ⟨p, 0, none⟩), .pointer (some ⟨q, 0, none⟩)] w fun e w' =>
      e = .returned (.tuple #[.agg #[.int .i64 N, .int .i64 D], .int .i64 er]) ∧ Below w.heap.size w w' := by
  have ct := fun w => times_any a b c d N D er w fa fb fc fd h1 h2.2 (by have := h2.1; omega) (by have := h2.1; omega) R
  clear R h1 h2 fa fb fc fd
  obtain ⟨z1, a0, a1, _, _⟩ := id A
  obtain ⟨z2, b0, b1, _, _⟩ := id B
  go_enter Try.func42, Try.ntmps42
  go_wp2_with fail
  refine (ct _).mono ?_
  rintro e w1 ⟨rfl, hb1⟩
  have P4 := (Two.new w (.int .i64 0) (.int .i64 0) 50).kept hb1
  have B1 := bthen (balloc (Below.refl _ w) _) hb1
  clear hb1 z1 a0 a1 z2 b0 b1 A B
  obtain ⟨z, c0, c1, f0, f1⟩ := id P4
  go_wp2
  refine bodyPost_ret (v := .tuple #[.agg #[.int .i64 N, .int .i64 D], .int .i64 er]) (by simp [results, Try.results42, go_sem, c0, c1]) rfl ⟨rfl, ?_⟩
  exact bset (bset B1 (by simp) _ _) (by simp) _ _

theorem counted_yes (K : Nat) (caps : Array Value) (a b c d N D er : Int) (w : World) (fa : Fit1 a) (fb : Fit1 b) (fc : Fit1 c) (fd : Fit1 d)
    (h1 : Low a b) (h2 : Low c d) (hE : ∀ w1, Sem.run Try.prog (callFunc K caps) w1 = .ok (.enter K caps) w1) (hK : ∀ w1, Below w.heap.size w w1 → Calls Try.prog K caps w1 fun e w' => e = .returned (.tuple #[.agg #[.int .i64 N, .int .i64 D], .int .i64 er]) ∧ Below w1.heap.size w1 w') :
    Calls Try.prog 41 #[.agg #[.int .i64 a, .int .i64 b], .agg #[.int .i64 c, .int .i64 d], .func (.func K) #[] caps] w fun e w' =>
      e = .returned (.tuple #[.agg #[.int .i64 N, .int .i64 D], .int .i64 er]) ∧ Below w.heap.size w w' := by
  have c1 := fun w => Check_yes a b w fa fb h1
  have c2 := fun w => Check_yes c d w fc fd h2
  clear h1 h2 fa fb fc fd
  go_enter Try.func41, Try.ntmps41
  go_wp2_with fail
  refine (c1 _).mono ?_
  rintro e w1 ⟨rfl, hb1⟩
  have P2 := ((Two.new (w.alloc (.cells #[.int .i64 a, .int .i64 b] 50)) (.int .i64 c) (.int .i64 d) 50).alloc (.cells #[.int .i64 0, .int .i64 0] 50)).alloc (.cells #[.int .i64 0, .int .i64 0] 50)
  replace P2 := P2.kept hb1
  have P3 := ((Two.new ((w.alloc (.cells #[.int .i64 a, .int .i64 b] 50)).alloc (.cells #[.int .i64 c, .int .i64 d] 50)) (.int .i64 0) (.int .i64 0) 50).alloc (.cells #[.int .i64 0, .int .i64 0] 50)).kept hb1
  have B1 := bthen (balloc (balloc (balloc (balloc (Below.refl _ w) _) _) _) _) hb1
  clear hb1
  obtain ⟨z2, b0, b1, _, _⟩ := id P2
  simp only [World.size_alloc] at z2 b0 b1 P3
  go_wp2_with fail
  refine (c2 _).mono ?_
  rintro e w2 ⟨rfl, hb1⟩
  replace P3 := P3.kept hb1
  replace B1 := bthen B1 hb1
  clear hb1 z2 b0 b1 P2
  go_wp2_with fail
  refine (hK _ B1).mono ?_
  rintro e w3 ⟨rfl, hb1⟩
  replace P3 := P3.kept hb1
  replace B1 := bthen B1 hb1
  clear hb1
  obtain ⟨z, c0, c1, f0, f1⟩ := id P3
  go_wp2
  refine bodyPost_ret (v := .tuple #[.agg #[.int .i64 N, .int .i64 D], .int .i64 er]) (by simp [results, Try.results41, go_sem, c0, c1]) rfl ⟨rfl, ?_⟩
  exact bset (bset B1 (by omega) _ _) (by omega) _ _

theorem counted_no (K : Nat) (caps : Array Value) (a b c d : Int) (w : World) (fa : Fit1 a) (fb : Fit1 b) (fc : Fit1 c) (fd : Fit1 d) (h : ¬ (Low a b ∧ Low c d)) :
    Calls Try.prog 41 #[.agg #[.int .i64 a, .int .i64 b], .agg #[.int .i64 c, .int .i64 d], .func (.func K) #[] caps] w fun e w' =>
      e = .returned (.tuple #[.agg #[.int .i64 0, .int .i64 0], .int .i64 1]) ∧ Below w.heap.size w w' := by
  by_cases h1 : Low a b
  · have c1 := fun w => Check_yes a b w fa fb h1
    have c2 := fun w => Check_no c d w fc fd (fun h2 => h ⟨h1, h2⟩)
    clear h h1 fa fb fc fd
    go_enter Try.func41, Try.ntmps41
    go_wp2_with fail
    refine (c1 _).mono ?_
    rintro e w1 ⟨rfl, hb1⟩
    have P2 := ((Two.new (w.alloc (.cells #[.int .i64 a, .int .i64 b] 50)) (.int .i64 c) (.int .i64 d) 50).alloc (.cells #[.int .i64 0, .int .i64 0] 50)).alloc (.cells #[.int .i64 0, .int .i64 0] 50)
    replace P2 := P2.kept hb1
    have P3 := ((Two.new ((w.alloc (.cells #[.int .i64 a, .int .i64 b] 50)).alloc (.cells #[.int .i64 c, .int .i64 d] 50)) (.int .i64 0) (.int .i64 0) 50).alloc (.cells #[.int .i64 0, .int .i64 0] 50)).kept hb1
    have P5 := (Two.new (((w.alloc (.cells #[.int .i64 a, .int .i64 b] 50)).alloc (.cells #[.int .i64 c, .int .i64 d] 50)).alloc (.cells #[.int .i64 0, .int .i64 0] 50)) (.int .i64 0) (.int .i64 0) 50).kept hb1
    have B1 := bthen (balloc (balloc (balloc (balloc (Below.refl _ w) _) _) _) _) hb1
    clear hb1
    obtain ⟨z2, b0, b1, _, _⟩ := id P2
    simp only [World.size_alloc] at z2 b0 b1 P3 P5
    go_wp2_with fail
    refine (c2 _).mono ?_
    rintro e w2 ⟨rfl, hb1⟩
    replace P3 := P3.kept hb1
    replace P5 := P5.kept hb1
    replace B1 := bthen B1 hb1
    clear hb1 z2 b0 b1 P2
    obtain ⟨z, c0, c1, f0, f1⟩ := id P3
    obtain ⟨z5, d0, d1, _, _⟩ := id P5
    go_wp2
    refine bodyPost_ret (v := .tuple #[.agg #[.int .i64 0, .int .i64 0], .int .i64 1]) (by simp [results, Try.results41, go_sem, c0, c1]) rfl ⟨rfl, ?_⟩
    exact bset (bset B1 (by omega) _ _) (by omega) _ _
  · have c1 := fun w => Check_no a b w fa fb h1
    clear h h1 fa fb fc fd
    go_enter Try.func41, Try.ntmps41
    go_wp2_with fail
    refine (c1 _).mono ?_
    rintro e w1 ⟨rfl, hb1⟩
    have P3 := ((Two.new ((w.alloc (.cells #[.int .i64 a, .int .i64 b] 50)).alloc (.cells #[.int .i64 c, .int .i64 d] 50)) (.int .i64 0) (.int .i64 0) 50).alloc (.cells #[.int .i64 0, .int .i64 0] 50)).kept hb1
    have P5 := (Two.new (((w.alloc (.cells #[.int .i64 a, .int .i64 b] 50)).alloc (.cells #[.int .i64 c, .int .i64 d] 50)).alloc (.cells #[.int .i64 0, .int .i64 0] 50)) (.int .i64 0) (.int .i64 0) 50).kept hb1
    have B1 := bthen (balloc (balloc (balloc (balloc (Below.refl _ w) _) _) _) _) hb1
    clear hb1
    simp only [World.size_alloc] at P3 P5
    obtain ⟨z, c0, c1, f0, f1⟩ := id P3
    obtain ⟨z5, d0, d1, _, _⟩ := id P5
    go_wp2
    refine bodyPost_ret (v := .tuple #[.agg #[.int .i64 0, .int .i64 0], .int .i64 1]) (by simp [results, Try.results41, go_sem, c0, c1]) rfl ⟨rfl, ?_⟩
    exact bset (bset B1 (by omega) _ _) (by omega) _ _

theorem Mul_op (a b c d N D er : Int) (w : World) (fa : Fit1 a) (fb : Fit1 b) (fc : Fit1 c) (fd : Fit1 d) (R : OpRes a b c d (a * c) (b * d) N D er) :
    Calls Try.prog 21 #[.agg #[.int .i64 a, .int .i64 b], .agg #[.int .i64 c, .int .i64 d]] w fun e w' =>
      e = .returned (.tuple #[.agg #[.int .i64 N, .int .i64 D], .int .i64 er]) ∧ Below w.heap.size w w' := by
  have P1 := ((Two.new w (.int .i64 a) (.int .i64 b) 50).alloc (.cells #[.int .i64 c, .int .i64 d] 50)).alloc (.cells #[.int .i64 0, .int .i64 0] 50)
  have P2 := (Two.new (w.alloc (.cells #[.int .i64 a, .int .i64 b] 50)) (.int .i64 c) (.int .i64 d) 50).alloc (.cells #[.int .i64 0, .int .i64 0] 50)
  have P3 := Two.new ((w.alloc (.cells #[.int .i64 a, .int .i64 b] 50)).alloc (.cells #[.int .i64 c, .int .i64 d] 50)) (.int .i64 0) (.int .i64 0) 50
  have B0 := balloc (balloc (balloc (Below.refl _ w) (.cells #[.int .i64 a, .int .i64 b] 50)) (.cells #[.int .i64 c, .int .i64 d] 50)) (.cells #[.int .i64 0, .int .i64 0] 50)
  simp only [World.size_alloc] at P1 P2 P3
  have ct : Calls Try.prog 41 #[.agg #[.int .i64 a, .int .i64 b], .agg #[.int .i64 c, .int .i64 d], .func (.func 42) #[] #[.pointer (some ⟨w.heap.size, 0, none⟩), .pointer (some ⟨w.heap.size + 1, 0, none⟩)]]
      (((w.alloc (.cells #[.int .i64 a, .int .i64 b] 50)).alloc (.cells #[.int .i64 c, .int .i64 d] 50)).alloc (.cells #[.int .i64 0, .int .i64 0] 50)) fun e w' =>
      e = .returned (.tuple #[.agg #[.int .i64 N, .int .i64 D], .int .i64 er]) ∧ Below w.heap.size w w' ∧ Two w' (w.heap.size + 1 + 1) (.int .i64 0) (.int .i64 0) := by
    rcases R with ⟨h1, h2, R⟩ | ⟨h, rfl, rfl, rfl⟩
    · refine (counted_yes _ _ a b c d N D er _ fa fb fc fd h1 h2 (fun w1 => by rfl) (fun w1 hb => mulf_any _ _ a b c d N D er w1 (P1.kept hb) (P2.kept hb) fa fb fc fd h1 h2 R)).mono ?_
      rintro e w1 ⟨rfl, hb⟩
      exact ⟨rfl, bthen B0 hb, P3.kept hb⟩
    · refine (counted_no _ _ a b c d _ fa fb fc fd h).mono ?_
      rintro e w1 ⟨rfl, hb⟩
      exact ⟨rfl, bthen B0 hb, P3.kept hb⟩
  clear R fa fb fc fd P1 P2 P3 B0
  go_enter Try.func21, Try.ntmps21
  go_wp2_with fail
  refine ct.mono ?_
  rintro e w1 ⟨rfl, B1, P3⟩
  clear ct
  obtain ⟨z, c0, c1, f0, f1⟩ := id P3
  go_wp2
  refine bodyPost_ret (v := .tuple #[.agg #[.int .i64 N, .int .i64 D], .int .i64 er]) (by simp [results, Try.results21, go_sem, c0, c1]) rfl ⟨rfl, ?_⟩
  exact bset (bset B1 (by omega) _ _) (by omega) _ _

end Go.Proofs.Ytodpmdmfdnbehab.Qc

/- Plain facts for the laws of layer 3; nothing of the program. -/
namespace Go.Proofs.Ytodpmdmfdnbehab.Qm
set_option linter.unusedSimpArgs false
set_option linter.unusedVariables false
open Go.Proofs.Ytodpmdmfdnbehab.Vm

theorem rat1_same {n d n' d' N D er : Int} (hd : d ≠ 0) (hd' : d' ≠ 0) (e : n * d' = n' * d) (r : Rat1 n d N D er) : Rat1 n' d' N D er := by
  have key : ∀ N' D' : Int, N' * d' = n' * D' ↔ N' * d = n * D' := by
    intro N' D'
    constructor
    · intro h
      apply mul_same hd'
      calc d' * (N' * d) = N' * d' * d := by ac_rfl
        _ = n' * D' * d := by rw [h]
        _ = n' * d * D' := by ac_rfl
        _ = n * d' * D' := by rw [e]
        _ = d' * (n * D') := by ac_rfl
    · intro h
      apply mul_same hd
      calc d * (N' * d') = N' * d * d' := by ac_rfl
        _ = n * D' * d' := by rw [h]
        _ = n * d' * D' := by ac_rfl
        _ = n' * d * D' := by rw [e]
        _ = d * (n' * D') := by ac_rfl
  rcases r with ⟨h0, l, h, f⟩ | ⟨h0, h1, h2, no⟩
  · exact .inl ⟨h0, l, (key _ _).2 h, f⟩
  · exact .inr ⟨h0, h1, h2, fun N' D' l h => no N' D' l ((key _ _).1 h)⟩

theorem rat1_low {n d N D : Int} (r : Rat1 n d N D 0) : Low N D ∧ N * d = n * D ∧ Fit1 N ∧ Fit1 D := by
  rcases r with ⟨_, l, e, f⟩ | ⟨h, _⟩
  · exact ⟨l, e, f⟩
  · omega
theorem rat1_er {n d N D er : Int} (r : Rat1 n d N D er) : er = 0 ∨ (er = 2 ∧ N = 0 ∧ D = 0) := by
  rcases r with ⟨h, _⟩ | ⟨h, h1, h2, _⟩
  · exact .inl h
  · exact .inr ⟨h, h1, h2⟩
theorem low_ne {a b c d : Int} (h1 : Low a b) (h2 : Low c d) : b * d ≠ 0 := Int.mul_ne_zero (by have := h1.1; omega) (by have := h2.1; omega)

theorem opres_fit {a b c d n m N D er : Int} (r : OpRes a b c d n m N D er) : Fit1 N ∧ Fit1 D := by
  rcases r with ⟨_, _, r⟩ | ⟨_, rfl, rfl, _⟩
  · exact rat1_fit r
  · unfold Fit1; omega
theorem opres_ok {a b c d n m N D : Int} (r : OpRes a b c d n m N D 0) : Low a b ∧ Low c d ∧ Low N D ∧ N * m = n * D ∧ Fit1 N ∧ Fit1 D := by
  rcases r with ⟨h1, h2, r⟩ | ⟨_, _, _, h⟩
  · have := rat1_low r; exact ⟨h1, h2, this.1, this.2⟩
  · omega
theorem makeres_fit {n d N D er : Int} (r : MakeRes n d N D er) : Fit1 N ∧ Fit1 D := by
  rcases r with ⟨_, rfl, rfl, _⟩ | ⟨_, r⟩
  · unfold Fit1; omega
  · exact rat1_fit r
theorem divres2_fit {a b c d N D er : Int} (r : DivRes2 a b c d N D er) : Fit1 N ∧ Fit1 D := by
  rcases r with ⟨_, _, r⟩ | ⟨_, rfl, rfl, _⟩
  · exact makeres_fit r
  · unfold Fit1; omega

/-- what was added is taken away again -/
theorem back_sub {a b c d N D : Int} (fa : Fit1 a) (fb : Fit1 b) (r : OpRes a b c d (a * d + c * b) (b * d) N D 0) : OpRes N D c d (N * d - c * D) (D * d) a b 0 := by
  obtain ⟨h1, h2, h3, e, _, _⟩ := opres_ok r
  refine .inl ⟨h3, h2, .inl ⟨rfl, h1, ?_, fa, fb⟩⟩
  rw [Int.add_mul] at e
  rw [Int.sub_mul]
  have e1 : a * d * D = a * (D * d) := by ac_rfl
  have e2 : c * b * D = c * D * b := by ac_rfl
  have e3 : N * (b * d) = N * d * b := by ac_rfl
  omega
/-- what multiplied divides again -/
theorem back_div {a b c d N D : Int} (fa : Fit1 a) (fb : Fit1 b) (hc : c ≠ 0) (r : OpRes a b c d (a * c) (b * d) N D 0) : DivRes2 N D c d a b 0 := by
  obtain ⟨h1, h2, h3, e, _, _⟩ := opres_ok r
  refine .inl ⟨h3, h2, .inr ⟨Int.mul_ne_zero (by have := h3.1; omega) hc, .inl ⟨rfl, h1, ?_, fa, fb⟩⟩⟩
  have e1 : a * c * D = a * (D * c) := by ac_rfl
  have e3 : N * (b * d) = N * d * b := by ac_rfl
  omega

/-- sums and products hang on no order -/
theorem op_swap {a b c d n m n' m' N D er : Int} (hn : n = n') (hm : m = m') (r : OpRes a b c d n m N D er) : OpRes c d a b n' m' N D er := by
  subst hn hm
  rcases r with ⟨h1, h2, r⟩ | ⟨h, r⟩
  · exact .inl ⟨h2, h1, r⟩
  · exact .inr ⟨fun k => h ⟨k.2, k.1⟩, r⟩
theorem add_swap {a b c d N D er : Int} (r : OpRes a b c d (a * d + c * b) (b * d) N D er) : OpRes c d a b (c * b + a * d) (d * b) N D er :=
  op_swap (Int.add_comm _ _) (Int.mul_comm _ _) r
theorem mul_swap {a b c d N D er : Int} (r : OpRes a b c d (a * c) (b * d) N D er) : OpRes c d a b (c * a) (d * b) N D er :=
  op_swap (Int.mul_comm _ _) (Int.mul_comm _ _) r

/-- and on no brackets -/
theorem add_brackets {a b c d f g sN sD uN uD N D er : Int} (rs : OpRes a b c d (a * d + c * b) (b * d) sN sD 0) (ru : OpRes c d f g (c * g + f * d) (d * g) uN uD 0)
    (r : OpRes sN sD f g (sN * g + f * sD) (sD * g) N D er) : OpRes a b uN uD (a * uD + uN * b) (b * uD) N D er := by
  obtain ⟨h1, h2, h3, e1, _, _⟩ := opres_ok rs
  obtain ⟨_, h4, h5, e2, _, _⟩ := opres_ok ru
  rcases r with ⟨_, _, r⟩ | ⟨h, _⟩
  · refine .inl ⟨h1, h5, rat1_same (low_ne h3 h4) (low_ne h1 h5) ?_ r⟩
    have hd : d ≠ 0 := by have := h2.1; omega
    apply mul_same hd
    have a1 : d * ((sN * g + f * sD) * (b * uD)) = sN * (b * d) * (g * uD) + f * sD * b * d * uD := by rw [Int.add_mul, Int.mul_add]; congr 1 <;> ac_rfl
    have a2 : d * ((a * uD + uN * b) * (sD * g)) = a * d * uD * sD * g + uN * (d * g) * (b * sD) := by rw [Int.add_mul, Int.mul_add]; congr 1 <;> ac_rfl
    rw [a1, a2, e1, e2]
    have a3 : (a * d + c * b) * sD * (g * uD) = a * d * uD * sD * g + c * b * sD * g * uD := by rw [Int.add_mul, Int.add_mul]; congr 1 <;> ac_rfl
    have a4 : (c * g + f * d) * uD * (b * sD) = c * b * sD * g * uD + f * sD * b * d * uD := by rw [Int.add_mul, Int.add_mul]; congr 1 <;> ac_rfl
    rw [a3, a4]; omega
  · exact absurd ⟨h3, h4⟩ h

/-- a times the sum of b and c -/
theorem mul_over_add {a b c d f g uN uD pN pD vN vD N D er : Int} (ru : OpRes c d f g (c * g + f * d) (d * g) uN uD 0) (rp : OpRes a b c d (a * c) (b * d) pN pD 0) (rv : OpRes a b f g (a * f) (b * g) vN vD 0)
    (r : OpRes a b uN uD (a * uN) (b * uD) N D er) : OpRes pN pD vN vD (pN * vD + vN * pD) (pD * vD) N D er := by
  obtain ⟨h2, h4, h5, e1, _, _⟩ := opres_ok ru
  obtain ⟨h1, _, h6, e2, _, _⟩ := opres_ok rp
  obtain ⟨_, _, h7, e3, _, _⟩ := opres_ok rv
  rcases r with ⟨_, _, r⟩ | ⟨h, _⟩
  · refine .inl ⟨h6, h7, rat1_same (low_ne h1 h5) (low_ne h6 h7) ?_ r⟩
    have hb : b ≠ 0 := by have := h1.1; omega
    have hm : b * d * g ≠ 0 := Int.mul_ne_zero (low_ne h1 h2) (by have := h4.1; omega)
    apply mul_same hm
    have a1 : b * d * g * (a * uN * (pD * vD)) = uN * (d * g) * (a * b * pD * vD) := by ac_rfl
    have a2 : b * d * g * ((pN * vD + vN * pD) * (b * uD)) = pN * (b * d) * (g * vD * b * uD) + vN * (b * g) * (d * pD * b * uD) := by rw [Int.add_mul, Int.mul_add]; congr 1 <;> ac_rfl
    rw [a1, a2, e1, e2, e3]
    have a3 : (c * g + f * d) * uD * (a * b * pD * vD) = a * c * pD * (g * vD * b * uD) + a * f * vD * (d * pD * b * uD) := by rw [Int.add_mul, Int.add_mul]; congr 1 <;> ac_rfl
    rw [a3]
  · exact absurd ⟨h1, h5⟩ h

/-- where Make tells that it does not fit -/
theorem made_over {n d N D : Int} (fn : Fit1 n) (fd : Fit1 d) (hd : d ≠ 0) (r : Rat1 n d N D 2) : n = -9223372036854775808 ∨ d = -9223372036854775808 := by
  rcases r with ⟨h, _⟩ | ⟨_, _, _, no⟩
  · omega
  · by_cases c : n = -9223372036854775808 ∨ d = -9223372036854775808
    · exact c
    · exfalso
      obtain ⟨g, x, y, g0, _, en, ed, hc, hy⟩ := gcd_out (a := n) hd
      have bx : (x.natAbs : Int) ≤ n.natAbs := by
        rw [en, Int.natAbs_mul]
        have : 1 * x.natAbs ≤ g.natAbs * x.natAbs := Nat.mul_le_mul_right _ (by omega)
        omega
      have bY : (y.natAbs : Int) ≤ d.natAbs := by
        rw [ed, Int.natAbs_mul]
        have : 1 * y.natAbs ≤ g.natAbs * y.natAbs := Nat.mul_le_mul_right _ (by omega)
        omega
      unfold Fit1 at fn fd no
      by_cases c2 : 0 < y
      · exact no x y ⟨c2, hc⟩ (by rw [en, ed]; ac_rfl) (by omega)
      · exact no (-x) (-y) ⟨by omega, by rw [Int.neg_gcd, Int.gcd_neg]; exact hc⟩ (by rw [Int.neg_mul, Int.mul_neg]; congr 1; rw [en, ed]; ac_rfl) (by omega)

theorem made_again {N D : Int} (l : Low N D) (f : Fit1 N) (g : Fit1 D) : MakeRes N D N D 0 := .inr ⟨by have := l.1; omega, .inl ⟨rfl, l, rfl, f, g⟩⟩

theorem sign_same {N m n D : Int} (hm : 0 < m) (hD : 0 < D) (e : N * m = n * D) : (N < 0 ↔ n < 0) ∧ (0 < N ↔ 0 < n) := by
  rcases Int.lt_trichotomy N 0 with h | h | h <;> rcases Int.lt_trichotomy n 0 with k | k | k
  · exact ⟨⟨fun _ => k, fun _ => h⟩, ⟨fun _ => by omega, fun _ => by omega⟩⟩
  · subst k; have := Int.mul_neg_of_neg_of_pos h hm; simp at e; omega
  · have h1 := Int.mul_neg_of_neg_of_pos h hm; have h2 := Int.mul_pos k hD; omega
  · subst h; have := Int.mul_neg_of_neg_of_pos k hD; simp at e; omega
  · subst h k; exact ⟨Iff.rfl, Iff.rfl⟩
  · subst h; have := Int.mul_pos k hD; simp at e; omega
  · have h1 := Int.mul_pos h hm; have h2 := Int.mul_neg_of_neg_of_pos k hD; omega
  · subst k; have := Int.mul_pos h hm; simp at e; omega
  · exact ⟨⟨fun _ => by omega, fun _ => by omega⟩, ⟨fun _ => k, fun _ => h⟩⟩

/-- what stands beside a ratio that is no whole number -/
theorem beside_facts {a b : Int} (L : Low a b) (b1 : b ≠ 1) (fa : Fit1 a) : ∃ n : Int, -9223372036854775808 ≤ n ∧ n < 9223372036854775807 ∧ (n = a / b ∧ ¬ a % b = 0) ∧ cv (n * b) (a * 1) = -1 ∧ cv ((n + 1) * b) (a * 1) = 1 := by
  have h0 := L.1
  have h1 := Int.mul_ediv_add_emod a b
  have h2 := Int.emod_nonneg a (b := b) (by omega)
  have h3 := Int.emod_lt_of_pos a h0
  have hz : a % b ≠ 0 := by
    intro h
    have d : b ∣ a := Int.dvd_of_emod_eq_zero h
    have : Int.gcd a b = b.natAbs := by rw [Int.gcd_comm]; exact Int.gcd_eq_natAbs_left d
    have := L.2
    omega
  unfold Fit1 at fa
  refine ⟨a / b, ?_, ?_, ⟨rfl, hz⟩, ?_, ?_⟩
  · by_cases hq : a / b < 0
    · have h6 : b * (a / b + 1) ≤ 1 * (a / b + 1) := Int.mul_le_mul_of_nonpos_right (by omega) (by omega)
      rw [Int.mul_add] at h6
      omega
    · omega
  · by_cases hq : a / b < 0
    · omega
    · have : 2 * (a / b) ≤ b * (a / b) := Int.mul_le_mul_of_nonneg_right (by omega) (by omega)
      omega
  · have : a / b * b < a * 1 := by rw [Int.mul_comm]; omega
    unfold cv; rw [if_pos this]
  · have : a * 1 < (a / b + 1) * b := by
      have e : (a / b + 1) * b = b * (a / b) + b := by rw [Int.add_mul, Int.one_mul, Int.mul_comm]
      omega
    unfold cv; rw [if_neg (by omega), if_pos this]

/-- two that are told apart, and how; g: whether the difference fits -/
theorem less_facts {a b c d N D g : Int} (h1 : Low a b) (h2 : Low c d) (r : Rat1 (a * d - c * b) (b * d) N D g) :
    (cv (a * d) (c * b) = -1 ∧ cv (c * b) (a * d) = 1 ∧ ¬ (a = c ∧ b = d) ∧ g = 0 ∧ decide (N < 0) = true ∧ decide (0 < N) = false) ∨
    (cv (a * d) (c * b) = 1 ∧ cv (c * b) (a * d) = -1 ∧ ¬ (a = c ∧ b = d) ∧ g = 0 ∧ decide (N < 0) = false ∧ decide (0 < N) = true) ∨
    (cv (a * d) (c * b) = 0 ∧ cv (c * b) (a * d) = 0 ∧ (a = c ∧ b = d) ∧ g = 0 ∧ decide (N < 0) = false ∧ decide (0 < N) = false) ∨
    (cv (a * d) (c * b) = -1 ∧ cv (c * b) (a * d) = 1 ∧ ¬ (a = c ∧ b = d) ∧ g = 2) ∨
    (cv (a * d) (c * b) = 1 ∧ cv (c * b) (a * d) = -1 ∧ ¬ (a = c ∧ b = d) ∧ g = 2) ∨
    (cv (a * d) (c * b) = 0 ∧ cv (c * b) (a * d) = 0 ∧ (a = c ∧ b = d) ∧ g = 2) := by
  have hm : 0 < b * d := Int.mul_pos h1.1 h2.1
  have ne : a * d ≠ c * b → ¬ (a = c ∧ b = d) := by
    rintro h ⟨rfl, rfl⟩; exact h rfl
  have sg : g = 0 → (N < 0 ↔ a * d - c * b < 0) ∧ (0 < N ↔ 0 < a * d - c * b) := by
    rintro rfl
    have := rat1_low r
    exact sign_same hm this.1.1 this.2.1
  have eg := rat1_er r
  rcases Int.lt_trichotomy (a * d) (c * b) with h | h | h
  · have v1 : cv (a * d) (c * b) = -1 := by unfold cv; rw [if_pos h]
    have v2 : cv (c * b) (a * d) = 1 := by unfold cv; rw [if_neg (by omega), if_pos h]
    rcases eg with rfl | ⟨rfl, _⟩
    · have := sg rfl
      exact .inl ⟨v1, v2, ne (by omega), rfl, decide_eq_true (this.1.2 (by omega)), decide_eq_false (fun k => by have := this.2.1 k; omega)⟩
    · exact .inr (.inr (.inr (.inl ⟨v1, v2, ne (by omega), rfl⟩)))
  · have e := low_eq h1 h2 h
    obtain ⟨rfl, rfl⟩ := e
    have v1 : cv (a * b) (a * b) = 0 := by unfold cv; rw [if_neg (by omega), if_neg (by omega)]
    rcases eg with rfl | ⟨rfl, _⟩
    · have := sg rfl
      exact .inr (.inr (.inl ⟨v1, v1, ⟨rfl, rfl⟩, rfl, decide_eq_false (fun k => by have := this.1.1 k; omega), decide_eq_false (fun k => by have := this.2.1 k; omega)⟩))
    · exact .inr (.inr (.inr (.inr (.inr ⟨v1, v1, ⟨rfl, rfl⟩, rfl⟩))))
  · have v1 : cv (a * d) (c * b) = 1 := by unfold cv; rw [if_neg (by omega), if_pos h]
    have v2 : cv (c * b) (a * d) = -1 := by unfold cv; rw [if_pos h]
    rcases eg with rfl | ⟨rfl, _⟩
    · have := sg rfl
      exact .inr (.inl ⟨v1, v2, ne (by omega), rfl, decide_eq_false (fun k => by have := this.1.1 k; omega), decide_eq_true (this.2.2 (by omega))⟩)
    · exact .inr (.inr (.inr (.inr (.inl ⟨v1, v2, ne (by omega), rfl⟩))))

end Go.Proofs.Ytodpmdmfdnbehab.Qm

/- Exact of package share, where the weights may be. -/
namespace Go.Proofs.Ytodpmdmfdnbehab.Sr
set_option linter.unusedSimpArgs false
set_option linter.unusedVariables false
open Go.RowKit Go.Proofs.Ytodpmdmfdnbehab.Vm Go.Proofs.Ytodpmdmfdnbehab.Vc Go.Proofs.Ytodpmdmfdnbehab.Pr Go.Proofs.Ytodpmdmfdnbehab.Rk Go.Proofs.Ytodpmdmfdnbehab.Sm Go.Proofs.Ytodpmdmfdnbehab.Om Go.Proofs.Ytodpmdmfdnbehab.Os Go.Proofs.Ytodpmdmfdnbehab.Qm

set_option maxHeartbeats 1000000

theorem infoR : (Try.prog.info? 50).map (fun i => (i.zero, i.size, i.bytes)) = some (some (.agg #[.int .i64 0, .int .i64 0]), 2, 16) := by kernel_rfl
theorem underR : Try.prog.underlying 27 = some (.slice 50) := by kernel_rfl

/-- a new row of ratios, noughts -/
theorem make_rowp (n : Nat) (hn : n ≤ 1000000) :
    ∃ cs : Array Value, (∀ w, (Instr.makeSlice 27 (.int .i64 (n : Int)) (.int .i64 (n : Int))).run Try.prog w = .ok (.slice (some ⟨w.heap.size, 0, none⟩) n n) (w.alloc (.cells cs 50))) ∧ ∀ w : World, Rowp (w.alloc (.cells cs 50)) w.heap.size n (fun _ => 0) (fun _ => 0) := by
  obtain ⟨i, hi, hz0, hz1, hz2⟩ := info_parts infoR
  have e1 : (n : Int).toNat = n := by omega
  have at' : ∀ j, j < n * 2 → (madeCells #[Value.int .i64 0, .int .i64 0] (n * 2))[j]? = some (.int .i64 0) := fun j hj => by
    unfold madeCells
    have hm : j % 2 = 0 ∨ j % 2 = 1 := by omega
    rcases hm with h | h <;> simp [hj, h]
  refine ⟨madeCells #[.int .i64 0, .int .i64 0] (n * 2), fun w => ?_, fun w => ⟨by simp, fun i hi => ?_, fun i hi => ?_, fun i hi => by simp [go_sem], fun i hi => by simp [go_sem]⟩⟩
  · have h := run_make (P := Try.prog) (w := w) 27 50 i (.agg #[.int .i64 0, .int .i64 0]) underR hi hz0 .i64 .i64 n n (by omega) (by omega) (by rw [hz2]; omega) (by omega)
    rw [e1, hz1] at h
    exact h
  · simp [go_sem, at' (i * 2) (by omega)]
  · simp [go_sem, at' (i * 2 + 1) (by omega)]

/-- one share, by way of the weight's part of the total -/
theorem share_op {a x t : Int} (x0 : 0 ≤ x) (xt : x ≤ t) (tp : 0 < t) (ft : Fit1 t) {N D er : Int} (R : Rat1 (a * x) t N D er) :
    ∃ N1 D1, MakeRes x t N1 D1 0 ∧ Fit1 N1 ∧ Fit1 D1 ∧ OpRes a 1 N1 D1 (a * N1) (1 * D1) N D er := by
  obtain ⟨N1, D1, er1, m1⟩ := makeres_ex x t
  rcases id m1 with ⟨h, _⟩ | ⟨hd, r1⟩
  · omega
  rcases r1 with ⟨rfl, low, e1, f1, f2⟩ | ⟨rfl, rfl, rfl, no⟩
  · have d1 : D1 ≠ 0 := by have := low.1; omega
    refine ⟨N1, D1, m1, f1, f2, .inl ⟨⟨by omega, by simp⟩, low, ?_⟩⟩
    have iff : ∀ N' D' : Int, N' * t = a * x * D' ↔ N' * (1 * D1) = a * N1 * D' := by
      intro N' D'
      have k : a * N1 * D' * t = a * x * D' * D1 := by
        have : a * N1 * D' * t = a * D' * (N1 * t) := by ac_rfl
        rw [this, e1]; ac_rfl
      constructor
      · intro h
        apply Int.eq_of_mul_eq_mul_right (show t ≠ 0 by omega)
        rw [k, ← h, Int.one_mul]; ac_rfl
      · intro h
        apply Int.eq_of_mul_eq_mul_right d1
        rw [← k, ← h, Int.one_mul]; ac_rfl
    rcases R with ⟨he, l, e, f⟩ | ⟨he, hN, hD, no⟩
    · exact .inl ⟨he, l, (iff _ _).1 e, f⟩
    · exact .inr ⟨he, hN, hD, fun N' D' l e => no N' D' l ((iff _ _).2 e)⟩
  · exfalso
    obtain ⟨N', D', l, e⟩ := low_ex x hd
    have dv : D' ∣ t := cop_dvd (b := N') (by rw [Int.gcd_comm]; exact l.2) ⟨x, by rw [e, Int.mul_comm]⟩
    have d0 := l.1
    have d1 := Int.le_of_dvd tp dv
    have n0 : 0 ≤ N' := by
      by_cases c : 0 ≤ N'
      · exact c
      · have h1 : N' * t ≤ -1 * t := Int.mul_le_mul_of_nonneg_right (by omega) (by omega)
        have h2 : 0 ≤ x * D' := Int.mul_nonneg x0 (by omega)
        omega
    have n1 : N' ≤ D' := by
      by_cases c : N' ≤ D'
      · exact c
      · have h1 : (D' + 1) * t ≤ N' * t := Int.mul_le_mul_of_nonneg_right (by omega) (by omega)
        have h2 : x * D' ≤ t * D' := Int.mul_le_mul_of_nonneg_right xt (by omega)
        rw [Int.add_mul, Int.mul_comm D' t] at h1
        omega
    unfold Fit1 at ft
    exact no N' D' l e ⟨by unfold Fit1; omega, by unfold Fit1; omega⟩

def ExactRes (w : World) (n : Nat) (N D : Nat → Int) (e : Ending) (w' : World) : Prop :=
  ∃ g : Nat, e = .returned (.tuple #[.slice (some ⟨g, 0, none⟩) n n, .int .i64 0]) ∧ Rowp w' g n N D ∧ w.heap.size ≤ g ∧ Below w.heap.size w w'

set_option maxRecDepth 100000 in
theorem exact_go (A : Option Addr) (n cap : Nat) (zs : List Int) (a : Int) (N D : Nat → Int) (w : World) (hn : zs.length = n) (n0 : 0 < n) (n1 : n ≤ 4096) (fa : Fit1 a) (hf : ∀ z ∈ zs, Fit1 z) (hr : Rd w w.heap.size A zs) (hp : ∀ z ∈ zs, 0 ≤ z) (hs : 0 < zs.sum) (fs : Fit1 zs.sum)
    (R : ∀ i, i < n → Rat1 (a * wt zs i) zs.sum (N i) (D i) 0) :
    Calls Try.prog 8 #[.int .i64 a, .slice A n cap] w (ExactRes w n N D) := by
  have ct := fun w h => together_any A n cap zs zs.sum 0 w hn (by omega) hf h (.inr (.inr ⟨by omega, hp, .inr (.inr ⟨hs, fs, rfl, rfl⟩)⟩))
  obtain ⟨b, off, rfl, hb, hcell⟩ := hr.resolve_left (by intro e; rw [e] at hn; simp at hn; omega)
  have M : MayBe (wt zs) n := by rw [← hn]; exact may_list hp hs
  have te : tot (wt zs) n = zs.sum := by rw [← hn]; exact sm_list zs
  obtain ⟨t, ht⟩ : ∃ t, t = zs.sum := ⟨_, rfl⟩
  rw [← ht] at ct te hs fs R
  obtain ⟨x, hx⟩ : ∃ x, x = wt zs := ⟨_, rfl⟩
  have hcell2 : ∀ i, i < n → w.cell? ⟨b, off + i, none⟩ = some (.int .i64 (x i)) := fun i hi => by rw [hx]; exact hcell i (by omega)
  have fx : ∀ i, i < n → Fit1 (x i) := fun i hi => by rw [hx]; exact hf _ (getD_mem (by omega))
  rw [← hx] at M te R
  have CM : Hid (∀ i, i < n → ∃ N1 D1, (∀ W, Calls Try.prog 20 #[.int .i64 (x i), .int .i64 t] W fun e w' => e = .returned (.tuple #[.agg #[.int .i64 N1, .int .i64 D1], .int .i64 0]) ∧ Below W.heap.size W w') ∧
      (∀ W, Calls Try.prog 21 #[.agg #[.int .i64 a, .int .i64 1], .agg #[.int .i64 N1, .int .i64 D1]] W fun e w' => e = .returned (.tuple #[.agg #[.int .i64 (N i), .int .i64 (D i)], .int .i64 0]) ∧ Below W.heap.size W w')) :=
    Lib.hid (fun i hi => by
      obtain ⟨N1, D1, m1, f1, f2, o1⟩ := share_op (a := a) (M.1 i hi) (by have := w_le M hi; rw [te] at this; exact this) hs fs (R i hi)
      exact ⟨N1, D1, fun W => Qc.Make_any (x i) t N1 D1 0 W (fx i hi) fs m1, fun W => Qc.Mul_op a 1 N1 D1 (N i) (D i) 0 W fa (by unfold Fit1; omega) f1 f2 o1⟩)
  have HX := Lib.hid hcell2
  have ct0 := ct w hr
  obtain ⟨cs, hmk, hrow⟩ := make_rowp n (by omega)
  have HR := Lib.hid hrow
  clear ct hcell hcell2 M te fx hr hp hf hn ht hx hs fs hrow R fa
  go_enter Try.func8, Try.ntmps8
  go_wp2_with fail
  refine ct0.mono ?_
  rintro e w1 ⟨rfl, hb1⟩
  have R1 := HR.out w1
  have B1 := balloc hb1 (.cells cs 50)
  have SZ := hb1.size
  clear ct0
  go_wp2_with fail
  generalize w1.alloc (.cells cs 50) = W2 at R1 B1 ⊢
  generalize w1.heap.size = G at R1 SZ ⊢
  clear hmk hb1
  go_loopw [26] (fun Y wr => ∃ k : Nat, k ≤ n ∧ Y = .int .i64 k ∧ Below w.heap.size w wr ∧ Rowp wr G n (fun i => if i < k then N i else 0) (fun i => if i < k then D i else 0)) (fun Y _ => n - (intOf Y).toNat)
  case atStart => exact ⟨0, by omega, rfl, B1, R1.congr (fun i _ => by simp) (fun i _ => by simp)⟩
  case round =>
    clear R1 B1
    obtain ⟨k, hk, rfl, B1, R1⟩ := hrel
    by_cases hlt : k < n
    · have hc := (B1.cell (p := ⟨b, off + k, none⟩) hb).trans (HX.out k hlt)
      obtain ⟨N1, D1, c1, c2⟩ := CM.out k hlt
      generalize x k = xk at hc c1
      go_wp2_with fail
      refine (c1 _).mono ?_
      rintro e w2 ⟨rfl, hb2⟩
      replace B1 := bthen B1 hb2
      replace R1 := R1.kept hb2
      clear hb2 hc c1
      go_wp2_with fail
      refine (c2 _).mono ?_
      rintro e w3 ⟨rfl, hb2⟩
      have A3 : Below w2.heap.size w2 (w2.alloc (.cells #[.int .i64 N1, .int .i64 D1] 50)) := balloc (Below.refl _ _) _
      replace B1 := bthen (balloc B1 _) hb2
      replace R1 := (R1.kept A3).kept hb2
      clear hb2 A3 c2
      have X := (R1.set hlt (N k) (D k)).congr (f' := fun i => if i < k + 1 then N i else 0) (d' := fun i => if i < k + 1 then D i else 0) (fun i _ => by
        by_cases e1 : i = k
        · subst e1; rw [if_pos rfl, if_pos (by omega)]
        · by_cases e2 : i < k
          · rw [if_neg e1, if_pos e2, if_pos (by omega)]
          · rw [if_neg e1, if_neg e2, if_neg (by omega)]) (fun i _ => by
        by_cases e1 : i = k
        · subst e1; rw [if_pos rfl, if_pos (by omega)]
        · by_cases e2 : i < k
          · rw [if_neg e1, if_pos e2, if_pos (by omega)]
          · rw [if_neg e1, if_neg e2, if_neg (by omega)])
      have B2 := bset (bset B1 SZ (k * 2) (.int .i64 (N k))) SZ (k * 2 + 1) (.int .i64 (D k))
      have p0 := R1.c0 k hlt
      have p1 := R1.c1 k hlt
      have z0 := R1.z0 k hlt
      have z1 := R1.z1 k hlt
      generalize (if k < k then N k else 0) = u0 at p0
      generalize (if k < k then D k else 0) = u1 at p1
      generalize N k = Nk at X B2 ⊢
      generalize D k = Dk at X B2 ⊢
      have pp : (0 : Int) ≤ (k : Int) := by omega
      have bp : (k : Int) < (n : Int) := by omega
      clear R1 B1
      go_wp2
      go_roundw
      case rel => exact ⟨k + 1, by omega, by go_num, B2, X⟩
      case measure => simp [intOf] <;> omega
    · obtain rfl : k = n := by omega
      have Y : ExactRes w k N D (.returned (.tuple #[.slice (some ⟨G, 0, none⟩) k k, .int .i64 0])) _ := ⟨G, rfl, R1.congr (fun i hi => by simp only [hi, if_true]) (fun i hi => by simp only [hi, if_true]), SZ, B1⟩
      have HY := Lib.hid Y
      clear Y R1 B1
      go_wp2
      exact bodyPost_ret (v := .tuple #[.slice (some ⟨G, 0, none⟩) k k, .int .i64 0]) (by simp [results, Try.results8, go_sem]) rfl HY.out

set_option maxRecDepth 100000 in
theorem exact_over (A : Option Addr) (n cap : Nat) (zs : List Int) (a : Int) (N D : Nat → Int) (k0 : Nat) (hk0 : k0 < n) (w : World) (hn : zs.length = n) (n0 : 0 < n) (n1 : n ≤ 4096) (fa : Fit1 a) (hf : ∀ z ∈ zs, Fit1 z) (hr : Rd w w.heap.size A zs) (hp : ∀ z ∈ zs, 0 ≤ z) (hs : 0 < zs.sum) (fs : Fit1 zs.sum)
    (R : ∀ i, i < k0 → Rat1 (a * wt zs i) zs.sum (N i) (D i) 0) (RE : Rat1 (a * wt zs k0) zs.sum 0 0 2) :
    Calls Try.prog 8 #[.int .i64 a, .slice A n cap] w fun e w' => e = .returned (.tuple #[.slice none 0 0, .int .i64 2]) ∧ Below w.heap.size w w' := by
  have ct := fun w h => together_any A n cap zs zs.sum 0 w hn (by omega) hf h (.inr (.inr ⟨by omega, hp, .inr (.inr ⟨hs, fs, rfl, rfl⟩)⟩))
  obtain ⟨b, off, rfl, hb, hcell⟩ := hr.resolve_left (by intro e; rw [e] at hn; simp at hn; omega)
  have M : MayBe (wt zs) n := by rw [← hn]; exact may_list hp hs
  have te : tot (wt zs) n = zs.sum := by rw [← hn]; exact sm_list zs
  obtain ⟨t, ht⟩ : ∃ t, t = zs.sum := ⟨_, rfl⟩
  rw [← ht] at ct te hs fs R RE
  obtain ⟨x, hx⟩ : ∃ x, x = wt zs := ⟨_, rfl⟩
  have hcell2 : ∀ i, i < n → w.cell? ⟨b, off + i, none⟩ = some (.int .i64 (x i)) := fun i hi => by rw [hx]; exact hcell i (by omega)
  have fx : ∀ i, i < n → Fit1 (x i) := fun i hi => by rw [hx]; exact hf _ (getD_mem (by omega))
  rw [← hx] at M te R RE
  have CM : Hid (∀ i, i < k0 → ∃ N1 D1, (∀ W, Calls Try.prog 20 #[.int .i64 (x i), .int .i64 t] W fun e w' => e = .returned (.tuple #[.agg #[.int .i64 N1, .int .i64 D1], .int .i64 0]) ∧ Below W.heap.size W w') ∧
      (∀ W, Calls Try.prog 21 #[.agg #[.int .i64 a, .int .i64 1], .agg #[.int .i64 N1, .int .i64 D1]] W fun e w' => e = .returned (.tuple #[.agg #[.int .i64 (N i), .int .i64 (D i)], .int .i64 0]) ∧ Below W.heap.size W w')) :=
    Lib.hid (fun i hi => by
      obtain ⟨N1, D1, m1, f1, f2, o1⟩ := share_op (a := a) (M.1 i (by omega)) (by have := w_le M (show i < n by omega); rw [te] at this; exact this) hs fs (R i hi)
      exact ⟨N1, D1, fun W => Qc.Make_any (x i) t N1 D1 0 W (fx i (by omega)) fs m1, fun W => Qc.Mul_op a 1 N1 D1 (N i) (D i) 0 W fa (by unfold Fit1; omega) f1 f2 o1⟩)
  have CE : Hid (∃ N1 D1, (∀ W, Calls Try.prog 20 #[.int .i64 (x k0), .int .i64 t] W fun e w' => e = .returned (.tuple #[.agg #[.int .i64 N1, .int .i64 D1], .int .i64 0]) ∧ Below W.heap.size W w') ∧
      (∀ W, Calls Try.prog 21 #[.agg #[.int .i64 a, .int .i64 1], .agg #[.int .i64 N1, .int .i64 D1]] W fun e w' => e = .returned (.tuple #[.agg #[.int .i64 0, .int .i64 0], .int .i64 2]) ∧ Below W.heap.size W w')) :=
    Lib.hid (by
      obtain ⟨N1, D1, m1, f1, f2, o1⟩ := share_op (a := a) (M.1 k0 hk0) (by have := w_le M hk0; rw [te] at this; exact this) hs fs RE
      exact ⟨N1, D1, fun W => Qc.Make_any (x k0) t N1 D1 0 W (fx k0 hk0) fs m1, fun W => Qc.Mul_op a 1 N1 D1 0 0 2 W fa (by unfold Fit1; omega) f1 f2 o1⟩)
  have HX := Lib.hid hcell2
  have ct0 := ct w hr
  obtain ⟨cs, hmk, hrow⟩ := make_rowp n (by omega)
  have HR := Lib.hid hrow
  clear ct hcell hcell2 M te fx hr hp hf hn ht hx hs fs hrow R RE fa
  go_enter Try.func8, Try.ntmps8
  go_wp2_with fail
  refine ct0.mono ?_
  rintro e w1 ⟨rfl, hb1⟩
  have R1 := HR.out w1
  have B1 := balloc hb1 (.cells cs 50)
  have SZ := hb1.size
  clear ct0
  go_wp2_with fail
  generalize w1.alloc (.cells cs 50) = W2 at R1 B1 ⊢
  generalize w1.heap.size = G at R1 SZ ⊢
  clear hmk hb1
  go_loopw [26] (fun Y wr => ∃ k : Nat, k ≤ k0 ∧ Y = .int .i64 k ∧ Below w.heap.size w wr ∧ Rowp wr G n (fun i => if i < k then N i else 0) (fun i => if i < k then D i else 0)) (fun Y _ => n - (intOf Y).toNat)
  case atStart => exact ⟨0, by omega, rfl, B1, R1.congr (fun i _ => by simp) (fun i _ => by simp)⟩
  case round =>
    clear R1 B1
    obtain ⟨k, hk, rfl, B1, R1⟩ := hrel
    by_cases hlt0 : k < k0
    · have hlt : k < n := by omega
      have hc := (B1.cell (p := ⟨b, off + k, none⟩) hb).trans (HX.out k hlt)
      obtain ⟨N1, D1, c1, c2⟩ := CM.out k hlt0
      generalize x k = xk at hc c1
      go_wp2_with fail
      refine (c1 _).mono ?_
      rintro e w2 ⟨rfl, hb2⟩
      replace B1 := bthen B1 hb2
      replace R1 := R1.kept hb2
      clear hb2 hc c1
      go_wp2_with fail
      refine (c2 _).mono ?_
      rintro e w3 ⟨rfl, hb2⟩
      have A3 : Below w2.heap.size w2 (w2.alloc (.cells #[.int .i64 N1, .int .i64 D1] 50)) := balloc (Below.refl _ _) _
      replace B1 := bthen (balloc B1 _) hb2
      replace R1 := (R1.kept A3).kept hb2
      clear hb2 A3 c2
      have X := (R1.set hlt (N k) (D k)).congr (f' := fun i => if i < k + 1 then N i else 0) (d' := fun i => if i < k + 1 then D i else 0) (fun i _ => by
        by_cases e1 : i = k
        · subst e1; rw [if_pos rfl, if_pos (by omega)]
        · by_cases e2 : i < k
          · rw [if_neg e1, if_pos e2, if_pos (by omega)]
          · rw [if_neg e1, if_neg e2, if_neg (by omega)]) (fun i _ => by
        by_cases e1 : i = k
        · subst e1; rw [if_pos rfl, if_pos (by omega)]
        · by_cases e2 : i < k
          · rw [if_neg e1, if_pos e2, if_pos (by omega)]
          · rw [if_neg e1, if_neg e2, if_neg (by omega)])
      have B2 := bset (bset B1 SZ (k * 2) (.int .i64 (N k))) SZ (k * 2 + 1) (.int .i64 (D k))
      have p0 := R1.c0 k hlt
      have p1 := R1.c1 k hlt
      have z0 := R1.z0 k hlt
      have z1 := R1.z1 k hlt
      generalize (if k < k then N k else 0) = u0 at p0
      generalize (if k < k then D k else 0) = u1 at p1
      generalize N k = Nk at X B2 ⊢
      generalize D k = Dk at X B2 ⊢
      have pp : (0 : Int) ≤ (k : Int) := by omega
      have bp : (k : Int) < (n : Int) := by omega
      clear R1 B1
      go_wp2
      go_roundw
      case rel => exact ⟨k + 1, by omega, by go_num, B2, X⟩
      case measure => simp [intOf] <;> omega
    · obtain rfl : k = k0 := by omega
      have hc := (B1.cell (p := ⟨b, off + k, none⟩) hb).trans (HX.out k hk0)
      obtain ⟨N1, D1, c1, c2⟩ := CE.out
      generalize x k = xk at hc c1
      go_wp2_with fail
      refine (c1 _).mono ?_
      rintro e w2 ⟨rfl, hb2⟩
      replace B1 := bthen B1 hb2
      replace R1 := R1.kept hb2
      clear hb2 hc c1
      go_wp2_with fail
      refine (c2 _).mono ?_
      rintro e w3 ⟨rfl, hb2⟩
      have A3 : Below w2.heap.size w2 (w2.alloc (.cells #[.int .i64 N1, .int .i64 D1] 50)) := balloc (Below.refl _ _) _
      replace B1 := bthen (balloc B1 _) hb2
      replace R1 := (R1.kept A3).kept hb2
      clear hb2 A3 c2
      have B2 := bset (bset B1 SZ (k * 2) (.int .i64 0)) SZ (k * 2 + 1) (.int .i64 0)
      have p0 := R1.c0 k hk0
      have p1 := R1.c1 k hk0
      have z0 := R1.z0 k hk0
      have z1 := R1.z1 k hk0
      generalize (if k < k then N k else 0) = u0 at p0
      generalize (if k < k then D k else 0) = u1 at p1
      have pp : (0 : Int) ≤ (k : Int) := by omega
      have bp : (k : Int) < (n : Int) := by omega
      clear R1 B1
      go_wp2
      go_ret2
      exact ⟨rfl, B2⟩

theorem exact_no (A : Option Addr) (n cap : Nat) (zs : List Int) (a v er : Int) (w : World) (hn : zs.length = n) (hm2 : (n : Int) ≤ 9223372036854775807) (hf : ∀ z ∈ zs, Fit1 z) (hr : Rd w w.heap.size A zs) (R : AllRes zs v er) (h : er ≠ 0) :
    Calls Try.prog 8 #[.int .i64 a, .slice A n cap] w fun e w' => e = .returned (.tuple #[.slice none 0 0, .int .i64 er]) ∧ Below w.heap.size w w' := by
  have ct := together_any A n cap zs v er w hn hm2 hf hr R
  have d : (er != 0) = true := bne_iff_ne.2 h
  clear R h hf hr hn
  go_enter Try.func8, Try.ntmps8
  go_wp2_with fail
  refine ct.mono ?_
  rintro e w1 ⟨rfl, hb1⟩
  go_wp2
  go_ret2
  exact ⟨rfl, hb1⟩

end Go.Proofs.Ytodpmdmfdnbehab.Sr

/- What the reference's functions of layer 1 come to. -/
namespace Go.Proofs.Ytodpmdmfdnbehab.Wr
set_option linter.unusedSimpArgs false
set_option linter.unusedVariables false
open Go.RowKit Go.Proofs.Ytodpmdmfdnbehab.Wm Go.Proofs.Ytodpmdmfdnbehab.Wc

set_option maxHeartbeats 400000

theorem size_any (a : Int) (w : World) (h : Fit a) :
    Calls Try.prog 44 #[.int .i64 a] w fun e w' => e = .returned (.int .u64 (a.natAbs : Int)) ∧ w = w' := by
  unfold Fit at h
  obtain ⟨h1, h2⟩ := h
  by_cases c : a < 0
  · have e1 : (a.natAbs : Int) = -(a + 1) + 1 := by omega
    rw [e1]
    clear e1
    go_enter Try.func44, Try.ntmps44
    go_wp2
    go_ret
    exact ⟨rfl, rfl⟩
  · have e1 : (a.natAbs : Int) = a := by omega
    rw [e1]
    clear e1
    go_enter Try.func44, Try.ntmps44
    go_wp2
    go_ret
    exact ⟨rfl, rfl⟩

/-- a size that is small enough, with its sign -/
theorem signed_yes (n : Int) (s : Bool) (w : World) (h0 : 0 ≤ n) (h : n ≤ 9223372036854775807) :
    Calls Try.prog 69 #[.int .u64 n, .bool s] w fun e w' => e = .returned (.tuple #[.int .i64 (if s then -n else n), .int .i64 0]) ∧ w = w' := by
  have d1 : (n == 9223372036854775808) = false := beq_eq_false_iff_ne.2 (by omega)
  cases s
  all_goals
    go_enter Try.func69, Try.ntmps69
    go_wp2
    go_ret2
    exact ⟨rfl, rfl⟩

theorem signed_least (w : World) :
    Calls Try.prog 69 #[.int .u64 9223372036854775808, .bool true] w fun e w' => e = .returned (.tuple #[.int .i64 (-9223372036854775808), .int .i64 0]) ∧ w = w' := by
  go_enter Try.func69, Try.ntmps69
  go_wp2
  go_ret2
  exact ⟨rfl, rfl⟩

theorem signed_no (n : Int) (s : Bool) (w : World) (h0 : 9223372036854775808 ≤ n) (h : n ≤ 18446744073709551615) (hs : s = false ∨ n ≠ 9223372036854775808) :
    Calls Try.prog 69 #[.int .u64 n, .bool s] w fun e w' => e = .returned (.tuple #[.int .i64 0, .int .i64 2]) ∧ w = w' := by
  have h1 : 9223372036854775807 < n := by omega
  clear h0
  cases s
  · clear hs
    go_enter Try.func69, Try.ntmps69
    go_wp2
    go_ret2
    exact ⟨rfl, rfl⟩
  · have d1 : (n == 9223372036854775808) = false := beq_eq_false_iff_ne.2 (by rcases hs with h | h; exact absurd h (by decide); exact h)
    clear hs
    go_enter Try.func69, Try.ntmps69
    go_wp2
    go_ret2
    exact ⟨rfl, rfl⟩

theorem nat_beq {n : Nat} (h : n ≠ 0) : ((n : Int) != 0) = true := by rw [bne_iff_ne]; omega

end Go.Proofs.Ytodpmdmfdnbehab.Wr

/- What the reference's Mul comes to: products of halves. -/
namespace Go.Proofs.Ytodpmdmfdnbehab.Wr
set_option linter.unusedSimpArgs false
set_option linter.unusedVariables false
open Go.RowKit Go.Proofs.Ytodpmdmfdnbehab.Wm Go.Proofs.Ytodpmdmfdnbehab.Wc

set_option maxHeartbeats 400000

theorem low_half (x : Nat) (h : x ≤ 9223372036854775808) : bits .and .u64 (x : Int) 4294967295 = ((x % 4294967296 : Nat) : Int) := by
  have h1 := u64_and_nat x 4294967295 (by omega) (by omega)
  have h2 : x &&& 4294967295 = x % 4294967296 := Nat.and_two_pow_sub_one_eq_mod x 32
  rw [h2] at h1
  exact h1

/-- the product by halves -/
theorem halves (xh xl yh yl : Nat) : (xh * 4294967296 + xl) * (yh * 4294967296 + yl) = xh * yh * 18446744073709551616 + (xh * yl + xl * yh) * 4294967296 + xl * yl := by
  simp only [Nat.add_mul, Nat.mul_add]
  have e1 : xh * 4294967296 * (yh * 4294967296) = xh * yh * 18446744073709551616 := by
    rw [Nat.mul_mul_mul_comm]
  have e2 : xh * 4294967296 * yl = xh * yl * 4294967296 := by rw [Nat.mul_right_comm]
  have e3 : xl * (yh * 4294967296) = xl * yh * 4294967296 := by rw [Nat.mul_assoc]
  omega

/-- a product's sign and size -/
theorem signed_prod (a b : Int) : a * b = (if (decide (a < 0) != decide (b < 0)) then -((a.natAbs * b.natAbs : Nat) : Int) else ((a.natAbs * b.natAbs : Nat) : Int)) := by
  rw [Int.natCast_mul]
  by_cases h1 : a < 0 <;> by_cases h2 : b < 0
  · have ea : -a = (a.natAbs : Int) := by omega
    have eb : -b = (b.natAbs : Int) := by omega
    simp only [h1, h2, decide_true, bne_self_eq_false, Bool.false_eq_true, if_false]
    rw [← Int.neg_mul_neg, ea, eb]
  · have ea : a = -(a.natAbs : Int) := by omega
    have eb : b = (b.natAbs : Int) := by omega
    simp only [h1, h2, decide_true, decide_false]
    simp only [bne, BEq.beq]
    simp
    rw [← Int.neg_mul, ← ea, ← eb]
  · have ea : a = (a.natAbs : Int) := by omega
    have eb : b = -(b.natAbs : Int) := by omega
    simp only [h1, h2]
    simp
    rw [← Int.mul_neg, ← ea, ← eb]
  · have ea : a = (a.natAbs : Int) := by omega
    have eb : b = (b.natAbs : Int) := by omega
    simp only [h1, h2]
    simp
    rw [← ea, ← eb]

/-- what 'signed' makes of a product's size -/
theorem signed_of (a b : Int) (s : Bool) (hs : s = (decide (a < 0) != decide (b < 0))) (m : Int) (hm : m = ((a.natAbs * b.natAbs : Nat) : Int)) (hl : m ≤ 18446744073709551615) (v e1 : Int)
    (hv : (Fit (a * b) ∧ v = a * b ∧ e1 = 0) ∨ (¬ Fit (a * b) ∧ v = 0 ∧ e1 = 2)) (w : World) :
    Calls Try.prog 69 #[.int .u64 m, .bool s] w fun e w' => e = .returned (.tuple #[.int .i64 v, .int .i64 e1]) ∧ w = w' := by
  have hp := signed_prod a b
  rw [← hs, ← hm] at hp
  have h0 : 0 ≤ m := by omega
  rw [hp] at hv
  by_cases c1 : m ≤ 9223372036854775807
  · have hf : Fit (if s = true then -m else m) := by unfold Fit; split <;> omega
    rcases hv with ⟨_, rfl, rfl⟩ | ⟨h, _⟩
    · exact signed_yes m s w h0 c1
    · exact absurd hf h
  · by_cases c2 : s = true ∧ m = 9223372036854775808
    · obtain ⟨rfl, rfl⟩ := c2
      rcases hv with ⟨_, rfl, rfl⟩ | ⟨h, _⟩
      · exact signed_least w
      · exact absurd (by decide) h
    · have hf : ¬ Fit (if s = true then -m else m) := by
        unfold Fit
        cases s
        · simp; omega
        · simp at c2; simp; omega
      rcases hv with ⟨h, _⟩ | ⟨_, rfl, rfl⟩
      · exact absurd h hf
      · refine signed_no m s w (by omega) hl ?_
        cases s
        · exact Or.inl rfl
        · simp at c2; exact Or.inr c2

/-- a size that is beyond fits in no way -/
theorem beyond (a b : Int) (h : 18446744073709551616 ≤ a.natAbs * b.natAbs) (v e1 : Int)
    (hv : (Fit (a * b) ∧ v = a * b ∧ e1 = 0) ∨ (¬ Fit (a * b) ∧ v = 0 ∧ e1 = 2)) : v = 0 ∧ e1 = 2 := by
  rcases hv with ⟨h1, _⟩ | ⟨_, h2⟩
  · have : (a * b).natAbs = a.natAbs * b.natAbs := Int.natAbs_mul a b
    unfold Fit at h1; omega
  · exact h2

theorem rmul_any (a b : Int) (w : World) (ha : Fit a) (hb : Fit b) (v e1 : Int)
    (hv : (Fit (a * b) ∧ v = a * b ∧ e1 = 0) ∨ (¬ Fit (a * b) ∧ v = 0 ∧ e1 = 2)) :
    Calls Try.prog 63 #[.int .i64 a, .int .i64 b] w fun e w' => e = .returned (.tuple #[.int .i64 v, .int .i64 e1]) ∧ w = w' := by
  have ba : a.natAbs ≤ 9223372036854775808 := by unfold Fit at ha; omega
  have bb : b.natAbs ≤ 9223372036854775808 := by unfold Fit at hb; omega
  have c1 := fun w => size_any a w ha
  have c2 := fun w => size_any b w hb
  have sg := fun m s w hs hm hl => signed_of a b s hs m hm hl v e1 hv w
  have big := fun h => beyond a b h v e1 hv
  clear hv ha hb
  generalize a.natAbs = x at *
  generalize b.natAbs = y at *
  have kx := low_half x ba
  have ky := low_half y bb
  have jx : (x : Int) / 4294967296 = ((x / 4294967296 : Nat) : Int) := by omega
  have jy : (y : Int) / 4294967296 = ((y / 4294967296 : Nat) : Int) := by omega
  have ex : x = x / 4294967296 * 4294967296 + x % 4294967296 := by omega
  have ey : y = y / 4294967296 * 4294967296 + y % 4294967296 := by omega
  have bx1 : x / 4294967296 ≤ 2147483648 := by omega
  have by1 : y / 4294967296 ≤ 2147483648 := by omega
  have bx2 : x % 4294967296 ≤ 4294967295 := by omega
  have by2 : y % 4294967296 ≤ 4294967295 := by omega
  generalize x / 4294967296 = xh at *
  generalize y / 4294967296 = yh at *
  generalize x % 4294967296 = xl at *
  generalize y % 4294967296 = yl at *
  have prod : x * y = xh * yh * 18446744073709551616 + (xh * yl + xl * yh) * 4294967296 + xl * yl := by rw [ex, ey]; exact halves xh xl yh yl
  have m1 : xh * yl ≤ 2147483648 * 4294967295 := Nat.mul_le_mul bx1 by2
  have m2 : xl * yh ≤ 4294967295 * 2147483648 := Nat.mul_le_mul bx2 by1
  have m3 : xl * yl ≤ 4294967295 * 4294967295 := Nat.mul_le_mul bx2 by2
  clear ex ey
  have p1 : (0 : Int) ≤ (xh : Int) * (yl : Int) ∧ (xh : Int) * (yl : Int) ≤ 9223372034707292160 := by
    have : (xh : Int) * (yl : Int) = ((xh * yl : Nat) : Int) := (Int.natCast_mul _ _).symm
    omega
  have p2 : (0 : Int) ≤ (xl : Int) * (yh : Int) ∧ (xl : Int) * (yh : Int) ≤ 9223372034707292160 := by
    have : (xl : Int) * (yh : Int) = ((xl * yh : Nat) : Int) := (Int.natCast_mul _ _).symm
    omega
  have p3 : (0 : Int) ≤ (xl : Int) * (yl : Int) ∧ (xl : Int) * (yl : Int) ≤ 18446744065119617025 := by
    have : (xl : Int) * (yl : Int) = ((xl * yl : Nat) : Int) := (Int.natCast_mul _ _).symm
    omega
  by_cases zx : xh = 0
  · subst zx
    rw [Nat.zero_mul, Nat.zero_mul, Nat.zero_mul, Nat.zero_add, Nat.zero_add] at prod
    replace jx : (x : Int) / 4294967296 = 0 := jx
    have hH : (xl : Int) * (yh : Int) = ((xl * yh : Nat) : Int) := (Int.natCast_mul _ _).symm
    have hD : (xl : Int) * (yl : Int) = ((xl * yl : Nat) : Int) := (Int.natCast_mul _ _).symm
    by_cases k1 : 4294967296 ≤ xl * yh
    · obtain ⟨rfl, rfl⟩ := big (by omega)
      have d1 : ((xl : Int) * (yh : Int) / 4294967296 != 0) = true := by rw [bne_iff_ne]; omega
      clear prod sg big m1 m2 m3 hH hD k1
      go_enter Try.func63, Try.ntmps63
      go_wp2_with fail
      refine (c1 _).mono ?_
      rintro e w' ⟨rfl, rfl⟩
      go_wp2_with fail
      refine (c2 _).mono ?_
      rintro e w' ⟨rfl, rfl⟩
      go_wp2_with fail
      go_ret2
      exact ⟨rfl, rfl⟩
    · have d1 : ((xl : Int) * (yh : Int) / 4294967296 != 0) = false := by rw [bne_eq_false_iff_eq]; omega
      have k2 : (xl : Int) * (yh : Int) ≤ 4294967295 := by omega
      by_cases k3 : (xl : Int) * (yh : Int) * 4294967296 + (xl : Int) * (yl : Int) ≤ 18446744073709551615
      · have ct := fun s w hs => sg ((xl : Int) * (yh : Int) * 4294967296 + (xl : Int) * (yl : Int)) s w hs (by omega) k3
        clear prod sg big m1 m2 m3 hH hD k1
        go_enter Try.func63, Try.ntmps63
        go_wp2_with fail
        refine (c1 _).mono ?_
        rintro e w' ⟨rfl, rfl⟩
        go_wp2_with fail
        refine (c2 _).mono ?_
        rintro e w' ⟨rfl, rfl⟩
        go_wp2_with fail
        refine (ct _ _ rfl).mono ?_
        rintro e w' ⟨rfl, rfl⟩
        go_wp2
        go_ret2
        exact ⟨rfl, rfl⟩
      · have o1 : IntKind.u64.wrap ((xl : Int) * (yh : Int) * 4294967296 + (xl : Int) * (yl : Int)) < (xl : Int) * (yl : Int) := by rw [IntKind.wrap_u64]; omega
        obtain ⟨rfl, rfl⟩ := big (by omega)
        clear prod sg big m1 m2 m3 hH hD k1 k3
        go_enter Try.func63, Try.ntmps63
        go_wp2_with fail
        refine (c1 _).mono ?_
        rintro e w' ⟨rfl, rfl⟩
        go_wp2_with fail
        refine (c2 _).mono ?_
        rintro e w' ⟨rfl, rfl⟩
        go_wp2_with fail
        go_ret2
        exact ⟨rfl, rfl⟩
  · by_cases zy : yh = 0
    · subst zy
      rw [Nat.mul_zero, Nat.mul_zero, Nat.zero_mul, Nat.add_zero, Nat.zero_add] at prod
      replace jy : (y : Int) / 4294967296 = 0 := jy
      have d0 : ((xh : Int) != 0) = true := nat_beq zx
      have hH : (xh : Int) * (yl : Int) = ((xh * yl : Nat) : Int) := (Int.natCast_mul _ _).symm
      have hD : (xl : Int) * (yl : Int) = ((xl * yl : Nat) : Int) := (Int.natCast_mul _ _).symm
      by_cases k1 : 4294967296 ≤ xh * yl
      · obtain ⟨rfl, rfl⟩ := big (by omega)
        have d1 : ((xh : Int) * (yl : Int) / 4294967296 != 0) = true := by rw [bne_iff_ne]; omega
        clear prod sg big m1 m2 m3 hH hD k1 zx
        go_enter Try.func63, Try.ntmps63
        go_wp2_with fail
        refine (c1 _).mono ?_
        rintro e w' ⟨rfl, rfl⟩
        go_wp2_with fail
        refine (c2 _).mono ?_
        rintro e w' ⟨rfl, rfl⟩
        go_wp2_with fail
        go_ret2
        exact ⟨rfl, rfl⟩
      · have d1 : ((xh : Int) * (yl : Int) / 4294967296 != 0) = false := by rw [bne_eq_false_iff_eq]; omega
        have k2 : (xh : Int) * (yl : Int) ≤ 4294967295 := by omega
        by_cases k3 : (xh : Int) * (yl : Int) * 4294967296 + (xl : Int) * (yl : Int) ≤ 18446744073709551615
        · have ct := fun s w hs => sg ((xh : Int) * (yl : Int) * 4294967296 + (xl : Int) * (yl : Int)) s w hs (by omega) k3
          clear prod sg big m1 m2 m3 hH hD k1 zx
          go_enter Try.func63, Try.ntmps63
          go_wp2_with fail
          refine (c1 _).mono ?_
          rintro e w' ⟨rfl, rfl⟩
          go_wp2_with fail
          refine (c2 _).mono ?_
          rintro e w' ⟨rfl, rfl⟩
          go_wp2_with fail
          refine (ct _ _ rfl).mono ?_
          rintro e w' ⟨rfl, rfl⟩
          go_wp2
          go_ret2
          exact ⟨rfl, rfl⟩
        · have o1 : IntKind.u64.wrap ((xh : Int) * (yl : Int) * 4294967296 + (xl : Int) * (yl : Int)) < (xl : Int) * (yl : Int) := by rw [IntKind.wrap_u64]; omega
          obtain ⟨rfl, rfl⟩ := big (by omega)
          clear prod sg big m1 m2 m3 hH hD k1 k3 zx
          go_enter Try.func63, Try.ntmps63
          go_wp2_with fail
          refine (c1 _).mono ?_
          rintro e w' ⟨rfl, rfl⟩
          go_wp2_with fail
          refine (c2 _).mono ?_
          rintro e w' ⟨rfl, rfl⟩
          go_wp2_with fail
          go_ret2
          exact ⟨rfl, rfl⟩
    · have q1 : 1 * 1 ≤ xh * yh := Nat.mul_le_mul (by omega) (by omega)
      obtain ⟨rfl, rfl⟩ := big (by omega)
      have d1 : ((xh : Int) != 0) = true := nat_beq zx
      have d2 : ((yh : Int) != 0) = true := nat_beq zy
      clear prod sg big m1 m2 m3 q1 zx zy
      go_enter Try.func63, Try.ntmps63
      go_wp2_with fail
      refine (c1 _).mono ?_
      rintro e w' ⟨rfl, rfl⟩
      go_wp2_with fail
      refine (c2 _).mono ?_
      rintro e w' ⟨rfl, rfl⟩
      go_wp2_with fail
      go_ret2
      exact ⟨rfl, rfl⟩

end Go.Proofs.Ytodpmdmfdnbehab.Wr

/- What common, Check, may and Make of the reference of layer 3 come to. -/
namespace Go.Proofs.Ytodpmdmfdnbehab.Kc
set_option linter.unusedSimpArgs false
set_option linter.unusedVariables false
open Go.RowKit Go.Proofs.Ytodpmdmfdnbehab.Vm Go.Proofs.Ytodpmdmfdnbehab.Vc Go.Proofs.Ytodpmdmfdnbehab.Pr Go.Proofs.Ytodpmdmfdnbehab.Qm

set_option maxHeartbeats 400000

theorem quiet_same {P : Program} {f : FuncId} {args : Array Value} {w : World} {n : Nat} {v : Value}
    (h : Calls P f args (w.drewN n) fun e w' => e = .returned v ∧ w.drewN n = w') : Calls P f args (w.drewN n) fun e w'' => e = .returned v ∧ ∃ m, w'' = w.drewN m :=
  h.mono fun _ _ ⟨he, hm⟩ => ⟨he, n, hm.symm⟩

theorem gcd_abs (a b : Int) : Int.gcd (a.natAbs : Int) b = Int.gcd a b := by simp [Int.gcd]

theorem gcd_rem (a b : Int) : Int.gcd b (a % b) = Int.gcd a b := by
  rw [Int.gcd_comm]
  conv => rhs; rw [← Int.mul_ediv_add_emod a b]
  rw [Int.gcd_mul_left_add_left]

theorem common_any (a b G : Int) (w : World) (a0 : 0 ≤ a) (a1 : a ≤ 18446744073709551615) (b0 : 0 ≤ b) (b1 : b ≤ 18446744073709551615) (hG : G = (Int.gcd a b : Int)) :
    Calls Try.prog 43 #[.int .u64 a, .int .u64 b] w fun e w' => e = .returned (.int .u64 G) ∧ w = w' := by
  have HG := Lib.hid hG
  clear hG
  go_enter Try.func43, Try.ntmps43
  go_wp2
  go_loop [0, 1] (fun x y => ∃ p q : Int, x = .int .u64 p ∧ y = .int .u64 q ∧ 0 ≤ p ∧ p ≤ 18446744073709551615 ∧ 0 ≤ q ∧ q ≤ 18446744073709551615 ∧ Hid (Int.gcd p q = Int.gcd a b)) (fun _ y => (intOf y).toNat)
  case atStart => exact ⟨a, b, rfl, rfl, a0, a1, b0, b1, Lib.hid rfl⟩
  case round =>
    obtain ⟨p, q, rfl, rfl, p0, p1, q0, q1, hg⟩ := hrel
    by_cases hz : q = 0
    · subst hz
      have hp : p = G := by
        have h1 := hg.out
        rw [Int.gcd_zero_right] at h1
        rw [HG.out, ← h1]; omega
      subst hp
      clear hg HG
      go_wp2
      go_ret
      exact ⟨rfl, rfl⟩
    · have d0 : (q != 0) = true := by rw [bne_iff_ne]; exact hz
      have hs := Lib.hid ((gcd_rem p q).trans hg.out)
      have r0 := Int.emod_nonneg p hz
      have r1 := Int.emod_lt_of_pos p (b := q) (by omega)
      go_wp2
      go_round
      case rel => exact ⟨q, p % q, rfl, rfl, q0, q1, r0, by omega, hs⟩
      case measure => simp [intOf]; omega

theorem rCheck_yes (N D : Int) (w : World) (fN : Fit1 N) (fD : Fit1 D) (h : Low N D) :
    Calls Try.prog 62 #[.agg #[.int .i64 N, .int .i64 D]] w fun e w' => e = .returned (.int .i64 0) ∧ Below w.heap.size w w' := by
  have cs := fun w => Vr.rsize_any N w fN
  have D0 : 0 ≤ D := by have := h.1; omega
  have D1 : D ≤ 9223372036854775807 := fD.2
  have cc := fun w => common_any (N.natAbs : Int) D 1 w (by omega) (by unfold Fit1 at fN; omega) D0 (by omega) (by rw [gcd_abs, h.2]; rfl)
  have d1 : decide (D < 1) = false := decide_eq_false (by have := h.1; omega)
  clear h fN fD
  generalize (N.natAbs : Int) = x at *
  go_enter Try.func62, Try.ntmps62
  go_wp2
  go_quiet ((first | (go_at_call 44; exact quiet_same (cs _)) | (go_at_call 43; exact quiet_same (cc _))))
  go_wp2
  go_ret
  exact ⟨rfl, bdrewN (balloc (Below.refl _ w) _) _⟩

theorem rCheck_no (N D : Int) (w : World) (fN : Fit1 N) (fD : Fit1 D) (h : ¬ Low N D) :
    Calls Try.prog 62 #[.agg #[.int .i64 N, .int .i64 D]] w fun e w' => e = .returned (.int .i64 1) ∧ Below w.heap.size w w' := by
  by_cases c : D < 1
  · have d1 : decide (D < 1) = true := decide_eq_true c
    clear h fN fD
    go_enter Try.func62, Try.ntmps62
    go_wp2
    go_quiet (fail)
    go_wp2
    go_ret
    exact ⟨rfl, bdrewN (balloc (Below.refl _ w) _) _⟩
  · have cs := fun w => Vr.rsize_any N w fN
    have D0 : 0 ≤ D := by omega
    have D1 : D ≤ 9223372036854775807 := fD.2
    obtain ⟨G, hG⟩ : ∃ G, G = (Int.gcd N D : Int) := ⟨_, rfl⟩
    have cc := fun w => common_any (N.natAbs : Int) D G w (by omega) (by unfold Fit1 at fN; omega) D0 (by omega) (by rw [gcd_abs, hG])
    have d1 : decide (D < 1) = false := decide_eq_false c
    have d2 : (G != 1) = true := by rw [bne_iff_ne]; intro e; exact h ⟨by omega, by omega⟩
    clear h fN fD hG
    generalize (N.natAbs : Int) = x at *
    go_enter Try.func62, Try.ntmps62
    go_wp2
    go_quiet ((first | (go_at_call 44; exact quiet_same (cs _)) | (go_at_call 43; exact quiet_same (cc _))))
    go_wp2
    go_ret
    exact ⟨rfl, bdrewN (balloc (Below.refl _ w) _) _⟩

theorem may_yes (a b c d : Int) (w : World) (fa : Fit1 a) (fb : Fit1 b) (fc : Fit1 c) (fd : Fit1 d) (h1 : Low a b) (h2 : Low c d) :
    Calls Try.prog 45 #[.agg #[.int .i64 a, .int .i64 b], .agg #[.int .i64 c, .int .i64 d]] w fun e w' => e = .returned (.int .i64 0) ∧ Below w.heap.size w w' := by
  have c1 := fun w => rCheck_yes a b w fa fb h1
  have c2 := fun w => rCheck_yes c d w fc fd h2
  clear h1 h2 fa fb fc fd
  go_enter Try.func45, Try.ntmps45
  go_wp2_with fail
  refine (c1 _).mono ?_
  rintro e w1 ⟨rfl, hb1⟩
  have P2 := (Two.new (w.alloc (.cells #[.int .i64 a, .int .i64 b] 50)) (.int .i64 c) (.int .i64 d) 50).kept hb1
  have B1 := bthen (balloc (balloc (Below.refl _ w) _) _) hb1
  clear hb1
  obtain ⟨z2, b0, b1, _, _⟩ := id P2
  simp only [World.size_alloc] at z2 b0 b1
  go_wp2_with fail
  refine (c2 _).mono ?_
  rintro e w2 ⟨rfl, hb1⟩
  replace B1 := bthen B1 hb1
  clear hb1 z2 b0 b1 P2
  go_wp2
  go_ret
  exact ⟨rfl, B1⟩

theorem may_no (a b c d : Int) (w : World) (fa : Fit1 a) (fb : Fit1 b) (fc : Fit1 c) (fd : Fit1 d) (h : ¬ (Low a b ∧ Low c d)) :
    Calls Try.prog 45 #[.agg #[.int .i64 a, .int .i64 b], .agg #[.int .i64 c, .int .i64 d]] w fun e w' => e = .returned (.int .i64 1) ∧ Below w.heap.size w w' := by
  by_cases h1 : Low a b
  · have c1 := fun w => rCheck_yes a b w fa fb h1
    have c2 := fun w => rCheck_no c d w fc fd (fun h2 => h ⟨h1, h2⟩)
    clear h h1 fa fb fc fd
    go_enter Try.func45, Try.ntmps45
    go_wp2_with fail
    refine (c1 _).mono ?_
    rintro e w1 ⟨rfl, hb1⟩
    have P2 := (Two.new (w.alloc (.cells #[.int .i64 a, .int .i64 b] 50)) (.int .i64 c) (.int .i64 d) 50).kept hb1
    have B1 := bthen (balloc (balloc (Below.refl _ w) _) _) hb1
    clear hb1
    obtain ⟨z2, b0, b1, _, _⟩ := id P2
    simp only [World.size_alloc] at z2 b0 b1
    go_wp2_with fail
    refine (c2 _).mono ?_
    rintro e w2 ⟨rfl, hb1⟩
    replace B1 := bthen B1 hb1
    clear hb1 z2 b0 b1 P2
    go_wp2
    go_ret
    exact ⟨rfl, B1⟩
  · have c1 := fun w => rCheck_no a b w fa fb h1
    clear h h1 fa fb fc fd
    go_enter Try.func45, Try.ntmps45
    go_wp2_with fail
    refine (c1 _).mono ?_
    rintro e w1 ⟨rfl, hb1⟩
    have B1 := bthen (balloc (balloc (Below.refl _ w) _) _) hb1
    clear hb1
    go_wp2
    go_ret
    exact ⟨rfl, B1⟩

end Go.Proofs.Ytodpmdmfdnbehab.Kc

/- What lowest of the reference of layer 3 comes to: cut by what divides each of two numbers, one after the other. -/
namespace Go.Proofs.Ytodpmdmfdnbehab.Kc
set_option linter.unusedSimpArgs false
set_option linter.unusedVariables false
open Go.RowKit Go.Proofs.Ytodpmdmfdnbehab.Vm Go.Proofs.Ytodpmdmfdnbehab.Vc Go.Proofs.Ytodpmdmfdnbehab.Pr Go.Proofs.Ytodpmdmfdnbehab.Qm

set_option maxHeartbeats 400000

theorem fitres_parts {n p q v1 e1 v2 e2 N D er : Int} (r1 : Res1 n v1 e1) (r2 : Res1 (p * q) v2 e2) (F : FitRes n (p * q) N D er) :
    (e1 ≠ 0 ∧ N = 0 ∧ D = 0 ∧ er = e1) ∨ (e1 = 0 ∧ e2 ≠ 0 ∧ N = 0 ∧ D = 0 ∧ er = e2) ∨ (e1 = 0 ∧ e2 = 0 ∧ N = v1 ∧ D = v2 ∧ er = 0) := by
  rcases r1 with ⟨rfl, rfl, f1⟩ | ⟨rfl, rfl, f1⟩
  · rcases r2 with ⟨rfl, rfl, f2⟩ | ⟨rfl, rfl, f2⟩
    · rcases F with ⟨rfl, rfl, rfl, _⟩ | ⟨_, _, _, no⟩
      · exact .inr (.inr ⟨rfl, rfl, rfl, rfl, rfl⟩)
      · exact absurd ⟨f1, f2⟩ no
    · rcases F with ⟨_, _, _, _, f⟩ | ⟨rfl, rfl, rfl, no⟩
      · exact absurd f f2
      · exact .inr (.inl ⟨rfl, by decide, rfl, rfl, rfl⟩)
  · rcases F with ⟨_, _, _, f, _⟩ | ⟨rfl, rfl, rfl, no⟩
    · exact absurd f f1
    · exact .inl ⟨by decide, rfl, rfl, rfl⟩

theorem gcd_small {t x g : Int} (hx : 0 < x) (fx : Fit1 x) (hg : g = (Int.gcd t x : Int)) : 0 < g ∧ g ≤ 9223372036854775807 := by
  have h1 := Int.le_of_dvd hx (Int.gcd_dvd_right t x)
  have h2 : 0 < Int.gcd t x := Int.gcd_pos_of_ne_zero_right t (by omega)
  unfold Fit1 at fx; omega

set_option maxRecDepth 100000 in
theorem klow_any (h l d c N D er : Int) (w : World) (bd : Bd h l) (fd : Fit1 d) (fc : Fit1 c) (d0 : 0 < d) (c0 : 0 < c) (R : Rat1 (num h l) (d * c) N D er) :
    Calls Try.prog 46 #[.agg #[.int .i64 h, .int .u64 l], .int .i64 d, .int .i64 c] w fun e w' =>
      e = .returned (.tuple #[.agg #[.int .i64 N, .int .i64 D], .int .i64 er]) ∧ Below w.heap.size w w' := by
  have ft := bd_fits bd
  obtain ⟨t, ht⟩ : ∃ t, num h l = t := ⟨_, rfl⟩
  rw [ht] at R ft
  have hdc : d * c ≠ 0 := Int.mul_ne_zero (by omega) (by omega)
  obtain ⟨h1, l1, n1, b1⟩ := words_ex (quot_fits ft d0)
  obtain ⟨r1, hr1⟩ : ∃ r, t % d = r := ⟨_, rfl⟩
  have r10 : 0 ≤ r1 ∧ r1 < d := by rw [← hr1]; exact ⟨Int.emod_nonneg _ (by omega), Int.emod_lt_of_pos _ d0⟩
  obtain ⟨g1, t1, d1, g10, hg1, et, ed, hc1, _⟩ := gcd_out (a := t) (b := d) (by omega)
  have g11 := gcd_small d0 fd hg1
  have ft1 : Fits t1 := by
    have : t / g1 = t1 := by rw [et]; exact Int.mul_ediv_cancel_left t1 (by omega)
    rw [← this]; exact quot_fits ft g10
  have d10 : 0 < d1 := by
    rcases Int.lt_trichotomy d1 0 with k | k | k
    · have := Int.mul_neg_of_pos_of_neg g10 k; omega
    · subst k; omega
    · exact k
  have fd1 : Fit1 d1 := by
    have : 1 * d1 ≤ g1 * d1 := Int.mul_le_mul_of_nonneg_right (by omega) (by omega)
    unfold Fit1 at *; omega
  obtain ⟨h2, l2, n2, b2⟩ := words_ex ft1
  obtain ⟨h3, l3, n3, b3⟩ := words_ex (quot_fits ft1 c0)
  obtain ⟨r2, hr2⟩ : ∃ r, t1 % c = r := ⟨_, rfl⟩
  have r20 : 0 ≤ r2 ∧ r2 < c := by rw [← hr2]; exact ⟨Int.emod_nonneg _ (by omega), Int.emod_lt_of_pos _ c0⟩
  obtain ⟨g2, t2, c1, g20, hg2, et1, ec, hc2, _⟩ := gcd_out (a := t1) (b := c) (by omega)
  have g21 := gcd_small c0 fc hg2
  have ft2 : Fits t2 := by
    have : t1 / g2 = t2 := by rw [et1]; exact Int.mul_ediv_cancel_left t2 (by omega)
    rw [← this]; exact quot_fits ft1 g20
  have c10 : 0 < c1 := by
    rcases Int.lt_trichotomy c1 0 with k | k | k
    · have := Int.mul_neg_of_pos_of_neg g20 k; omega
    · subst k; omega
    · exact k
  have fc1 : Fit1 c1 := by
    have : 1 * c1 ≤ g2 * c1 := Int.mul_le_mul_of_nonneg_right (by omega) (by omega)
    unfold Fit1 at *; omega
  obtain ⟨h4, l4, n4, b4⟩ := words_ex ft2
  have L : Low t2 (d1 * c1) := ⟨Int.mul_pos d10 c10, cop_mul' (cop_left hc1 ⟨g2, by rw [et1, Int.mul_comm]⟩) hc2⟩
  have E : t2 * (d * c) = t * (d1 * c1) := by rw [et, ed, ec, et1]; ac_rfl
  have F := fitres_of hdc L E R
  obtain ⟨v1, e1, rv1⟩ := res1_ex t2
  obtain ⟨v2, e2, rv2⟩ := res1_ex (d1 * c1)
  have O := fitres_parts rv1 rv2 F
  have fg1 : Fit1 g1 := by unfold Fit1; omega
  have fg2 : Fit1 g2 := by unfold Fit1; omega
  have dv1 := fun w => Vr.rDiv_any h l d h1 l1 r1 0 w bd fd (.inr (.inr ⟨d0, rfl, b1, by rw [n1, ht, ← hr1, Int.mul_comm]; exact Int.mul_ediv_add_emod t d, r10.1, r10.2⟩))
  have cm1 := fun w => common_any d r1 g1 w (by omega) (by unfold Fit1 at fd; omega) (by omega) (by unfold Fit1 at fd; omega) (by rw [hg1, ← hr1, gcd_rem])
  have dv2 := fun w => Vr.rDiv_any h l g1 h2 l2 0 0 w bd fg1 (.inr (.inr ⟨g10, rfl, b2, by rw [n2, ht, et, Int.mul_comm, Int.add_zero], Int.le_refl _, g10⟩))
  have dv3 := fun w => Vr.rDiv_any h2 l2 c h3 l3 r2 0 w b2 fc (.inr (.inr ⟨c0, rfl, b3, by rw [n3, n2, ← hr2, Int.mul_comm]; exact Int.mul_ediv_add_emod t1 c, r20.1, r20.2⟩))
  have cm2 := fun w => common_any c r2 g2 w (by omega) (by unfold Fit1 at fc; omega) (by omega) (by unfold Fit1 at fc; omega) (by rw [hg2, ← hr2, gcd_rem])
  have dv4 := fun w => Vr.rDiv_any h2 l2 g2 h4 l4 0 0 w b2 fg2 (.inr (.inr ⟨g20, rfl, b4, by rw [n4, n2, et1, Int.mul_comm, Int.add_zero], Int.le_refl _, g20⟩))
  have cf := fun w => Vr.rFit_any h4 l4 v1 e1 w b4 (by rw [n4]; exact rv1)
  have cu := fun w => Wr.rmul_any d1 c1 w fd1 fc1 v2 e2 (by rcases rv2 with ⟨k1, k2, k3⟩ | ⟨k1, k2, k3⟩; exact .inl ⟨k3, k2, k1⟩; exact .inr ⟨k3, k2, k1⟩)
  have k1 : d.tdiv g1 = d1 := by rw [ed]; exact Int.mul_tdiv_cancel_left d1 (by omega)
  have k2 : c.tdiv g2 = c1 := by rw [ec]; exact Int.mul_tdiv_cancel_left c1 (by omega)
  have k3 : d / g1 = d1 := by rw [ed]; exact Int.mul_ediv_cancel_left d1 (by omega)
  have k4 : c / g2 = c1 := by rw [ec]; exact Int.mul_ediv_cancel_left c1 (by omega)
  have K := Lib.hid (And.intro k1 (And.intro k2 (And.intro k3 k4)))
  have z1 : (g1 == 0) = false := beq_eq_false_iff_ne.2 (by omega)
  have z2 : (g2 == 0) = false := beq_eq_false_iff_ne.2 (by omega)
  have s1 : 0 ≤ r1 ∧ r1 ≤ 9223372036854775807 := by unfold Fit1 at fd; omega
  have s2 : 0 ≤ r2 ∧ r2 ≤ 9223372036854775807 := by unfold Fit1 at fc; omega
  unfold Fit1 at fd fc fd1 fc1
  obtain ⟨s1a, s1b⟩ := s1
  obtain ⟨s2a, s2b⟩ := s2
  obtain ⟨fda, fdb⟩ := fd
  obtain ⟨fca, fcb⟩ := fc
  obtain ⟨g1a, g1b⟩ := g11
  obtain ⟨g2a, g2b⟩ := g21
  clear k1 k2 k3 k4 F L E rv1 rv2 R ht hr1 hr2 r10 r20 et et1 ed ec hc1 hc2 hg1 hg2 ft ft1 ft2 n1 n2 n3 n4 b1 b2 b3 b4 bd hdc fg1 fg2
  have ix0 : ∀ w, (Instr.index 96 (.agg #[.int .i64 d, .int .i64 c]) (.int .i64 0)).run Try.prog w = .ok (.int .i64 d) w := fun _ => by kernel_rfl
  have ix1 : ∀ w, (Instr.index 96 (.agg #[.int .i64 d, .int .i64 c]) (.int .i64 1)).run Try.prog w = .ok (.int .i64 c) w := fun _ => by kernel_rfl
  go_enter Try.func46, Try.ntmps46
  go_wp2
  refine wp_loop_rounds 3 ?_
  rw [rounds_succ]
  go_wp2_with fail
  refine (dv1 _).mono ?_
  rintro e w1 ⟨rfl, hb⟩
  have P1 := (((Two.new w (.int .i64 h) (.int .u64 l) 44).alloc (.cells #[.int .i64 0, .int .i64 0] 50)).alloc (.cells #[.int .i64 d, .int .i64 c] 96)).kept hb
  have P2 := ((Two.new (w.alloc (.cells #[.int .i64 h, .int .u64 l] 44)) (.int .i64 0) (.int .i64 0) 50).alloc (.cells #[.int .i64 d, .int .i64 c] 96)).kept hb
  have P3 := (Two.new ((w.alloc (.cells #[.int .i64 h, .int .u64 l] 44)).alloc (.cells #[.int .i64 0, .int .i64 0] 50)) (.int .i64 d) (.int .i64 c) 96).kept hb
  have B1 := bthen (balloc (balloc (balloc (Below.refl _ w) _) _) _) hb
  simp only [World.size_alloc] at P1 P2 P3
  clear hb dv1
  obtain ⟨zz, a0, a1, _, _⟩ := id P1
  go_wp2_with fail
  refine (cm1 _).mono ?_
  rintro e w' ⟨rfl, rfl⟩
  clear cm1
  go_wp2_with fail
  refine (dv2 _).mono ?_
  rintro e w2 ⟨rfl, hb⟩
  replace P1 := (P1.alloc _).kept hb
  replace P2 := (P2.alloc _).kept hb
  replace P3 := (P3.alloc _).kept hb
  replace B1 := bthen (balloc B1 _) hb
  clear hb dv2 zz a0 a1
  obtain ⟨k1, k2, k3, k4⟩ := K.out
  obtain ⟨zz, a0, a1, f0, f1⟩ := id P1
  obtain ⟨yy, b0, b1, i0, i1⟩ := id P3
  go_wp2
  replace P1 := ((P1.set0 (.int .i64 h2)).set1 (.int .u64 l2)).other (g := w.heap.size + 1 + 1) 0 (.int .i64 d1) (by omega)
  replace P2 := ((P2.other (g := w.heap.size) 0 (.int .i64 h2) (by omega)).other (g := w.heap.size) 1 (.int .u64 l2) (by omega)).other (g := w.heap.size + 1 + 1) 0 (.int .i64 d1) (by omega)
  replace P3 := ((P3.other (g := w.heap.size) 0 (.int .i64 h2) (by omega)).other (g := w.heap.size) 1 (.int .u64 l2) (by omega)).set0 (.int .i64 d1)
  replace B1 := bset (bset (bset B1 (Nat.le_refl _) 0 (.int .i64 h2)) (Nat.le_refl _) 1 (.int .u64 l2)) (g := w.heap.size + 1 + 1) (by omega) 0 (.int .i64 d1)
  generalize ((w2.setCell ⟨w.heap.size, 0, none⟩ (.int .i64 h2)).setCell ⟨w.heap.size, 1, none⟩ (.int .u64 l2)).setCell ⟨w.heap.size + 1 + 1, 0, none⟩ (.int .i64 d1) = V2 at *
  clear zz a0 a1 f0 f1 yy b0 b1 i0 i1 k1 k2 k3 k4
  rw [rounds_succ]
  obtain ⟨zz, a0, a1, _, _⟩ := id P1
  go_wp2_with fail
  refine (dv3 _).mono ?_
  rintro e w3 ⟨rfl, hb⟩
  replace P1 := P1.kept hb
  replace P2 := P2.kept hb
  replace P3 := P3.kept hb
  replace B1 := bthen B1 hb
  clear hb dv3 zz a0 a1
  obtain ⟨zz, a0, a1, _, _⟩ := id P1
  go_wp2_with fail
  refine (cm2 _).mono ?_
  rintro e w' ⟨rfl, rfl⟩
  clear cm2
  go_wp2_with fail
  refine (dv4 _).mono ?_
  rintro e w4 ⟨rfl, hb⟩
  replace P1 := (P1.alloc _).kept hb
  replace P2 := (P2.alloc _).kept hb
  replace P3 := (P3.alloc _).kept hb
  replace B1 := bthen (balloc B1 _) hb
  clear hb dv4 zz a0 a1
  obtain ⟨k1, k2, k3, k4⟩ := K.out
  obtain ⟨zz, a0, a1, f0, f1⟩ := id P1
  obtain ⟨yy, b0, b1, i0, i1⟩ := id P3
  go_wp2
  replace P1 := ((P1.set0 (.int .i64 h4)).set1 (.int .u64 l4)).other (g := w.heap.size + 1 + 1) 1 (.int .i64 c1) (by omega)
  replace P2 := ((P2.other (g := w.heap.size) 0 (.int .i64 h4) (by omega)).other (g := w.heap.size) 1 (.int .u64 l4) (by omega)).other (g := w.heap.size + 1 + 1) 1 (.int .i64 c1) (by omega)
  replace P3 := ((P3.other (g := w.heap.size) 0 (.int .i64 h4) (by omega)).other (g := w.heap.size) 1 (.int .u64 l4) (by omega)).set1 (.int .i64 c1)
  replace B1 := bset (bset (bset B1 (Nat.le_refl _) 0 (.int .i64 h4)) (Nat.le_refl _) 1 (.int .u64 l4)) (g := w.heap.size + 1 + 1) (by omega) 1 (.int .i64 c1)
  generalize ((w4.setCell ⟨w.heap.size, 0, none⟩ (.int .i64 h4)).setCell ⟨w.heap.size, 1, none⟩ (.int .u64 l4)).setCell ⟨w.heap.size + 1 + 1, 1, none⟩ (.int .i64 c1) = V4 at *
  clear zz a0 a1 f0 f1 yy b0 b1 i0 i1 k1 k2 k3 k4
  rw [rounds_succ]
  obtain ⟨zz, a0, a1, _, _⟩ := id P1
  go_wp2_with fail
  refine (cf _).mono ?_
  rintro e w5 ⟨rfl, hb⟩
  replace P2 := P2.kept hb
  replace P3 := P3.kept hb
  replace B1 := bthen B1 hb
  clear hb zz a0 a1 cf P1
  obtain ⟨xx, c00, c01, f0, f1⟩ := id P2
  obtain ⟨yy, b0, b1, _, _⟩ := id P3
  rcases O with ⟨o1, rfl, rfl, rfl⟩ | ⟨rfl, o2, rfl, rfl, rfl⟩ | ⟨rfl, rfl, rfl, rfl, rfl⟩
  · have q1 : (er != 0) = true := bne_iff_ne.2 o1
    clear o1
    go_wp2
    refine bodyPost_ret (v := .tuple #[.agg #[.int .i64 0, .int .i64 0], .int .i64 er]) (by simp [results, Try.results46, go_sem, c00, c01]) rfl ⟨rfl, ?_⟩
    exact bset (bset B1 (by omega) _ _) (by omega) _ _
  · have q1 : (er != 0) = true := bne_iff_ne.2 o2
    clear o2
    go_wp2_with fail
    refine (cu _).mono ?_
    rintro e w' ⟨rfl, rfl⟩
    go_wp2
    refine bodyPost_ret (v := .tuple #[.agg #[.int .i64 0, .int .i64 0], .int .i64 er]) (by simp [results, Try.results46, go_sem, c00, c01]) rfl ⟨rfl, ?_⟩
    exact bset (bset B1 (by omega) _ _) (by omega) _ _
  · go_wp2_with fail
    refine (cu _).mono ?_
    rintro e w' ⟨rfl, rfl⟩
    go_wp2
    refine bodyPost_ret (v := .tuple #[.agg #[.int .i64 N, .int .i64 D], .int .i64 0]) (by simp [results, Try.results46, go_sem, c00, c01]) rfl ⟨rfl, ?_⟩
    exact bset (bset B1 (by omega) _ _) (by omega) _ _

end Go.Proofs.Ytodpmdmfdnbehab.Kc

/- Plain facts for the reference of layer 3; nothing of the program. -/
namespace Go.Proofs.Ytodpmdmfdnbehab.Qm
set_option linter.unusedSimpArgs false
set_option linter.unusedVariables false
open Go.Proofs.Ytodpmdmfdnbehab.Vm

theorem odd_over {n b N D er : Int} (_ : 0 < b) (hn : n % 2 ≠ 0) (R : Rat1 (-n) (b * -9223372036854775808) N D er) : N = 0 ∧ D = 0 ∧ er = 2 := by
  rcases R with ⟨_, L, e, fN, fD⟩ | ⟨h, h1, h2, _⟩
  · exfalso
    have e2 : N * b * 9223372036854775808 = n * D := by
      rw [Int.neg_mul, Int.mul_neg, Int.mul_neg, ← Int.mul_assoc] at e
      omega
    have g1 : Int.gcd 2 n = 1 := by
      have h1 : n = 2 * (n / 2) + 1 := by omega
      rw [Int.gcd_comm, h1, Int.gcd_mul_left_add_left]; rfl
    have g2 : Int.gcd 9223372036854775808 n = 1 := by
      have h1 := Int.gcd_pow_left_of_gcd_eq_one (k := 63) g1
      have h2 : (2 : Int) ^ 63 = 9223372036854775808 := by decide
      rw [h2] at h1; exact h1
    have dv : (9223372036854775808 : Int) ∣ D := cop_dvd (b := n) g2 ⟨N * b, by rw [← e2, Int.mul_comm]⟩
    have := Int.le_of_dvd L.1 dv
    unfold Fit1 at fD; omega
  · exact ⟨h1, h2, h⟩

/-- what Make of the reference goes by: the sizes x and y of both parts, cut -/
theorem make_parts {n d N D er : Int} (fn : Fit1 n) (fd : Fit1 d) (hd : d ≠ 0) (R : Rat1 n d N D er) :
    ∃ g x y : Int, 0 < g ∧ g ≤ 9223372036854775808 ∧ g = (Int.gcd (n.natAbs : Int) (d.natAbs : Int) : Int) ∧ (n.natAbs : Int) = g * x ∧ (d.natAbs : Int) = g * y ∧ 0 ≤ x ∧ x ≤ 9223372036854775808 ∧ 0 < y ∧ y ≤ 9223372036854775808 ∧
      (n = 0 ↔ x = 0) ∧ FitRes (if (n < 0 ∧ 0 < d) ∨ (0 < n ∧ d < 0) then -x else x) y N D er := by
  obtain ⟨g, x, y, g0, hg, en, ed, hc, hy⟩ := gcd_out (a := n) hd
  have an : (n.natAbs : Int) = g * (x.natAbs : Int) := by rw [en, Int.natAbs_mul, Int.natCast_mul]; congr 1; omega
  have ad : (d.natAbs : Int) = g * (y.natAbs : Int) := by rw [ed, Int.natAbs_mul, Int.natCast_mul]; congr 1; omega
  have x0 : (x.natAbs : Int) ≤ 1 * (n.natAbs : Int) := by
    have : 1 * (x.natAbs : Int) ≤ g * (x.natAbs : Int) := Int.mul_le_mul_of_nonneg_right (by omega) (by omega)
    omega
  have y0 : (y.natAbs : Int) ≤ 1 * (d.natAbs : Int) := by
    have : 1 * (y.natAbs : Int) ≤ g * (y.natAbs : Int) := Int.mul_le_mul_of_nonneg_right (by omega) (by omega)
    omega
  have gd : g * 1 ≤ g * (y.natAbs : Int) := Int.mul_le_mul_of_nonneg_left (by omega) (by omega)
  have sx : (0 < n ↔ 0 < x) ∧ (n < 0 ↔ x < 0) := by
    have := sign_same (N := n) (m := 1) (n := x) (D := g) (by omega) g0 (by rw [en, Int.mul_one, Int.mul_comm])
    exact ⟨this.2, this.1⟩
  have sy : (0 < d ↔ 0 < y) ∧ (d < 0 ↔ y < 0) := by
    have := sign_same (N := d) (m := 1) (n := y) (D := g) (by omega) g0 (by rw [ed, Int.mul_one, Int.mul_comm])
    exact ⟨this.2, this.1⟩
  refine ⟨g, x.natAbs, y.natAbs, g0, by unfold Fit1 at fd; omega, by rw [hg]; simp [Int.gcd], an, ad, by omega, by unfold Fit1 at fn; omega, by omega, by unfold Fit1 at fd; omega, by omega, ?_⟩
  by_cases c : 0 < y
  · have e1 : (y.natAbs : Int) = y := by omega
    have e2 : (if (n < 0 ∧ 0 < d) ∨ (0 < n ∧ d < 0) then -(x.natAbs : Int) else (x.natAbs : Int)) = x := by split <;> omega
    rw [e1, e2]
    exact fitres_of hd ⟨c, hc⟩ (by rw [en, ed]; ac_rfl) R
  · have e1 : (y.natAbs : Int) = -y := by omega
    have e2 : (if (n < 0 ∧ 0 < d) ∨ (0 < n ∧ d < 0) then -(x.natAbs : Int) else (x.natAbs : Int)) = -x := by split <;> omega
    rw [e1, e2]
    exact fitres_of hd ⟨by omega, by rw [Int.neg_gcd, Int.gcd_neg]; exact hc⟩ (by rw [Int.neg_mul, Int.mul_neg]; congr 1; rw [en, ed]; ac_rfl) R

end Go.Proofs.Ytodpmdmfdnbehab.Qm

/- What Cmp of the reference of layer 2 comes to. -/
namespace Go.Proofs.Ytodpmdmfdnbehab.Vr
set_option linter.unusedSimpArgs false
set_option linter.unusedVariables false
open Go.RowKit Go.Proofs.Ytodpmdmfdnbehab.Vm Go.Proofs.Ytodpmdmfdnbehab.Vc Go.Proofs.Ytodpmdmfdnbehab.Vl
attribute [local go_sem] alloc_drewN setCell_drewN

set_option maxHeartbeats 1000000

end Go.Proofs.Ytodpmdmfdnbehab.Vr

/- What Make, Add, Sub, Mul, Div, Cmp, Floor and Ceil of the reference of layer 3 come to. -/
namespace Go.Proofs.Ytodpmdmfdnbehab.Kc
set_option linter.unusedSimpArgs false
set_option linter.unusedVariables false
open Go.RowKit Go.Proofs.Ytodpmdmfdnbehab.Vm Go.Proofs.Ytodpmdmfdnbehab.Vc Go.Proofs.Ytodpmdmfdnbehab.Pr Go.Proofs.Ytodpmdmfdnbehab.Qm

set_option maxHeartbeats 1000000

/-- two boxes that are read, a third one that is written, and what became of the world -/
structure Trio (w W : World) (a b c d : Int) : Prop where
  below : Below w.heap.size w W
  a : Two W w.heap.size (.int .i64 a) (.int .i64 b)
  b : Two W (w.heap.size + 1) (.int .i64 c) (.int .i64 d)
section
variable {w W w1 : World} {a b c d : Int}
theorem Trio.kept {R : Prop} (x : Trio w W a b c d ∧ R) (hb : Below W.heap.size W w1) : Trio w w1 a b c d := ⟨bthen x.1.below hb, x.1.a.kept hb, x.1.b.kept hb⟩
theorem Trio.drew (x : Trio w W a b c d) : Trio w W.drew a b c d := ⟨x.below.drew, x.a.drew, x.b.drew⟩
theorem Trio.set {R : Prop} {v : Value} {n : Nat} (x : Trio w W a b c d ∧ R) : Trio w (W.setCell ⟨w.heap.size + 1 + 1, n, none⟩ v) a b c d ∧ True :=
  ⟨⟨bset x.1.below (by omega) _ _, x.1.a.other _ _ (by omega), x.1.b.other _ _ (by omega)⟩, trivial⟩
theorem Trio.opened (x : Trio w W a b c d) : Trio w W a b c d ∧ W.cell? ⟨w.heap.size, 0, none⟩ = some (.int .i64 a) ∧ W.cell? ⟨w.heap.size, 1, none⟩ = some (.int .i64 b) ∧ W.cell? ⟨w.heap.size + 1, 0, none⟩ = some (.int .i64 c) ∧ W.cell? ⟨w.heap.size + 1, 1, none⟩ = some (.int .i64 d) :=
  ⟨x, x.a.c0, x.a.c1, x.b.c0, x.b.c1⟩
end

theorem rMul_op (a b c d N D er : Int) (w : World) (fa : Fit1 a) (fb : Fit1 b) (fc : Fit1 c) (fd : Fit1 d) (R : OpRes a b c d (a * c) (b * d) N D er) :
    Calls Try.prog 23 #[.agg #[.int .i64 a, .int .i64 b], .agg #[.int .i64 c, .int .i64 d]] w fun e w' =>
      e = .returned (.tuple #[.agg #[.int .i64 N, .int .i64 D], .int .i64 er]) ∧ Below w.heap.size w w' := by
  rcases R with ⟨h1, h2, R⟩ | ⟨h, rfl, rfl, rfl⟩
  case inr =>
    have m0 := fun w => may_no a b c d w fa fb fc fd h
    clear h fa fb fc fd
    go_enter Try.func23, Try.ntmps23
    go_wp2_with fail
    refine (m0 _).mono ?_
    rintro e w1 ⟨rfl, hb⟩
    have P1 := (((Two.new w (.int .i64 a) (.int .i64 b) 50).alloc (.cells #[.int .i64 c, .int .i64 d] 50)).alloc (.cells #[.int .i64 0, .int .i64 0] 50)).kept hb
    have P2 := ((Two.new (w.alloc (.cells #[.int .i64 a, .int .i64 b] 50)) (.int .i64 c) (.int .i64 d) 50).alloc (.cells #[.int .i64 0, .int .i64 0] 50)).kept hb
    have P3 := (Two.new ((w.alloc (.cells #[.int .i64 a, .int .i64 b] 50)).alloc (.cells #[.int .i64 c, .int .i64 d] 50)) (.int .i64 0) (.int .i64 0) 50).kept hb
    have B1 := bthen (balloc (balloc (balloc (Below.refl _ w) _) _) _) hb
    simp only [World.size_alloc] at P1 P2 P3
    clear hb
    obtain ⟨z, c0, c1, f0, f1⟩ := id P3
    go_wp2
    refine bodyPost_ret (v := .tuple #[.agg #[.int .i64 0, .int .i64 0], .int .i64 1]) (by simp [results, Try.results23, go_sem, c0, c1]) rfl ⟨rfl, ?_⟩
    exact bset (bset B1 (by omega) _ _) (by omega) _ _
  obtain ⟨u3, l3, e3, b3⟩ := words_ex (x := a * c) (by have := prod_fits fa fc; unfold Fits; omega)
  have m1 := fun w => may_yes a b c d w fa fb fc fd h1 h2
  have cm := fun w => Vr.rMul_to a c u3 l3 w fa fc b3 e3
  have kl := fun w => klow_any u3 l3 b d N D er w b3 fb fd h1.1 h2.1 (by rw [e3]; exact R)
  clear R h1 h2 e3 b3 fa fb fc fd
  go_enter Try.func23, Try.ntmps23
  go_wp2_with fail
  refine (m1 _).mono ?_
  rintro e w1 ⟨rfl, hb⟩
  have P1 := (((Two.new w (.int .i64 a) (.int .i64 b) 50).alloc (.cells #[.int .i64 c, .int .i64 d] 50)).alloc (.cells #[.int .i64 0, .int .i64 0] 50)).kept hb
  have P2 := ((Two.new (w.alloc (.cells #[.int .i64 a, .int .i64 b] 50)) (.int .i64 c) (.int .i64 d) 50).alloc (.cells #[.int .i64 0, .int .i64 0] 50)).kept hb
  have P3 := (Two.new ((w.alloc (.cells #[.int .i64 a, .int .i64 b] 50)).alloc (.cells #[.int .i64 c, .int .i64 d] 50)) (.int .i64 0) (.int .i64 0) 50).kept hb
  have B1 := bthen (balloc (balloc (balloc (Below.refl _ w) _) _) _) hb
  simp only [World.size_alloc] at P1 P2 P3
  clear hb
  have X : Trio w w1 a b c d := ⟨B1, P1, P2⟩
  clear P1 P2 B1
  obtain ⟨kz, kc0, kc1, kf0, kf1⟩ := id P3
  go_wp2
  go_region_held3 (fun w' => Trio w w' a b c d ∧ w'.cell? ⟨w.heap.size, 0, none⟩ = some (.int .i64 a) ∧ w'.cell? ⟨w.heap.size, 1, none⟩ = some (.int .i64 b) ∧ w'.cell? ⟨w.heap.size + 1, 0, none⟩ = some (.int .i64 c) ∧ w'.cell? ⟨w.heap.size + 1, 1, none⟩ = some (.int .i64 d))
    (first | exact X.drew.opened | exact X2.opened | exact (Trio.set (Trio.set (by with_reducible assumption))).1.opened)
    (first
      | (go_at_call 32; (with_reducible refine (cm _).mono ?_); rintro e w4 ⟨rfl, hb⟩; have X2 := Trio.kept (by first | (with_reducible assumption) | exact ⟨X.drew, trivial⟩) hb; have K := Two.kept (by first | (with_reducible assumption) | exact P3.drew) hb; obtain ⟨kz, kc0, kc1, kf0, kf1⟩ := id K)
      | (go_at_call 46; (with_reducible refine (kl _).mono ?_); rintro e w4 ⟨rfl, hb⟩; have X2 := Trio.kept (by first | (with_reducible assumption) | exact ⟨X.drew, trivial⟩) hb; have K := Two.kept (by first | (with_reducible assumption) | exact P3.drew) hb; obtain ⟨kz, kc0, kc1, kf0, kf1⟩ := id K))
  go_wp2
  refine bodyPost_ret (v := .tuple #[.agg #[.int .i64 N, .int .i64 D], .int .i64 er]) (by simp [results, Try.results23, go_sem, kc0, kc1]) rfl ⟨rfl, ?_⟩
  exact bset (bset X2.below (by omega) _ _) (by omega) _ _

end Go.Proofs.Ytodpmdmfdnbehab.Kc

/- What Make of the reference of layer 3 comes to. -/
namespace Go.Proofs.Ytodpmdmfdnbehab.Kc
set_option linter.unusedSimpArgs false
set_option linter.unusedVariables false
open Go.RowKit Go.Proofs.Ytodpmdmfdnbehab.Vm Go.Proofs.Ytodpmdmfdnbehab.Vc Go.Proofs.Ytodpmdmfdnbehab.Pr Go.Proofs.Ytodpmdmfdnbehab.Qm

set_option maxHeartbeats 1000000

theorem rMake_any (n d N D er : Int) (w : World) (fn : Fit1 n) (fd : Fit1 d) (R : MakeRes n d N D er) :
    Calls Try.prog 22 #[.int .i64 n, .int .i64 d] w fun e w' =>
      e = .returned (.tuple #[.agg #[.int .i64 N, .int .i64 D], .int .i64 er]) ∧ Below w.heap.size w w' := by
  rcases R with ⟨rfl, rfl, rfl, rfl⟩ | ⟨hd, R⟩
  · go_enter Try.func22, Try.ntmps22
    go_wp2
    refine bodyPost_ret (v := .tuple #[.agg #[.int .i64 0, .int .i64 0], .int .i64 3]) (by simp [results, Try.results22, go_sem]) rfl ⟨rfl, ?_⟩
    exact balloc (Below.refl _ w) _
  obtain ⟨g, x, y, g0, g1, hg, ex, ey, x0, x1, y0, y1, xz, F⟩ := make_parts fn fd hd R
  have d0 : (d == 0) = false := beq_eq_false_iff_ne.2 hd
  have cs1 := fun w => Vr.rsize_any n w fn
  have cs2 := fun w => Vr.rsize_any d w fd
  have an : (n.natAbs : Int) ≤ 9223372036854775808 := by unfold Fit1 at fn; omega
  have ad : (d.natAbs : Int) ≤ 9223372036854775808 := by unfold Fit1 at fd; omega
  have an0 : 0 ≤ (n.natAbs : Int) := by omega
  have ad0 : 0 ≤ (d.natAbs : Int) := by omega
  have cc := fun w => common_any (n.natAbs : Int) (d.natAbs : Int) g w an0 (by omega) ad0 (by omega) hg
  have k1 : (n.natAbs : Int).tdiv g = x := by rw [ex]; exact Int.mul_tdiv_cancel_left x (by omega)
  have k2 : (d.natAbs : Int).tdiv g = y := by rw [ey]; exact Int.mul_tdiv_cancel_left y (by omega)
  have k3 : (n.natAbs : Int) / g = x := by rw [ex]; exact Int.mul_ediv_cancel_left x (by omega)
  have k4 : (d.natAbs : Int) / g = y := by rw [ey]; exact Int.mul_ediv_cancel_left y (by omega)
  have gz : (g == 0) = false := beq_eq_false_iff_ne.2 (by omega)
  -- the ways: both signs, and what fits
  have O : ∃ s1 s2 s3 s4 : Bool, (decide (n < 0) = s1 ∧ decide (0 < n) = s2 ∧ decide (d < 0) = s3 ∧ decide (0 < d) = s4) ∧
      (((s1 = true ∧ s2 = false ∧ s3 = false ∧ s4 = true) ∨ (s1 = false ∧ s2 = true ∧ s3 = true ∧ s4 = false)) ∧ ((1 ≤ x ∧ x ≤ 9223372036854775807 ∧ y ≤ 9223372036854775807 ∧ N = -(x - 1) - 1 ∧ D = y ∧ er = 0) ∨ (x = 9223372036854775808 ∧ y ≤ 9223372036854775807 ∧ N = -9223372036854775808 ∧ D = y ∧ er = 0) ∨ (9223372036854775807 < y ∧ N = 0 ∧ D = 0 ∧ er = 2)) ∨
       ((s1 = true ∧ s2 = false ∧ s3 = true ∧ s4 = false) ∨ (s1 = false ∧ s2 = true ∧ s3 = false ∧ s4 = true) ∨ (s1 = false ∧ s2 = false ∧ s3 = true ∧ s4 = false) ∨ (s1 = false ∧ s2 = false ∧ s3 = false ∧ s4 = true)) ∧
         ((x ≤ 9223372036854775807 ∧ y ≤ 9223372036854775807 ∧ N = x ∧ D = y ∧ er = 0) ∨ (9223372036854775807 < y ∧ N = 0 ∧ D = 0 ∧ er = 2) ∨ (y ≤ 9223372036854775807 ∧ x = 9223372036854775808 ∧ N = 0 ∧ D = 0 ∧ er = 2))) := by
    refine ⟨_, _, _, _, ⟨rfl, rfl, rfl, rfl⟩, ?_⟩
    simp only [decide_eq_true_eq, decide_eq_false_iff_not]
    unfold FitRes Fit1 at F
    by_cases c : (n < 0 ∧ 0 < d) ∨ (0 < n ∧ d < 0)
    · rw [if_pos c] at F
      refine .inl ⟨by omega, ?_⟩
      omega
    · rw [if_neg c] at F
      refine .inr ⟨by omega, ?_⟩
      omega
  obtain ⟨s1, s2, s3, s4, ⟨t1, t2, t3, t4⟩, O⟩ := O
  have K := Lib.hid (And.intro k1 (And.intro k2 (And.intro k3 k4)))
  clear k1 k2 k3 k4 F R xz fn fd hd ex ey hg
  generalize (n.natAbs : Int) = X at *
  generalize (d.natAbs : Int) = Y at *
  rcases O with ⟨⟨rfl, rfl, rfl, rfl⟩ | ⟨rfl, rfl, rfl, rfl⟩, ⟨x2, x3, y2, rfl, rfl, rfl⟩ | ⟨rfl, y2, rfl, rfl, rfl⟩ | ⟨y2, rfl, rfl, rfl⟩⟩ | ⟨⟨rfl, rfl, rfl, rfl⟩ | ⟨rfl, rfl, rfl, rfl⟩ | ⟨rfl, rfl, rfl, rfl⟩ | ⟨rfl, rfl, rfl, rfl⟩, ⟨x2, y2, rfl, rfl, rfl⟩ | ⟨y2, rfl, rfl, rfl⟩ | ⟨y2, x2, rfl, rfl, rfl⟩⟩
  all_goals
    go_enter Try.func22, Try.ntmps22
    go_wp2_with fail
    refine (cs1 _).mono ?_
    rintro e w' ⟨rfl, rfl⟩
    go_wp2_with fail
    refine (cs2 _).mono ?_
    rintro e w' ⟨rfl, rfl⟩
    go_wp2_with fail
    refine (cc _).mono ?_
    rintro e w' ⟨rfl, rfl⟩
    obtain ⟨k1, k2, k3, k4⟩ := K.out
    go_wp2_with fail
    refine (cs1 _).mono ?_
    rintro e w' ⟨rfl, rfl⟩
    go_wp2_with fail
    refine (cs2 _).mono ?_
    rintro e w' ⟨rfl, rfl⟩
    clear cs1 cs2 cc
    go_wp2
  all_goals
    first
      | (refine bodyPost_ret (v := .tuple #[.agg #[.int .i64 0, .int .i64 0], .int .i64 2]) (by simp [results, Try.results22, go_sem]) rfl ⟨rfl, ?_⟩; exact balloc (Below.refl _ w) _)
      | (refine bodyPost_ret (v := .tuple #[.agg #[.int .i64 N, .int .i64 D], .int .i64 0]) (by simp [results, Try.results22, go_sem]) rfl ⟨rfl, ?_⟩; exact balloc (Below.refl _ w) _)
      | (refine bodyPost_ret (v := .tuple #[.agg #[.int .i64 (-(x - 1) - 1), .int .i64 D], .int .i64 0]) (by simp [results, Try.results22, go_sem]) rfl ⟨rfl, ?_⟩; exact balloc (Below.refl _ w) _)
      | (refine bodyPost_ret (v := .tuple #[.agg #[.int .i64 (-9223372036854775808), .int .i64 D], .int .i64 0]) (by simp [results, Try.results22, go_sem]) rfl ⟨rfl, ?_⟩; exact balloc (Below.refl _ w) _)

end Go.Proofs.Ytodpmdmfdnbehab.Kc
