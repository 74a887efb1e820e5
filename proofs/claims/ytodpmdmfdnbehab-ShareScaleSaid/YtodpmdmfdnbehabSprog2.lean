/- Split of package share, where the weights may be. -/
import Derived.Test.YtodpmdmfdnbehabSprog
namespace Go.Proofs.Ytodpmdmfdnbehab.Sr
set_option linter.unusedSimpArgs false
set_option linter.unusedVariables false
open Go.RowKit Go.Proofs.Ytodpmdmfdnbehab.Vm Go.Proofs.Ytodpmdmfdnbehab.Vc Go.Proofs.Ytodpmdmfdnbehab.Pr Go.Proofs.Ytodpmdmfdnbehab.Rk Go.Proofs.Ytodpmdmfdnbehab.Sm Go.Proofs.Ytodpmdmfdnbehab.Om Go.Proofs.Ytodpmdmfdnbehab.Os

set_option maxHeartbeats 1000000

/-- two rows that Split has made -/
structure Sp (w W : World) (gp gr n : Nat) (po re : Nat → Int) : Prop where
  below : Below w.heap.size w W
  p : Row W gp n po
  r : Row W gr n re
  ne : gp ≠ gr
  lp : w.heap.size ≤ gp
  lr : w.heap.size ≤ gr
section
variable {w W w1 : World} {gp gr n : Nat} {po re : Nat → Int}
theorem Sp.kept (x : Sp w W gp gr n po re) (hb : Below W.heap.size W w1) : Sp w w1 gp gr n po re := ⟨bthen x.below hb, x.p.kept hb, x.r.kept hb, x.ne, x.lp, x.lr⟩
theorem Sp.put (x : Sp w W gp gr n po re) {k : Nat} (hk : k < n) (u v : Int) :
    Sp w ((W.setCell ⟨gp, k, none⟩ (.int .i64 u)).setCell ⟨gr, k, none⟩ (.int .i64 v)) gp gr n (fun i => if i = k then u else po i) (fun i => if i = k then v else re i) :=
  ⟨bset (bset x.below x.lp _ _) x.lr _ _, (x.p.set u hk).other k _ x.ne, (x.r.other k _ (fun e => x.ne e.symm)).set v hk, x.ne, x.lp, x.lr⟩
theorem Sp.congr {po' re' : Nat → Int} (x : Sp w W gp gr n po re) (h1 : ∀ i, i < n → po i = po' i) (h2 : ∀ i, i < n → re i = re' i) : Sp w W gp gr n po' re' :=
  ⟨x.below, row_congr x.p h1, row_congr x.r h2, x.ne, x.lp, x.lr⟩
end

def SplitRes (w : World) (n : Nat) (P : (Nat → Int) → Prop) (e : Ending) (w' : World) : Prop :=
  ∃ (g : Nat) (o : Nat → Int), e = .returned (.tuple #[.slice (some ⟨g, 0, none⟩) n n, .int .i64 0]) ∧ Row w' g n o ∧ w.heap.size ≤ g ∧ P o ∧ Below w.heap.size w w'

theorem split_go (A : Option Addr) (n cap : Nat) (zs : List Int) (a : Int) (w : World) (hn : zs.length = n) (n0 : 0 < n) (n1 : n ≤ 4096) (fa : Fit1 a) (hf : ∀ z ∈ zs, Fit1 z) (hr : Rd w w.heap.size A zs) (hp : ∀ z ∈ zs, 0 ≤ z) (hs : 0 < zs.sum) (fs : Fit1 zs.sum) :
    Calls Try.prog 6 #[.int .i64 a, .slice A n cap] w (SplitRes w n (IsSplit a (wt zs) n)) := by
  have ct := fun w h => together_any A n cap zs zs.sum 0 w hn (by omega) hf h (.inr (.inr ⟨by omega, hp, .inr (.inr ⟨hs, fs, rfl, rfl⟩)⟩))
  obtain ⟨b, off, rfl, hb, hcell⟩ := hr.resolve_left (by intro e; rw [e] at hn; simp at hn; omega)
  have M : MayBe (wt zs) n := by rw [← hn]; exact may_list hp hs
  have te : tot (wt zs) n = zs.sum := by rw [← hn]; exact sm_list zs
  obtain ⟨t, ht⟩ : ∃ t, t = zs.sum := ⟨_, rfl⟩
  rw [← ht] at ct te hs fs
  obtain ⟨x, hx⟩ : ∃ x, x = wt zs := ⟨_, rfl⟩
  have hcell2 : ∀ i, i < n → w.cell? ⟨b, off + i, none⟩ = some (.int .i64 (x i)) := fun i hi => by rw [hx]; exact hcell i (by omega)
  have fx : ∀ i, i < n → Fit1 (x i) := fun i hi => by rw [hx]; exact hf _ (getD_mem (by omega))
  rw [← hx] at M te ⊢
  have CM : Hid (∀ i W, i < n → Calls Try.prog 13 #[.int .i64 a, .int .i64 (x i), .int .i64 t] W fun e w' => e = .returned (.tuple #[.int .i64 (quo a x n i), .int .i64 (rem a x n i), .int .i64 0]) ∧ Below W.heap.size W w') :=
    Lib.hid (fun i W hi => Vl.muldiv_to a (x i) t (quo a x n i) (rem a x n i) 0 W fa (fx i hi) fs (.inr (.inr (.inr ⟨hs, rfl, quo_fit fa M hi, by unfold quo; rw [te], by unfold rem; rw [te]⟩))))
  have HX := Lib.hid hcell2
  have HM := Lib.hid M
  have HA := Lib.hid fa
  have ct0 := ct w hr
  obtain ⟨cs, hmk, hrow⟩ := make_row infoL underL n (by omega)
  have HR := Lib.hid hrow
  clear ct hcell hcell2 M te fx hr hp hf hn ht hx hs fs hrow
  go_enter Try.func6, Try.ntmps6
  go_wp2_with fail
  refine ct0.mono ?_
  rintro e w1 ⟨rfl, hb1⟩
  clear ct0
  have R1 := ((HR.out w1).kept (balloc (Below.refl _ _) (.cells cs 2))).kept (bdrewN (Below.refl _ _) 1)
  have R2 := (HR.out (w1.alloc (.cells cs 2))).kept (bdrewN (Below.refl _ _) 1)
  rw [World.size_alloc] at R2
  have BB : Below w.heap.size w ((w1.alloc (.cells cs 2)).alloc (.cells cs 2)).drew := bdrewN (balloc (balloc hb1 _) _) 1
  have SZ := hb1.size
  go_wp2_with fail
  go_region
  · have X : Sp w ((w1.alloc (.cells cs 2)).alloc (.cells cs 2)).drew w1.heap.size (w1.heap.size + 1) n (fun _ => 0) (fun _ => 0) := ⟨BB, R1, R2, by omega, SZ, by omega⟩
    clear R1 R2 BB SZ
    have FA := HA.out
    generalize ((w1.alloc (.cells cs 2)).alloc (.cells cs 2)).drew = W2 at X ⊢
    generalize w1.heap.size + 1 = G2 at X ⊢
    generalize w1.heap.size = G1 at X ⊢
    clear hb1 hmk FA
    go_wp2
    go_loopw [10, 32] (fun L Y wr => ∃ k : Nat, k ≤ n ∧ Y = .int .i64 k ∧ (∃ l, L = .int .i64 l ∧ Hid (l = IntKind.i64.wrap (a - sm (quo a x n) k))) ∧
      Sp w wr G1 G2 n (fun i => if i < k then quo a x n i else 0) (fun i => if i < k then rem a x n i else 0)) (fun _ Y _ => n - (intOf Y).toNat)
    case atStart => exact ⟨0, by omega, rfl, ⟨a, rfl, Lib.hid (by rw [show sm (quo a x n) 0 = 0 from rfl, Int.sub_zero]; exact (IntWalk.i64_in _ (by have := HA.out; unfold Fit1 at this; omega)).symm)⟩, X.congr (fun i _ => by simp) (fun i _ => by simp)⟩
    case round =>
      clear X
      obtain ⟨k, hk, rfl, ⟨l, rfl, HL⟩, X⟩ := hrel
      by_cases hlt : k < n
      · have hc := (X.below.cell (p := ⟨b, off + k, none⟩) hb).trans (HX.out k hlt)
        have cmk := fun W => CM.out k W hlt
        have E : Hid ((∀ i, i < n → (if i = k then quo a x n k else if i < k then quo a x n i else 0) = if i < k + 1 then quo a x n i else 0) ∧ (∀ i, i < n → (if i = k then rem a x n k else if i < k then rem a x n i else 0) = if i < k + 1 then rem a x n i else 0)) := by
          refine Lib.hid ⟨fun i _ => ?_, fun i _ => ?_⟩
          all_goals
            by_cases c1 : i = k
            · subst c1; rw [if_pos rfl, if_pos (by omega)]
            · by_cases c2 : i < k
              · rw [if_neg c1, if_pos c2, if_pos (by omega)]
              · rw [if_neg c1, if_neg c2, if_neg (by omega)]
        have HL2 : Hid (IntKind.i64.wrap (l - quo a x n k) = IntKind.i64.wrap (a - sm (quo a x n) (k + 1))) := Lib.hid (by
          have e1 : sm (quo a x n) (k + 1) = sm (quo a x n) k + quo a x n k := rfl
          have e2 := HL.out
          rw [IntKind.wrap_i64] at e2
          rw [e1, IntKind.wrap_i64, IntKind.wrap_i64]; omega)
        obtain ⟨xk, hxk⟩ : ∃ s, x k = s := ⟨_, rfl⟩
        obtain ⟨q, hq⟩ : ∃ s, quo a x n k = s := ⟨_, rfl⟩
        obtain ⟨r, hr⟩ : ∃ s, rem a x n k = s := ⟨_, rfl⟩
        rw [hxk] at hc
        rw [hxk, hq, hr] at cmk
        rw [hq, hr] at E
        rw [hq] at HL2
        clear hxk hq hr HL
        go_wp2_with fail
        refine (cmk _).mono ?_
        rintro e w2 ⟨rfl, hb2⟩
        replace X := X.kept hb2
        clear hb2 hc cmk
        have p1 := X.p.c k hlt
        have p2 := X.p.fz k hlt
        have r1 := X.r.c k hlt
        have r2 := X.r.fz k hlt
        have ne := X.ne
        generalize (if k < k then quo a x n k else 0) = u1 at p1
        generalize (if k < k then rem a x n k else 0) = u2 at r1
        have r3 : (w2.setCell ⟨G1, k, none⟩ (.int .i64 q)).cell? ⟨G2, k, none⟩ = some (.int .i64 u2) := by
          rw [World.cell?_setCell_other _ _ _ _ (by intro e; simp only [Addr.mk.injEq] at e; omega)]; exact r1
        have X2 := X.put hlt q r
        have p3 := X2.p.c k hlt
        simp only [if_true] at p3
        have X3 := X2.congr E.out.1 E.out.2
        have pp : (0 : Int) ≤ (k : Int) := by omega
        have bp : (k : Int) < (n : Int) := by omega
        clear X X2 E ne
        go_wp2
        go_roundw
        case rel => exact ⟨k + 1, by omega, by go_num, ⟨_, rfl, Lib.hid (by rw [← IntWalk.i64_left]; exact HL2.out)⟩, X3⟩
        case measure => simp [intOf] <;> omega
      · obtain rfl : k = n := by omega
        have lb := left_bd (a := a) HM.out
        obtain ⟨c, hc⟩ : ∃ c : Nat, (c : Int) = left a x k := ⟨(left a x k).toNat, by omega⟩
        have cn : c ≤ k := by omega
        obtain rfl : l = (c : Int) := by
          rw [HL.out, ← (left_is HM.out).1, ← hc]
          exact IntWalk.i64_in _ (by omega)
        have HC := Lib.hid hc
        have XR := row_congr X.r (f' := rem a x k) (fun i hi => by simp only [hi, if_true])
        have XP := row_congr X.p (f' := quo a x k) (fun i hi => by simp only [hi, if_true])
        have B2 := X.below
        have LP := X.lp
        clear hc lb HL X
        go_wp2_with fail
        refine (furthest_go G2 k k (rem a x k) _ XR n0 (by omega)).mono ?_
        rintro e w2 ⟨f, rfl, F, fb, srt, pm, hb2⟩
        have HB := Lib.hid (And.intro fb (And.intro srt pm))
        have XP2 := XP.kept hb2
        have lt2 := XP.lt
        have B3 := bthen B2 hb2
        clear fb srt pm hb2 XP XR B2
        generalize hh : wr.heap.size + 1 = h at F ⊢
        have nh : G1 ≠ h := by omega
        clear hh lt2
        go_wp2_with fail
        go_loopw [63] (fun Y wr => ∃ j : Nat, j ≤ c ∧ Y = .int .i64 j ∧ Row wr G1 k (fun i => quo a x k i + one (tk f j i)) ∧ Row wr h k (fun i => (f i : Int)) ∧ Below w.heap.size w wr) (fun Y _ => c - (intOf Y).toNat)
        case atStart => exact ⟨0, by omega, rfl, row_congr XP2 (fun i _ => by simp [tk, one]), F, B3⟩
        case round =>
          clear XP2 F B3
          obtain ⟨j, hj, rfl, XP, F, B3⟩ := hrel
          by_cases hlt : j < c
          · have kj : j < k := by omega
            have fc := F.c j kj
            have fb := HB.out.1 j kj
            have p1 := XP.c (f j) fb
            have p2 := XP.fz (f j) fb
            have T := tk_new HB.out.2.1 kj
            rw [T] at p1
            have BE : Best (rem a x k) k (left a x k) (tk f c) := by rw [← HC.out]; exact first_best HB.out.2.1 HB.out.2.2 cn
            have r0 := more_pos HM.out BE fb ((tk_iff f (f j) c).2 ⟨j, hlt, rfl⟩)
            have up := quo_up HA.out HM.out fb r0
            have qf := quo_fit HA.out HM.out fb
            unfold Fit1 at qf
            obtain ⟨q0, _⟩ := qf
            have e0 : quo a x k (f j) + one false = quo a x k (f j) := by simp [one]
            rw [e0] at p1
            have XP2 := row_congr (XP.set (k := f j) (quo a x k (f j) + 1) fb) (f' := fun i => quo a x k i + one (tk f (j + 1) i)) (fun i _ => by
              rw [show tk f (j + 1) i = (if f j = i then true else tk f j i) from rfl]
              by_cases c1 : i = f j
              · subst c1; simp [one]
              · rw [if_neg c1, if_neg (fun e => c1 e.symm)])
            have F2 := F.other (f j) (.int .i64 (quo a x k (f j) + 1)) (fun e => nh e.symm)
            have B4 := bset B3 LP (f j) (.int .i64 (quo a x k (f j) + 1))
            have pj : (0 : Int) ≤ (j : Int) := by omega
            have bj : (j : Int) < (c : Int) := by omega
            have pf : (0 : Int) ≤ (f j : Int) := by omega
            have bf : (f j : Int) < (k : Int) := by omega
            generalize quo a x k (f j) = q at *
            generalize f j = y at fc fb p1 p2 XP2 F2 B4 pf bf
            clear T BE r0 e0 XP F B3
            go_wp2
            go_roundw
            case rel => exact ⟨j + 1, by omega, by go_num, XP2, F2, B4⟩
            case measure => simp [intOf] <;> omega
          · obtain rfl : j = c := by omega
            have Y : SplitRes w k (IsSplit a x k) (.returned (.tuple #[.slice (some ⟨G1, 0, none⟩) k k, .int .i64 0])) wr :=
              ⟨G1, _, rfl, XP, LP, ⟨tk f j, by rw [← HC.out]; exact first_best HB.out.2.1 HB.out.2.2 cn, fun i _ => rfl⟩, B3⟩
            have HY := Lib.hid Y
            clear Y XP F B3
            go_wp2
            exact bodyPost_ret (v := .tuple #[.slice (some ⟨G1, 0, none⟩) k k, .int .i64 0]) (by simp [results, Try.results6, go_sem]) rfl HY.out
  · have X : Sp w ((w1.alloc (.cells cs 2)).alloc (.cells cs 2)).drew (w1.heap.size + 1) w1.heap.size n (fun _ => 0) (fun _ => 0) := ⟨BB, R2, R1, by omega, by omega, SZ⟩
    clear R1 R2 BB SZ
    have FA := HA.out
    generalize ((w1.alloc (.cells cs 2)).alloc (.cells cs 2)).drew = W2 at X ⊢
    generalize w1.heap.size + 1 = G2 at X ⊢
    generalize w1.heap.size = G1 at X ⊢
    clear hb1 hmk FA
    go_wp2
    go_loopw [10, 32] (fun L Y wr => ∃ k : Nat, k ≤ n ∧ Y = .int .i64 k ∧ (∃ l, L = .int .i64 l ∧ Hid (l = IntKind.i64.wrap (a - sm (quo a x n) k))) ∧
      Sp w wr G2 G1 n (fun i => if i < k then quo a x n i else 0) (fun i => if i < k then rem a x n i else 0)) (fun _ Y _ => n - (intOf Y).toNat)
    case atStart => exact ⟨0, by omega, rfl, ⟨a, rfl, Lib.hid (by rw [show sm (quo a x n) 0 = 0 from rfl, Int.sub_zero]; exact (IntWalk.i64_in _ (by have := HA.out; unfold Fit1 at this; omega)).symm)⟩, X.congr (fun i _ => by simp) (fun i _ => by simp)⟩
    case round =>
      clear X
      obtain ⟨k, hk, rfl, ⟨l, rfl, HL⟩, X⟩ := hrel
      by_cases hlt : k < n
      · have hc := (X.below.cell (p := ⟨b, off + k, none⟩) hb).trans (HX.out k hlt)
        have cmk := fun W => CM.out k W hlt
        have E : Hid ((∀ i, i < n → (if i = k then quo a x n k else if i < k then quo a x n i else 0) = if i < k + 1 then quo a x n i else 0) ∧ (∀ i, i < n → (if i = k then rem a x n k else if i < k then rem a x n i else 0) = if i < k + 1 then rem a x n i else 0)) := by
          refine Lib.hid ⟨fun i _ => ?_, fun i _ => ?_⟩
          all_goals
            by_cases c1 : i = k
            · subst c1; rw [if_pos rfl, if_pos (by omega)]
            · by_cases c2 : i < k
              · rw [if_neg c1, if_pos c2, if_pos (by omega)]
              · rw [if_neg c1, if_neg c2, if_neg (by omega)]
        have HL2 : Hid (IntKind.i64.wrap (l - quo a x n k) = IntKind.i64.wrap (a - sm (quo a x n) (k + 1))) := Lib.hid (by
          have e1 : sm (quo a x n) (k + 1) = sm (quo a x n) k + quo a x n k := rfl
          have e2 := HL.out
          rw [IntKind.wrap_i64] at e2
          rw [e1, IntKind.wrap_i64, IntKind.wrap_i64]; omega)
        obtain ⟨xk, hxk⟩ : ∃ s, x k = s := ⟨_, rfl⟩
        obtain ⟨q, hq⟩ : ∃ s, quo a x n k = s := ⟨_, rfl⟩
        obtain ⟨r, hr⟩ : ∃ s, rem a x n k = s := ⟨_, rfl⟩
        rw [hxk] at hc
        rw [hxk, hq, hr] at cmk
        rw [hq, hr] at E
        rw [hq] at HL2
        clear hxk hq hr HL
        go_wp2_with fail
        refine (cmk _).mono ?_
        rintro e w2 ⟨rfl, hb2⟩
        replace X := X.kept hb2
        clear hb2 hc cmk
        have p1 := X.p.c k hlt
        have p2 := X.p.fz k hlt
        have r1 := X.r.c k hlt
        have r2 := X.r.fz k hlt
        have ne := X.ne
        generalize (if k < k then quo a x n k else 0) = u1 at p1
        generalize (if k < k then rem a x n k else 0) = u2 at r1
        have r3 : (w2.setCell ⟨G2, k, none⟩ (.int .i64 q)).cell? ⟨G1, k, none⟩ = some (.int .i64 u2) := by
          rw [World.cell?_setCell_other _ _ _ _ (by intro e; simp only [Addr.mk.injEq] at e; omega)]; exact r1
        have X2 := X.put hlt q r
        have p3 := X2.p.c k hlt
        simp only [if_true] at p3
        have X3 := X2.congr E.out.1 E.out.2
        have pp : (0 : Int) ≤ (k : Int) := by omega
        have bp : (k : Int) < (n : Int) := by omega
        clear X X2 E ne
        go_wp2
        go_roundw
        case rel => exact ⟨k + 1, by omega, by go_num, ⟨_, rfl, Lib.hid (by rw [← IntWalk.i64_left]; exact HL2.out)⟩, X3⟩
        case measure => simp [intOf] <;> omega
      · obtain rfl : k = n := by omega
        have lb := left_bd (a := a) HM.out
        obtain ⟨c, hc⟩ : ∃ c : Nat, (c : Int) = left a x k := ⟨(left a x k).toNat, by omega⟩
        have cn : c ≤ k := by omega
        obtain rfl : l = (c : Int) := by
          rw [HL.out, ← (left_is HM.out).1, ← hc]
          exact IntWalk.i64_in _ (by omega)
        have HC := Lib.hid hc
        have XR := row_congr X.r (f' := rem a x k) (fun i hi => by simp only [hi, if_true])
        have XP := row_congr X.p (f' := quo a x k) (fun i hi => by simp only [hi, if_true])
        have B2 := X.below
        have LP := X.lp
        clear hc lb HL X
        go_wp2_with fail
        refine (furthest_go G1 k k (rem a x k) _ XR n0 (by omega)).mono ?_
        rintro e w2 ⟨f, rfl, F, fb, srt, pm, hb2⟩
        have HB := Lib.hid (And.intro fb (And.intro srt pm))
        have XP2 := XP.kept hb2
        have lt2 := XP.lt
        have B3 := bthen B2 hb2
        clear fb srt pm hb2 XP XR B2
        generalize hh : wr.heap.size + 1 = h at F ⊢
        have nh : G2 ≠ h := by omega
        clear hh lt2
        go_wp2_with fail
        go_loopw [63] (fun Y wr => ∃ j : Nat, j ≤ c ∧ Y = .int .i64 j ∧ Row wr G2 k (fun i => quo a x k i + one (tk f j i)) ∧ Row wr h k (fun i => (f i : Int)) ∧ Below w.heap.size w wr) (fun Y _ => c - (intOf Y).toNat)
        case atStart => exact ⟨0, by omega, rfl, row_congr XP2 (fun i _ => by simp [tk, one]), F, B3⟩
        case round =>
          clear XP2 F B3
          obtain ⟨j, hj, rfl, XP, F, B3⟩ := hrel
          by_cases hlt : j < c
          · have kj : j < k := by omega
            have fc := F.c j kj
            have fb := HB.out.1 j kj
            have p1 := XP.c (f j) fb
            have p2 := XP.fz (f j) fb
            have T := tk_new HB.out.2.1 kj
            rw [T] at p1
            have BE : Best (rem a x k) k (left a x k) (tk f c) := by rw [← HC.out]; exact first_best HB.out.2.1 HB.out.2.2 cn
            have r0 := more_pos HM.out BE fb ((tk_iff f (f j) c).2 ⟨j, hlt, rfl⟩)
            have up := quo_up HA.out HM.out fb r0
            have qf := quo_fit HA.out HM.out fb
            unfold Fit1 at qf
            obtain ⟨q0, _⟩ := qf
            have e0 : quo a x k (f j) + one false = quo a x k (f j) := by simp [one]
            rw [e0] at p1
            have XP2 := row_congr (XP.set (k := f j) (quo a x k (f j) + 1) fb) (f' := fun i => quo a x k i + one (tk f (j + 1) i)) (fun i _ => by
              rw [show tk f (j + 1) i = (if f j = i then true else tk f j i) from rfl]
              by_cases c1 : i = f j
              · subst c1; simp [one]
              · rw [if_neg c1, if_neg (fun e => c1 e.symm)])
            have F2 := F.other (f j) (.int .i64 (quo a x k (f j) + 1)) (fun e => nh e.symm)
            have B4 := bset B3 LP (f j) (.int .i64 (quo a x k (f j) + 1))
            have pj : (0 : Int) ≤ (j : Int) := by omega
            have bj : (j : Int) < (c : Int) := by omega
            have pf : (0 : Int) ≤ (f j : Int) := by omega
            have bf : (f j : Int) < (k : Int) := by omega
            generalize quo a x k (f j) = q at *
            generalize f j = y at fc fb p1 p2 XP2 F2 B4 pf bf
            clear T BE r0 e0 XP F B3
            go_wp2
            go_roundw
            case rel => exact ⟨j + 1, by omega, by go_num, XP2, F2, B4⟩
            case measure => simp [intOf] <;> omega
          · obtain rfl : j = c := by omega
            have Y : SplitRes w k (IsSplit a x k) (.returned (.tuple #[.slice (some ⟨G2, 0, none⟩) k k, .int .i64 0])) wr :=
              ⟨G2, _, rfl, XP, LP, ⟨tk f j, by rw [← HC.out]; exact first_best HB.out.2.1 HB.out.2.2 cn, fun i _ => rfl⟩, B3⟩
            have HY := Lib.hid Y
            clear Y XP F B3
            go_wp2
            exact bodyPost_ret (v := .tuple #[.slice (some ⟨G2, 0, none⟩) k k, .int .i64 0]) (by simp [results, Try.results6, go_sem]) rfl HY.out

end Go.Proofs.Ytodpmdmfdnbehab.Sr
