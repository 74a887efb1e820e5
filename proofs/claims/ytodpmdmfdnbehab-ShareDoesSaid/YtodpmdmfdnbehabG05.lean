/- Texts of this claim, joined: Srexact, Sdoes, Sdoesw, FShareDoes. -/
import Derived.Test.YtodpmdmfdnbehabG04
import Derived.Test.YtodpmdmfdnbehabRows
import Derived.WalkKit
import Derived.ProofKit
import Derived.OpenShut
import Derived.ShutString
import Derived.ChangeOld
import Derived.Below
import Derived.Lib.SmallJoins
/- Exact of the reference of layer 4, where the weights may be. -/
namespace Go.Proofs.Ytodpmdmfdnbehab.Sr
set_option linter.unusedSimpArgs false
set_option linter.unusedVariables false
open Go.RowKit Go.Proofs.Ytodpmdmfdnbehab.Vm Go.Proofs.Ytodpmdmfdnbehab.Vc Go.Proofs.Ytodpmdmfdnbehab.Pr Go.Proofs.Ytodpmdmfdnbehab.Rk Go.Proofs.Ytodpmdmfdnbehab.Sm Go.Proofs.Ytodpmdmfdnbehab.Om Go.Proofs.Ytodpmdmfdnbehab.Qm

set_option maxHeartbeats 2000000

theorem rinfoR : (Try.prog.info? 50).map (fun i => (i.zero, i.size, i.bytes)) = some (some (.agg #[.int .i64 0, .int .i64 0]), 2, 16) := by kernel_rfl
theorem runderR : Try.prog.underlying 27 = some (.slice 50) := by kernel_rfl

def RExactRes (w : World) (n : Nat) (N D : Nat → Int) (e : Ending) (w' : World) : Prop :=
  ∃ g cap : Nat, e = .returned (.tuple #[.slice (some ⟨g, 0, none⟩) n cap, .int .i64 0]) ∧ Rowp w' g n N D ∧ w.heap.size ≤ g ∧ Below w.heap.size w w'

set_option maxRecDepth 100000 in
theorem rexact_go (A : Option Addr) (n cap : Nat) (zs : List Int) (a : Int) (N D : Nat → Int) (w : World) (hn : zs.length = n) (n0 : 0 < n) (n1 : n ≤ 300) (fa : Fit1 a) (hf : ∀ z ∈ zs, Fit1 z) (hr : Rd w w.heap.size A zs) (hp : ∀ z ∈ zs, 0 ≤ z) (hs : 0 < zs.sum) (fs : Fit1 zs.sum)
    (R : ∀ i, i < n → Rat1 (a * wt zs i) zs.sum (N i) (D i) 0) :
    Calls Try.prog 9 #[.int .i64 a, .slice A n cap] w (RExactRes w n N D) := by
  have ct := fun w h => rAll_any A n cap zs zs.sum 0 w hn (.inl n1) (by omega) hf h (.inr (.inr ⟨by omega, hp, .inr (.inr ⟨hs, fs, rfl, rfl⟩)⟩))
  obtain ⟨b, off, rfl, hb, hcell⟩ := hr.resolve_left (by intro e; rw [e] at hn; simp at hn; omega)
  have M : MayBe (wt zs) n := by rw [← hn]; exact may_list hp hs
  have te : tot (wt zs) n = zs.sum := by rw [← hn]; exact sm_list zs
  obtain ⟨t, ht⟩ : ∃ t, t = zs.sum := ⟨_, rfl⟩
  rw [← ht] at ct te hs fs R
  obtain ⟨x, hx⟩ : ∃ x, x = wt zs := ⟨_, rfl⟩
  have hcell2 : ∀ i, i < n → w.cell? ⟨b, off + i, none⟩ = some (.int .i64 (x i)) := fun i hi => by rw [hx]; exact hcell i (by omega)
  have fx : ∀ i, i < n → Fit1 (x i) := fun i hi => by rw [hx]; exact hf _ (getD_mem (by omega))
  rw [← hx] at M te R
  have CM : Hid (∀ i, i < n → ∃ N1 D1, (∀ W, Calls Try.prog 22 #[.int .i64 (x i), .int .i64 t] W fun e w' => e = .returned (.tuple #[.agg #[.int .i64 N1, .int .i64 D1], .int .i64 0]) ∧ Below W.heap.size W w') ∧
      (∀ W, Calls Try.prog 23 #[.agg #[.int .i64 a, .int .i64 1], .agg #[.int .i64 N1, .int .i64 D1]] W fun e w' => e = .returned (.tuple #[.agg #[.int .i64 (N i), .int .i64 (D i)], .int .i64 0]) ∧ Below W.heap.size W w')) :=
    Lib.hid (fun i hi => by
      obtain ⟨N1, D1, m1, f1, f2, o1⟩ := share_op (a := a) (M.1 i hi) (by have := w_le M hi; rw [te] at this; exact this) hs fs (R i hi)
      exact ⟨N1, D1, fun W => Kc.rMake_any (x i) t N1 D1 0 W (fx i hi) fs m1, fun W => Kc.rMul_op a 1 N1 D1 (N i) (D i) 0 W fa (by unfold Fit1; omega) f1 f2 o1⟩)
  have HX := Lib.hid hcell2
  have ct0 := ct w hr
  obtain ⟨i0, hi, hz0, hz1, hz2⟩ := info_parts rinfoR
  clear ct hcell hcell2 M te fx hr hp hf hn ht hx hs fs R fa
  go_enter Try.func9, Try.ntmps9
  go_wp2_with fail
  refine ct0.mono ?_
  rintro e w1 ⟨rfl, hb1⟩
  clear ct0
  go_wp2
  go_loopw [8, 25] (fun O Y wr => ∃ k : Nat, k ≤ n ∧ Y = .int .i64 k ∧ One2 50 w wr O k N D) (fun _ Y _ => n - (intOf Y).toNat)
  case atStart => exact ⟨0, by omega, rfl, One2.start _ w hb1 N D⟩
  case round =>
    clear hb1
    obtain ⟨k, hk, rfl, X⟩ := hrel
    by_cases hlt : k < n
    · have hc := (X.below.cell (p := ⟨b, off + k, none⟩) hb).trans (HX.out k hlt)
      obtain ⟨N1, D1, c1, c2⟩ := CM.out k hlt
      generalize x k = xk at hc c1
      obtain ⟨Nk, hNk⟩ : ∃ y, N k = y := ⟨_, rfl⟩
      obtain ⟨Dk, hDk⟩ : ∃ y, D k = y := ⟨_, rfl⟩
      rw [hNk, hDk] at c2
      have HK := Lib.hid (And.intro hNk hDk)
      clear hNk hDk
      go_wp2_with fail
      refine (c1 _).mono ?_
      rintro e w2 ⟨rfl, hb2⟩
      replace X := X.kept hb2
      clear hb2 hc c1
      go_wp2_with fail
      refine (c2 _).mono ?_
      rintro e w3 ⟨rfl, hb2⟩
      have A3 : Below w2.heap.size w2 (w2.alloc (.cells #[.int .i64 N1, .int .i64 D1] 50)) := balloc (Below.refl _ _) _
      have A4 : Below w3.heap.size w3 (w3.alloc (.cells #[.int .i64 Nk, .int .i64 Dk] 50)) := balloc (Below.refl _ _) _
      replace X := ((X.kept A3).kept hb2).kept A4
      clear hb2 c2 A3 A4
      have sz := X.below.size
      rw [World.size_alloc] at sz
      go_wp2_with (first
        | (at_builtin; refine wpList_append_lies _ rfl _ _ 27 rfl w.heap.size 50 i0 (.agg #[.int .i64 0, .int .i64 0]) 2 16 runderR hi hz0 hz1 hz2 rfl (by decide) _ k (lst2 N D k) rfl (X.a.alloc _) ⟨w3.heap.size + 1, 0, none⟩ 1 1 [.int .i64 Nk, .int .i64 Dk] rfl rfl ?c1 ?c2 (by omega) ?c3 ?c4 ?c5 _ rfl ?m1))
      case c1 =>
        intro j u hj
        match j, hj with
        | 0, hj => simp at hj; subst hj; simp [Addr.add, go_sem]
        | 1, hj => simp at hj; subst hj; simp [Addr.add, go_sem]
      case c2 => intro u hu; simp at hu; rcases hu with rfl | rfl <;> rfl
      case c3 => unfold maxLen; omega
      case c4 => omega
      case c5 => simp; omega
      case m1 =>
        intro g1 cap1 w4 hown1 hgrow1 hat1 hlt1
        have X2 := X.next (o1 := .cells #[.int .i64 Nk, .int .i64 Dk] 50) (by rw [HK.out.1, HK.out.2]; exact hown1) hgrow1
        clear hown1 hgrow1 hat1 hlt1 X sz
        go_wp2
        go_roundw
        case rel => exact ⟨k + 1, by omega, by go_num, X2⟩
        case measure => simp [intOf] <;> omega
    · obtain rfl : k = n := by omega
      obtain ⟨g1, cap1, rfl, hg1, lt1⟩ := X.a.form n0
      have Y : RExactRes w k N D (.returned (.tuple #[.slice (some ⟨g1, 0, none⟩) k cap1, .int .i64 0])) _ := ⟨g1, cap1, rfl, Rowp.of_owns X.a n0, hg1, X.below⟩
      have HY := Lib.hid Y
      clear Y X
      go_wp2
      exact bodyPost_ret (v := .tuple #[.slice (some ⟨g1, 0, none⟩) k cap1, .int .i64 0]) (by simp [results, Try.results9, go_sem]) rfl HY.out

set_option maxRecDepth 100000 in
theorem rexact_over (A : Option Addr) (n cap : Nat) (zs : List Int) (a : Int) (N D : Nat → Int) (k0 : Nat) (hk0 : k0 < n) (w : World) (hn : zs.length = n) (n0 : 0 < n) (n1 : n ≤ 300) (fa : Fit1 a) (hf : ∀ z ∈ zs, Fit1 z) (hr : Rd w w.heap.size A zs) (hp : ∀ z ∈ zs, 0 ≤ z) (hs : 0 < zs.sum) (fs : Fit1 zs.sum)
    (R : ∀ i, i < k0 → Rat1 (a * wt zs i) zs.sum (N i) (D i) 0) (RE : Rat1 (a * wt zs k0) zs.sum 0 0 2) :
    Calls Try.prog 9 #[.int .i64 a, .slice A n cap] w fun e w' => e = .returned (.tuple #[.slice none 0 0, .int .i64 2]) ∧ Below w.heap.size w w' := by
  have ct := fun w h => rAll_any A n cap zs zs.sum 0 w hn (.inl n1) (by omega) hf h (.inr (.inr ⟨by omega, hp, .inr (.inr ⟨hs, fs, rfl, rfl⟩)⟩))
  obtain ⟨b, off, rfl, hb, hcell⟩ := hr.resolve_left (by intro e; rw [e] at hn; simp at hn; omega)
  have M : MayBe (wt zs) n := by rw [← hn]; exact may_list hp hs
  have te : tot (wt zs) n = zs.sum := by rw [← hn]; exact sm_list zs
  obtain ⟨t, ht⟩ : ∃ t, t = zs.sum := ⟨_, rfl⟩
  rw [← ht] at ct te hs fs R RE
  obtain ⟨x, hx⟩ : ∃ x, x = wt zs := ⟨_, rfl⟩
  have hcell2 : ∀ i, i < n → w.cell? ⟨b, off + i, none⟩ = some (.int .i64 (x i)) := fun i hi => by rw [hx]; exact hcell i (by omega)
  have fx : ∀ i, i < n → Fit1 (x i) := fun i hi => by rw [hx]; exact hf _ (getD_mem (by omega))
  rw [← hx] at M te R RE
  have CM : Hid (∀ i, i < k0 → ∃ N1 D1, (∀ W, Calls Try.prog 22 #[.int .i64 (x i), .int .i64 t] W fun e w' => e = .returned (.tuple #[.agg #[.int .i64 N1, .int .i64 D1], .int .i64 0]) ∧ Below W.heap.size W w') ∧
      (∀ W, Calls Try.prog 23 #[.agg #[.int .i64 a, .int .i64 1], .agg #[.int .i64 N1, .int .i64 D1]] W fun e w' => e = .returned (.tuple #[.agg #[.int .i64 (N i), .int .i64 (D i)], .int .i64 0]) ∧ Below W.heap.size W w')) :=
    Lib.hid (fun i hi => by
      obtain ⟨N1, D1, m1, f1, f2, o1⟩ := share_op (a := a) (M.1 i (by omega)) (by have := w_le M (show i < n by omega); rw [te] at this; exact this) hs fs (R i hi)
      exact ⟨N1, D1, fun W => Kc.rMake_any (x i) t N1 D1 0 W (fx i (by omega)) fs m1, fun W => Kc.rMul_op a 1 N1 D1 (N i) (D i) 0 W fa (by unfold Fit1; omega) f1 f2 o1⟩)
  have CE : Hid (∃ N1 D1, (∀ W, Calls Try.prog 22 #[.int .i64 (x k0), .int .i64 t] W fun e w' => e = .returned (.tuple #[.agg #[.int .i64 N1, .int .i64 D1], .int .i64 0]) ∧ Below W.heap.size W w') ∧
      (∀ W, Calls Try.prog 23 #[.agg #[.int .i64 a, .int .i64 1], .agg #[.int .i64 N1, .int .i64 D1]] W fun e w' => e = .returned (.tuple #[.agg #[.int .i64 0, .int .i64 0], .int .i64 2]) ∧ Below W.heap.size W w')) :=
    Lib.hid (by
      obtain ⟨N1, D1, m1, f1, f2, o1⟩ := share_op (a := a) (M.1 k0 hk0) (by have := w_le M hk0; rw [te] at this; exact this) hs fs RE
      exact ⟨N1, D1, fun W => Kc.rMake_any (x k0) t N1 D1 0 W (fx k0 hk0) fs m1, fun W => Kc.rMul_op a 1 N1 D1 0 0 2 W fa (by unfold Fit1; omega) f1 f2 o1⟩)
  have HX := Lib.hid hcell2
  have ct0 := ct w hr
  obtain ⟨i0, hi, hz0, hz1, hz2⟩ := info_parts rinfoR
  clear ct hcell hcell2 M te fx hr hp hf hn ht hx hs fs R RE fa
  go_enter Try.func9, Try.ntmps9
  go_wp2_with fail
  refine ct0.mono ?_
  rintro e w1 ⟨rfl, hb1⟩
  clear ct0
  go_wp2
  go_loopw [8, 25] (fun O Y wr => ∃ k : Nat, k ≤ k0 ∧ Y = .int .i64 k ∧ One2 50 w wr O k N D) (fun _ Y _ => n - (intOf Y).toNat)
  case atStart => exact ⟨0, by omega, rfl, One2.start _ w hb1 N D⟩
  case round =>
    clear hb1
    obtain ⟨k, hk, rfl, X⟩ := hrel
    by_cases hlt0 : k < k0
    · have hlt : k < n := by omega
      have hc := (X.below.cell (p := ⟨b, off + k, none⟩) hb).trans (HX.out k hlt)
      obtain ⟨N1, D1, c1, c2⟩ := CM.out k hlt0
      generalize x k = xk at hc c1
      obtain ⟨Nk, hNk⟩ : ∃ y, N k = y := ⟨_, rfl⟩
      obtain ⟨Dk, hDk⟩ : ∃ y, D k = y := ⟨_, rfl⟩
      rw [hNk, hDk] at c2
      have HK := Lib.hid (And.intro hNk hDk)
      clear hNk hDk
      go_wp2_with fail
      refine (c1 _).mono ?_
      rintro e w2 ⟨rfl, hb2⟩
      replace X := X.kept hb2
      clear hb2 hc c1
      go_wp2_with fail
      refine (c2 _).mono ?_
      rintro e w3 ⟨rfl, hb2⟩
      have A3 : Below w2.heap.size w2 (w2.alloc (.cells #[.int .i64 N1, .int .i64 D1] 50)) := balloc (Below.refl _ _) _
      have A4 : Below w3.heap.size w3 (w3.alloc (.cells #[.int .i64 Nk, .int .i64 Dk] 50)) := balloc (Below.refl _ _) _
      replace X := ((X.kept A3).kept hb2).kept A4
      clear hb2 c2 A3 A4
      have sz := X.below.size
      rw [World.size_alloc] at sz
      go_wp2_with (first
        | (at_builtin; refine wpList_append_lies _ rfl _ _ 27 rfl w.heap.size 50 i0 (.agg #[.int .i64 0, .int .i64 0]) 2 16 runderR hi hz0 hz1 hz2 rfl (by decide) _ k (lst2 N D k) rfl (X.a.alloc _) ⟨w3.heap.size + 1, 0, none⟩ 1 1 [.int .i64 Nk, .int .i64 Dk] rfl rfl ?c1 ?c2 (by omega) ?c3 ?c4 ?c5 _ rfl ?m1))
      case c1 =>
        intro j u hj
        match j, hj with
        | 0, hj => simp at hj; subst hj; simp [Addr.add, go_sem]
        | 1, hj => simp at hj; subst hj; simp [Addr.add, go_sem]
      case c2 => intro u hu; simp at hu; rcases hu with rfl | rfl <;> rfl
      case c3 => unfold maxLen; omega
      case c4 => omega
      case c5 => simp; omega
      case m1 =>
        intro g1 cap1 w4 hown1 hgrow1 hat1 hlt1
        have X2 := X.next (o1 := .cells #[.int .i64 Nk, .int .i64 Dk] 50) (by rw [HK.out.1, HK.out.2]; exact hown1) hgrow1
        clear hown1 hgrow1 hat1 hlt1 X sz
        go_wp2
        go_roundw
        case rel => exact ⟨k + 1, by omega, by go_num, X2⟩
        case measure => simp [intOf] <;> omega
    · obtain rfl : k = k0 := by omega
      have hc := (X.below.cell (p := ⟨b, off + k, none⟩) hb).trans (HX.out k hk0)
      obtain ⟨N1, D1, c1, c2⟩ := CE.out
      generalize x k = xk at hc c1
      go_wp2_with fail
      refine (c1 _).mono ?_
      rintro e w2 ⟨rfl, hb2⟩
      replace X := X.kept hb2
      clear hb2 hc c1
      go_wp2_with fail
      refine (c2 _).mono ?_
      rintro e w3 ⟨rfl, hb2⟩
      have B2 := balloc (bthen (balloc X.below (.cells #[.int .i64 N1, .int .i64 D1] 50)) hb2) (.cells #[.int .i64 0, .int .i64 0] 50)
      clear hb2 c2 X
      go_wp2
      go_ret2
      exact ⟨rfl, B2⟩

theorem rsplit_no (A : Option Addr) (n cap : Nat) (zs : List Int) (a v er : Int) (w : World) (hn : zs.length = n) (hm : n ≤ 300 ∨ 4096 < n) (hm2 : (n : Int) ≤ 9223372036854775807) (hf : ∀ z ∈ zs, Fit1 z) (hr : Rd w w.heap.size A zs) (R : AllRes zs v er) (h : er ≠ 0) :
    Calls Try.prog 7 #[.int .i64 a, .slice A n cap] w fun e w' => e = .returned (.tuple #[.slice none 0 0, .int .i64 er]) ∧ Below w.heap.size w w' := by
  have ct := rAll_any A n cap zs v er w hn hm hm2 hf hr R
  have d : (er != 0) = true := bne_iff_ne.2 h
  clear R h hf hr hn hm
  go_enter Try.func7, Try.ntmps7
  go_wp2_with fail
  refine ct.mono ?_
  rintro e w1 ⟨rfl, hb1⟩
  go_wp2
  go_ret2
  exact ⟨rfl, hb1⟩

theorem rexact_no (A : Option Addr) (n cap : Nat) (zs : List Int) (a v er : Int) (w : World) (hn : zs.length = n) (hm : n ≤ 300 ∨ 4096 < n) (hm2 : (n : Int) ≤ 9223372036854775807) (hf : ∀ z ∈ zs, Fit1 z) (hr : Rd w w.heap.size A zs) (R : AllRes zs v er) (h : er ≠ 0) :
    Calls Try.prog 9 #[.int .i64 a, .slice A n cap] w fun e w' => e = .returned (.tuple #[.slice none 0 0, .int .i64 er]) ∧ Below w.heap.size w w' := by
  have ct := rAll_any A n cap zs v er w hn hm hm2 hf hr R
  have d : (er != 0) = true := bne_iff_ne.2 h
  clear R h hf hr hn hm
  go_enter Try.func9, Try.ntmps9
  go_wp2_with fail
  refine ct.mono ?_
  rintro e w1 ⟨rfl, hb1⟩
  go_wp2
  go_ret2
  exact ⟨rfl, hb1⟩

theorem SameRatios_yes (A B : Option Addr) (n c1 c2 : Nat) (f d : Nat → Int) (w : World) (hm : (n : Int) ≤ 9223372036854775807) (hA : n = 0 ∨ ∃ b, A = some ⟨b, 0, none⟩ ∧ Rowp w b n f d) (hB : n = 0 ∨ ∃ b, B = some ⟨b, 0, none⟩ ∧ Rowp w b n f d) :
    Calls Try.prog 11 #[.slice A n c1, .slice B n c2] w fun e w' => e = .returned (.bool true) ∧ Below w.heap.size w w' := by
  have HA := Lib.hid hA
  have HB := Lib.hid hB
  clear hA hB
  go_enter Try.func11, Try.ntmps11
  go_wp2
  go_loopw [13] (fun x wr => ∃ k : Nat, k ≤ n ∧ x = .int .i64 k ∧ ∃ q, wr = w.drewN q) (fun x _ => n - (intOf x).toNat)
  case atStart => exact ⟨0, by omega, rfl, 0, rfl⟩
  case round =>
    obtain ⟨k, hk, rfl, q, rfl⟩ := hrel
    by_cases hlt : k < n
    · obtain ⟨b1, rfl, h1⟩ := HA.out.resolve_left (by omega)
      obtain ⟨b2, rfl, h2⟩ := HB.out.resolve_left (by omega)
      have k1 := h1.c0 k hlt
      have k2 := h2.c0 k hlt
      have k3 := h1.c1 k hlt
      have k4 := h2.c1 k hlt
      generalize f k = v at k1 k2
      generalize d k = u at k3 k4
      have pp : (0 : Int) ≤ (k : Int) := by omega
      have bp : (k : Int) < (n : Int) := by omega
      clear h1 h2
      go_wp2_with fail
      go_quiet (fail)
      go_wp2
      go_roundw
      case rel => exact ⟨k + 1, by omega, by go_num, _, rfl⟩
      case measure => simp [intOf] <;> omega
    · obtain rfl : k = n := by omega
      go_wp2
      go_ret
      exact ⟨rfl, bdrewN (Below.refl _ w) _⟩

end Go.Proofs.Ytodpmdmfdnbehab.Sr

/- ShareDoes' walk: where the weights may not be. -/
namespace Go.Proofs.Ytodpmdmfdnbehab.Sl
set_option linter.unusedSimpArgs false
set_option linter.unusedVariables false
open Go.RowKit Go.Proofs.Ytodpmdmfdnbehab.Vm Go.Proofs.Ytodpmdmfdnbehab.Vc Go.Proofs.Ytodpmdmfdnbehab.Pr Go.Proofs.Ytodpmdmfdnbehab.Rk Go.Proofs.Ytodpmdmfdnbehab.Sm Go.Proofs.Ytodpmdmfdnbehab.Om Go.Proofs.Ytodpmdmfdnbehab.Os Go.Proofs.Ytodpmdmfdnbehab.Sr Go.Proofs.Ytodpmdmfdnbehab.Qm

set_option maxHeartbeats 2000000

/-- nothing put behind nothing -/
theorem append_none (A : Option Addr) (c : Nat) (w : World) : (Builtin.append_ #[22, 22] 22 #[.slice none 0 0, .slice A 0 c]).run Try.prog w = .ok (.slice none 0 0) w := by
  obtain ⟨i0, hi, hz0, hz1, hz2⟩ := info_parts infoL
  cases A <;> simp [Builtin.append_, run_underlying underL, sizeOf, typeInfo, hi, Builtin.lenOf, Builtin.firstCells, storeCells, loadCells, loadCellsFrom]

set_option maxRecDepth 100000 in
theorem does_err (a : Int) (b off n cap : Nat) (zs : List Int) (v er : Int) (w : World) (hn : zs.length = n) (n0 : 0 < n) (hcap : n ≤ cap) (hm : (n ≤ 60) ∨ (4096 < n ∧ n ≤ 4100)) (fz : ∀ z ∈ zs, Fit1 z) (R0 : Rd w w.heap.size (some ⟨b, off, none⟩) zs) (hb : b < w.heap.size)
    (hcell : ∀ i, i < n → w.cell? ⟨b, off + i, none⟩ = some (.int .i64 (wt zs i))) (R : AllRes zs v er) (he : er ≠ 0) :
    Calls Try.prog 3 #[.int .i64 a, .slice (some ⟨b, off, none⟩) n cap] w fun e w' => e = .returned (.bool true) ∧ Below w.heap.size w w' := by
  have c1 := fun w h => split_no (some ⟨b, off, none⟩) n cap zs a v er w hn (by omega) fz h R he
  have c2 := fun w h => rsplit_no (some ⟨b, off, none⟩) n cap zs a v er w hn (by omega) (by omega) fz h R he
  have c3 := fun w h => exact_no (some ⟨b, off, none⟩) n cap zs a v er w hn (by omega) fz h R he
  have c4 := fun w h => rexact_no (some ⟨b, off, none⟩) n cap zs a v er w hn (by omega) (by omega) fz h R he
  obtain ⟨i0, hi, hz0, hz1, hz2⟩ := info_parts infoL
  have HR := Lib.hid R0
  have HX := Lib.hid hcell
  have n9 : (n : Int) ≤ 9223372036854775807 := by omega
  have D : (decide ((60 : Int) < (n : Int)) = false ∧ decide ((4100 : Int) < (n : Int)) = false) ∨ (decide ((60 : Int) < (n : Int)) = true ∧ decide ((n : Int) ≤ 4096) = false ∧ decide ((4100 : Int) < (n : Int)) = false) := by
    rcases hm with h | ⟨h, h'⟩
    · exact .inl ⟨decide_eq_false (by omega), decide_eq_false (by omega)⟩
    · exact .inr ⟨decide_eq_true (by omega), decide_eq_false (by omega), decide_eq_false (by omega)⟩
  have de : (er == er) = true := by simp
  have n4 : n ≤ 4100 := by omega
  clear R he fz R0 hcell hm hn
  rcases D with ⟨d1, d2⟩ | ⟨d1, d2, d3⟩
  all_goals
    go_enter Try.func3, Try.ntmps3
    go_wp2_with fail
    refine (slive_ok _).mono ?_
    rintro e w1 ⟨rfl, hb1⟩
    have sz := hb1.size
    go_wp2_with (first
      | (at_builtin; refine wpList_append_lies _ rfl _ _ 22 rfl w.heap.size 2 i0 (.int .i64 0) 1 8 underL hi hz0 hz1 hz2 rfl (by decide) _ 0 [] rfl (World.ownsRow_nil _ _ _ _) ⟨b, off, none⟩ n cap (lst (wt zs) n) rfl ?k0 ?k1 ?k2 n0 ?k3 ?k4 ?k5 _ rfl ?m1))
    case k0 => rw [lst_len, Nat.mul_one]
    case k1 =>
      intro j u hj
      by_cases h : j < n
      · rw [lst_at _ h] at hj
        cases hj
        have hh := (hb1.cell (p := ⟨b, off + j, none⟩) hb).trans (HX.out j h)
        have e : (⟨b, off, none⟩ : Addr).add j = ⟨b, off + j, none⟩ := by cases j <;> simp [Addr.add]
        rw [e]; exact hh
      · rw [List.getElem?_eq_none (by rw [lst_len]; omega)] at hj; cases hj
    case k2 =>
      intro u hu
      unfold lst at hu
      obtain ⟨j, _, rfl⟩ := List.mem_map.1 hu
      rfl
    case k3 => unfold maxLen; omega
    case k4 => omega
    case k5 => omega
    case m1 =>
      intro g0 cap0 w2 hown hgrow hat hlt
      have RW : Row w2 g0 n (wt zs) := Row.of_owns (cap := cap0) (base := w.heap.size) (e := 2) (by simpa using hown) n0
      have B1 : Below w.heap.size w w2 := below_grown hb1 hgrow (fun x e => by cases e) (Nat.le_refl _)
      clear hown hgrow hat hlt hb1 sz
      go_wp2_with fail
      refine (c1 _ (rdk HR.out B1)).mono ?_
      rintro e w3 ⟨rfl, hb2⟩
      replace B1 := bthen B1 hb2
      replace RW := RW.kept hb2
      clear hb2
      go_wp2_with fail
      refine (c2 _ (rdk HR.out B1)).mono ?_
      rintro e w4 ⟨rfl, hb2⟩
      replace B1 := bthen B1 hb2
      replace RW := RW.kept hb2
      clear hb2
      go_wp2_with fail
      refine (c3 _ (rdk HR.out B1)).mono ?_
      rintro e w5 ⟨rfl, hb2⟩
      replace B1 := bthen B1 hb2
      replace RW := RW.kept hb2
      clear hb2
      go_wp2_with fail
      refine (c4 _ (rdk HR.out B1)).mono ?_
      rintro e w6 ⟨rfl, hb2⟩
      replace B1 := bthen B1 hb2
      replace RW := RW.kept hb2
      clear hb2
      go_wp2_with fail
      refine (Same_yes none none 0 0 0 (fun _ => 0) _ (by omega) (.inl rfl) (.inl rfl)).mono ?_
      rintro e w7 ⟨rfl, hb2⟩
      replace B1 := bthen B1 hb2
      replace RW := RW.kept hb2
      clear hb2
      go_wp2_with fail
      refine (SameRatios_yes none none 0 0 0 (fun _ => 0) (fun _ => 0) _ (by omega) (.inl rfl) (.inl rfl)).mono ?_
      rintro e w8 ⟨rfl, hb2⟩
      replace B1 := bthen B1 hb2
      replace RW := RW.kept hb2
      clear hb2
      go_wp2
      go_loopw [77] (fun Y wr => Y = .int .i64 0 ∧ Below w.heap.size w wr ∧ Row wr g0 n (wt zs)) (fun _ _ => 0)
      case atStart => exact ⟨rfl, B1, RW⟩
      case round =>
        clear B1 RW
        obtain ⟨rfl, B1, RW⟩ := hrel
        go_wp2_with fail
        refine (Same_yes (some ⟨b, off, none⟩) (some ⟨g0, 0, none⟩) n cap cap0 (wt zs) _ n9 (.inr ⟨b, off, rfl, fun i hi => (B1.cell (p := ⟨b, off + i, none⟩) hb).trans (HX.out i hi)⟩) (.inr ⟨g0, 0, rfl, fun i hi => by rw [Nat.zero_add]; exact RW.c i hi⟩)).mono ?_
        rintro e w9 ⟨rfl, hb2⟩
        replace B1 := bthen B1 hb2
        go_wp2
        go_ret
        exact ⟨rfl, B1⟩

set_option maxRecDepth 100000 in
theorem does_ok (a : Int) (b off n cap : Nat) (zs : List Int) (N D : Nat → Int) (w : World) (hn : zs.length = n) (n0 : 0 < n) (hcap : n ≤ cap) (hm : n ≤ 60) (fa : Fit1 a) (fz : ∀ z ∈ zs, Fit1 z) (R0 : Rd w w.heap.size (some ⟨b, off, none⟩) zs) (hb : b < w.heap.size)
    (hcell : ∀ i, i < n → w.cell? ⟨b, off + i, none⟩ = some (.int .i64 (wt zs i))) (hp : ∀ z ∈ zs, 0 ≤ z) (hs : 0 < zs.sum) (fs : Fit1 zs.sum) (R : ∀ i, i < n → Rat1 (a * wt zs i) zs.sum (N i) (D i) 0) :
    Calls Try.prog 3 #[.int .i64 a, .slice (some ⟨b, off, none⟩) n cap] w fun e w' => e = .returned (.bool true) ∧ Below w.heap.size w w' := by
  have c1 := fun w h => split_go (some ⟨b, off, none⟩) n cap zs a w hn n0 (by omega) fa fz h hp hs fs
  have c2 := fun w h => rsplit_go (some ⟨b, off, none⟩) n cap zs a w hn n0 (by omega) fa fz h hp hs fs
  have c3 := fun w h => exact_go (some ⟨b, off, none⟩) n cap zs a N D w hn n0 (by omega) fa fz h hp hs fs R
  have c4 := fun w h => rexact_go (some ⟨b, off, none⟩) n cap zs a N D w hn n0 (by omega) fa fz h hp hs fs R
  obtain ⟨i0, hi, hz0, hz1, hz2⟩ := info_parts infoL
  have HR := Lib.hid R0
  have HX := Lib.hid hcell
  have n9 : (n : Int) ≤ 9223372036854775807 := by omega
  have d1 : decide ((60 : Int) < (n : Int)) = false := decide_eq_false (by omega)
  have d2 : decide ((4100 : Int) < (n : Int)) = false := decide_eq_false (by omega)
  clear R fz R0 hcell hn hp hs fs fa
  go_enter Try.func3, Try.ntmps3
  go_wp2_with fail
  refine (slive_ok _).mono ?_
  rintro e w1 ⟨rfl, hb1⟩
  have sz := hb1.size
  go_wp2_with (first
    | (at_builtin; refine wpList_append_lies _ rfl _ _ 22 rfl w.heap.size 2 i0 (.int .i64 0) 1 8 underL hi hz0 hz1 hz2 rfl (by decide) _ 0 [] rfl (World.ownsRow_nil _ _ _ _) ⟨b, off, none⟩ n cap (lst (wt zs) n) rfl ?k0 ?k1 ?k2 n0 ?k3 ?k4 ?k5 _ rfl ?m1))
  case k0 => rw [lst_len, Nat.mul_one]
  case k1 =>
    intro j u hj
    by_cases h : j < n
    · rw [lst_at _ h] at hj
      cases hj
      have hh := (hb1.cell (p := ⟨b, off + j, none⟩) hb).trans (HX.out j h)
      have e : (⟨b, off, none⟩ : Addr).add j = ⟨b, off + j, none⟩ := by cases j <;> simp [Addr.add]
      rw [e]; exact hh
    · rw [List.getElem?_eq_none (by rw [lst_len]; omega)] at hj; cases hj
  case k2 =>
    intro u hu
    unfold lst at hu
    obtain ⟨j, _, rfl⟩ := List.mem_map.1 hu
    rfl
  case k3 => unfold maxLen; omega
  case k4 => omega
  case k5 => omega
  case m1 =>
    intro g0 cap0 w2 hown hgrow hat hlt
    have RW : Row w2 g0 n (wt zs) := Row.of_owns (cap := cap0) (base := w.heap.size) (e := 2) (by simpa using hown) n0
    have B1 : Below w.heap.size w w2 := below_grown hb1 hgrow (fun x e => by cases e) (Nat.le_refl _)
    clear hown hgrow hat hlt hb1 sz
    go_wp2_with fail
    refine (c1 _ (rdk HR.out B1)).mono ?_
    rintro e w3 ⟨g, o, rfl, ro, gl, ho, hb2⟩
    have gg : g ≠ g0 := by have := RW.lt; omega
    have gw : w.heap.size ≤ g := Nat.le_trans B1.size gl
    have HO := Lib.hid ho
    replace B1 := bthen B1 hb2
    replace RW := RW.kept hb2
    clear hb2 ho gl
    go_wp2_with fail
    refine (c2 _ (rdk HR.out B1)).mono ?_
    rintro e w4 ⟨g', cap', o', rfl, ro', _, ho', hb2⟩
    have U := split_unique HO.out ho'
    replace ro' := Os.row_congr ro' (f' := o) (fun i hi => (U i hi).symm)
    replace B1 := bthen B1 hb2
    replace RW := RW.kept hb2
    replace ro := ro.kept hb2
    clear hb2 ho' U
    go_wp2_with fail
    refine (c3 _ (rdk HR.out B1)).mono ?_
    rintro e w5 ⟨G, rfl, rg, _, hb2⟩
    replace B1 := bthen B1 hb2
    replace RW := RW.kept hb2
    replace ro := ro.kept hb2
    replace ro' := ro'.kept hb2
    clear hb2
    go_wp2_with fail
    refine (c4 _ (rdk HR.out B1)).mono ?_
    rintro e w6 ⟨G', cap'', rfl, rg', _, hb2⟩
    replace B1 := bthen B1 hb2
    replace RW := RW.kept hb2
    replace ro := ro.kept hb2
    replace ro' := ro'.kept hb2
    replace rg := rg.kept hb2
    clear hb2
    go_wp2_with fail
    refine (Same_yes (some ⟨g, 0, none⟩) (some ⟨g', 0, none⟩) n n cap' o _ n9 (.inr ⟨g, 0, rfl, fun i hi => by rw [Nat.zero_add]; exact ro.c i hi⟩) (.inr ⟨g', 0, rfl, fun i hi => by rw [Nat.zero_add]; exact ro'.c i hi⟩)).mono ?_
    rintro e w7 ⟨rfl, hb2⟩
    replace B1 := bthen B1 hb2
    replace RW := RW.kept hb2
    replace ro := ro.kept hb2
    replace rg := rg.kept hb2
    replace rg' := rg'.kept hb2
    clear hb2 ro'
    go_wp2_with fail
    refine (SameRatios_yes (some ⟨G, 0, none⟩) (some ⟨G', 0, none⟩) n n cap'' N D _ n9 (.inr ⟨G, rfl, rg⟩) (.inr ⟨G', rfl, rg'⟩)).mono ?_
    rintro e w8 ⟨rfl, hb2⟩
    replace B1 := bthen B1 hb2
    replace RW := RW.kept hb2
    replace ro := ro.kept hb2
    clear hb2 rg rg'
    go_wp2
    go_loopw [77] (fun Y wr => ∃ (j : Nat) (o2 : Nat → Int), j ≤ n ∧ Y = .int .i64 j ∧ Below w.heap.size w wr ∧ Row wr g0 n (wt zs) ∧ Row wr g n o2) (fun Y _ => n - (intOf Y).toNat)
    case atStart => exact ⟨0, o, by omega, rfl, B1, RW, ro⟩
    case round =>
      clear B1 RW ro
      obtain ⟨j, o2, hj, rfl, B1, RW, ro⟩ := hrel
      by_cases jlt : j < n
      · have q1 := ro.c j jlt
        have q2 := ro.fz j jlt
        have pp : (0 : Int) ≤ (j : Int) := by omega
        have bp : (j : Int) < (n : Int) := by omega
        have S1 := fun u => ro.set u jlt
        have S2 := fun u => RW.other (b := g) j u (fun e => gg e.symm)
        have S3 := fun u => bset B1 gw j u
        generalize o2 j = ov at q1
        have H1 := Lib.hid S1
        have H2 := Lib.hid S2
        have H3 := Lib.hid S3
        clear S1 S2 S3 B1 RW ro
        go_wp2
        go_roundw
        case rel => exact ⟨j + 1, _, by omega, by go_num, H3.out _, H2.out _, H1.out _⟩
        case measure => simp [intOf] <;> omega
      · obtain rfl : j = n := by omega
        go_wp2_with fail
        refine (Same_yes (some ⟨b, off, none⟩) (some ⟨g0, 0, none⟩) j cap cap0 (wt zs) _ n9 (.inr ⟨b, off, rfl, fun i hi => (B1.cell (p := ⟨b, off + i, none⟩) hb).trans (HX.out i hi)⟩) (.inr ⟨g0, 0, rfl, fun i hi => by rw [Nat.zero_add]; exact RW.c i hi⟩)).mono ?_
        rintro e w9 ⟨rfl, hb2⟩
        replace B1 := bthen B1 hb2
        go_wp2
        go_ret
        exact ⟨rfl, B1⟩

set_option maxRecDepth 100000 in
theorem does_over (a : Int) (b off n cap : Nat) (zs : List Int) (N D : Nat → Int) (k0 : Nat) (hk0 : k0 < n) (w : World) (hn : zs.length = n) (n0 : 0 < n) (hcap : n ≤ cap) (hm : n ≤ 60) (fa : Fit1 a) (fz : ∀ z ∈ zs, Fit1 z) (R0 : Rd w w.heap.size (some ⟨b, off, none⟩) zs) (hb : b < w.heap.size)
    (hcell : ∀ i, i < n → w.cell? ⟨b, off + i, none⟩ = some (.int .i64 (wt zs i))) (hp : ∀ z ∈ zs, 0 ≤ z) (hs : 0 < zs.sum) (fs : Fit1 zs.sum) (R : ∀ i, i < k0 → Rat1 (a * wt zs i) zs.sum (N i) (D i) 0) (RE : Rat1 (a * wt zs k0) zs.sum 0 0 2) :
    Calls Try.prog 3 #[.int .i64 a, .slice (some ⟨b, off, none⟩) n cap] w fun e w' => e = .returned (.bool true) ∧ Below w.heap.size w w' := by
  have c1 := fun w h => split_go (some ⟨b, off, none⟩) n cap zs a w hn n0 (by omega) fa fz h hp hs fs
  have c2 := fun w h => rsplit_go (some ⟨b, off, none⟩) n cap zs a w hn n0 (by omega) fa fz h hp hs fs
  have c3 := fun w h => exact_over (some ⟨b, off, none⟩) n cap zs a N D k0 hk0 w hn n0 (by omega) fa fz h hp hs fs R RE
  have c4 := fun w h => rexact_over (some ⟨b, off, none⟩) n cap zs a N D k0 hk0 w hn n0 (by omega) fa fz h hp hs fs R RE
  obtain ⟨i0, hi, hz0, hz1, hz2⟩ := info_parts infoL
  have HR := Lib.hid R0
  have HX := Lib.hid hcell
  have n9 : (n : Int) ≤ 9223372036854775807 := by omega
  have d1 : decide ((60 : Int) < (n : Int)) = false := decide_eq_false (by omega)
  have d2 : decide ((4100 : Int) < (n : Int)) = false := decide_eq_false (by omega)
  clear R RE fz R0 hcell hn hp hs fs fa
  go_enter Try.func3, Try.ntmps3
  go_wp2_with fail
  refine (slive_ok _).mono ?_
  rintro e w1 ⟨rfl, hb1⟩
  have sz := hb1.size
  go_wp2_with (first
    | (at_builtin; refine wpList_append_lies _ rfl _ _ 22 rfl w.heap.size 2 i0 (.int .i64 0) 1 8 underL hi hz0 hz1 hz2 rfl (by decide) _ 0 [] rfl (World.ownsRow_nil _ _ _ _) ⟨b, off, none⟩ n cap (lst (wt zs) n) rfl ?k0 ?k1 ?k2 n0 ?k3 ?k4 ?k5 _ rfl ?m1))
  case k0 => rw [lst_len, Nat.mul_one]
  case k1 =>
    intro j u hj
    by_cases h : j < n
    · rw [lst_at _ h] at hj
      cases hj
      have hh := (hb1.cell (p := ⟨b, off + j, none⟩) hb).trans (HX.out j h)
      have e : (⟨b, off, none⟩ : Addr).add j = ⟨b, off + j, none⟩ := by cases j <;> simp [Addr.add]
      rw [e]; exact hh
    · rw [List.getElem?_eq_none (by rw [lst_len]; omega)] at hj; cases hj
  case k2 =>
    intro u hu
    unfold lst at hu
    obtain ⟨j, _, rfl⟩ := List.mem_map.1 hu
    rfl
  case k3 => unfold maxLen; omega
  case k4 => omega
  case k5 => omega
  case m1 =>
    intro g0 cap0 w2 hown hgrow hat hlt
    have RW : Row w2 g0 n (wt zs) := Row.of_owns (cap := cap0) (base := w.heap.size) (e := 2) (by simpa using hown) n0
    have B1 : Below w.heap.size w w2 := below_grown hb1 hgrow (fun x e => by cases e) (Nat.le_refl _)
    clear hown hgrow hat hlt hb1 sz
    go_wp2_with fail
    refine (c1 _ (rdk HR.out B1)).mono ?_
    rintro e w3 ⟨g, o, rfl, ro, gl, ho, hb2⟩
    have gg : g ≠ g0 := by have := RW.lt; omega
    have gw : w.heap.size ≤ g := Nat.le_trans B1.size gl
    have HO := Lib.hid ho
    replace B1 := bthen B1 hb2
    replace RW := RW.kept hb2
    clear hb2 ho gl
    go_wp2_with fail
    refine (c2 _ (rdk HR.out B1)).mono ?_
    rintro e w4 ⟨g', cap', o', rfl, ro', _, ho', hb2⟩
    have U := split_unique HO.out ho'
    replace ro' := Os.row_congr ro' (f' := o) (fun i hi => (U i hi).symm)
    replace B1 := bthen B1 hb2
    replace RW := RW.kept hb2
    replace ro := ro.kept hb2
    clear hb2 ho' U
    go_wp2_with fail
    refine (c3 _ (rdk HR.out B1)).mono ?_
    rintro e w5 ⟨rfl, hb2⟩
    replace B1 := bthen B1 hb2
    replace RW := RW.kept hb2
    replace ro := ro.kept hb2
    replace ro' := ro'.kept hb2
    clear hb2
    go_wp2_with fail
    refine (c4 _ (rdk HR.out B1)).mono ?_
    rintro e w6 ⟨rfl, hb2⟩
    replace B1 := bthen B1 hb2
    replace RW := RW.kept hb2
    replace ro := ro.kept hb2
    replace ro' := ro'.kept hb2
    clear hb2
    go_wp2_with fail
    refine (Same_yes (some ⟨g, 0, none⟩) (some ⟨g', 0, none⟩) n n cap' o _ n9 (.inr ⟨g, 0, rfl, fun i hi => by rw [Nat.zero_add]; exact ro.c i hi⟩) (.inr ⟨g', 0, rfl, fun i hi => by rw [Nat.zero_add]; exact ro'.c i hi⟩)).mono ?_
    rintro e w7 ⟨rfl, hb2⟩
    replace B1 := bthen B1 hb2
    replace RW := RW.kept hb2
    replace ro := ro.kept hb2
    clear hb2 ro'
    go_wp2_with fail
    refine (SameRatios_yes none none 0 0 0 (fun _ => 0) (fun _ => 0) _ (by omega) (.inl rfl) (.inl rfl)).mono ?_
    rintro e w8 ⟨rfl, hb2⟩
    replace B1 := bthen B1 hb2
    replace RW := RW.kept hb2
    replace ro := ro.kept hb2
    clear hb2
    go_wp2
    go_loopw [77] (fun Y wr => ∃ (j : Nat) (o2 : Nat → Int), j ≤ n ∧ Y = .int .i64 j ∧ Below w.heap.size w wr ∧ Row wr g0 n (wt zs) ∧ Row wr g n o2) (fun Y _ => n - (intOf Y).toNat)
    case atStart => exact ⟨0, o, by omega, rfl, B1, RW, ro⟩
    case round =>
      clear B1 RW ro
      obtain ⟨j, o2, hj, rfl, B1, RW, ro⟩ := hrel
      by_cases jlt : j < n
      · have q1 := ro.c j jlt
        have q2 := ro.fz j jlt
        have pp : (0 : Int) ≤ (j : Int) := by omega
        have bp : (j : Int) < (n : Int) := by omega
        have S1 := fun u => ro.set u jlt
        have S2 := fun u => RW.other (b := g) j u (fun e => gg e.symm)
        have S3 := fun u => bset B1 gw j u
        generalize o2 j = ov at q1
        have H1 := Lib.hid S1
        have H2 := Lib.hid S2
        have H3 := Lib.hid S3
        clear S1 S2 S3 B1 RW ro
        go_wp2
        go_roundw
        case rel => exact ⟨j + 1, _, by omega, by go_num, H3.out _, H2.out _, H1.out _⟩
        case measure => simp [intOf] <;> omega
      · obtain rfl : j = n := by omega
        go_wp2_with fail
        refine (Same_yes (some ⟨b, off, none⟩) (some ⟨g0, 0, none⟩) j cap cap0 (wt zs) _ n9 (.inr ⟨b, off, rfl, fun i hi => (B1.cell (p := ⟨b, off + i, none⟩) hb).trans (HX.out i hi)⟩) (.inr ⟨g0, 0, rfl, fun i hi => by rw [Nat.zero_add]; exact RW.c i hi⟩)).mono ?_
        rintro e w9 ⟨rfl, hb2⟩
        replace B1 := bthen B1 hb2
        go_wp2
        go_ret
        exact ⟨rfl, B1⟩

end Go.Proofs.Ytodpmdmfdnbehab.Sl

/- ShareDoes' walk, whole. -/
namespace Go.Proofs.Ytodpmdmfdnbehab.Sl
set_option linter.unusedSimpArgs false
set_option linter.unusedVariables false
open Go.RowKit Go.Proofs.Ytodpmdmfdnbehab.Vm Go.Proofs.Ytodpmdmfdnbehab.Vc Go.Proofs.Ytodpmdmfdnbehab.Pr Go.Proofs.Ytodpmdmfdnbehab.Rk Go.Proofs.Ytodpmdmfdnbehab.Sm Go.Proofs.Ytodpmdmfdnbehab.Om Go.Proofs.Ytodpmdmfdnbehab.Os Go.Proofs.Ytodpmdmfdnbehab.Sr Go.Proofs.Ytodpmdmfdnbehab.Qm

set_option maxHeartbeats 2000000

set_option maxRecDepth 100000 in
theorem does_nil (a : Int) (A : Option Addr) (cap : Nat) (w : World) :
    Calls Try.prog 3 #[.int .i64 a, .slice A 0 cap] w fun e w' => e = .returned (.bool true) ∧ Below w.heap.size w w' := by
  have R : AllRes [] 0 3 := .inr (.inr ⟨by simp, by simp, .inr (.inl ⟨by simp, rfl, rfl⟩)⟩)
  have c1 := fun w => split_no A 0 cap [] a 0 3 w rfl (by omega) (by simp) (.inl rfl) R (by decide)
  have c2 := fun w => rsplit_no A 0 cap [] a 0 3 w rfl (by omega) (by omega) (by simp) (.inl rfl) R (by decide)
  have c3 := fun w => exact_no A 0 cap [] a 0 3 w rfl (by omega) (by simp) (.inl rfl) R (by decide)
  have c4 := fun w => rexact_no A 0 cap [] a 0 3 w rfl (by omega) (by omega) (by simp) (.inl rfl) R (by decide)
  have ha := append_none A cap
  have hp : ∀ w1 : World, Sem.run Try.prog (pure (#[] : Array Value)) w1 = .ok #[] w1 := fun _ => rfl
  clear R
  cases A with
  | none =>
    go_enter Try.func3, Try.ntmps3
    go_wp2_with fail
    refine (slive_ok _).mono ?_
    rintro e w1 ⟨rfl, B1⟩
    go_wp2_with fail
    refine (c1 _).mono ?_
    rintro e w2 ⟨rfl, hb2⟩
    replace B1 := bthen B1 hb2
    clear hb2
    go_wp2_with fail
    refine (c2 _).mono ?_
    rintro e w3 ⟨rfl, hb2⟩
    replace B1 := bthen B1 hb2
    clear hb2
    go_wp2_with fail
    refine (c3 _).mono ?_
    rintro e w4 ⟨rfl, hb2⟩
    replace B1 := bthen B1 hb2
    clear hb2
    go_wp2_with fail
    refine (c4 _).mono ?_
    rintro e w5 ⟨rfl, hb2⟩
    replace B1 := bthen B1 hb2
    clear hb2
    go_wp2_with fail
    refine (Same_yes none none 0 0 0 (fun _ => 0) _ (by omega) (.inl rfl) (.inl rfl)).mono ?_
    rintro e w6 ⟨rfl, hb2⟩
    replace B1 := bthen B1 hb2
    clear hb2
    go_wp2_with fail
    refine (SameRatios_yes none none 0 0 0 (fun _ => 0) (fun _ => 0) _ (by omega) (.inl rfl) (.inl rfl)).mono ?_
    rintro e w7 ⟨rfl, hb2⟩
    replace B1 := bthen B1 hb2
    clear hb2
    go_wp2
    go_loopw [77] (fun Y wr => Y = .int .i64 0 ∧ Below w.heap.size w wr) (fun _ _ => 0)
    case atStart => exact ⟨rfl, B1⟩
    case round =>
      clear B1
      obtain ⟨rfl, B1⟩ := hrel
      go_wp2_with fail
      refine (Same_yes none none 0 cap 0 (fun _ => 0) _ (by omega) (.inl rfl) (.inl rfl)).mono ?_
      rintro e w9 ⟨rfl, hb2⟩
      replace B1 := bthen B1 hb2
      go_wp2
      go_ret
      exact ⟨rfl, B1⟩
  | some ad =>
    go_enter Try.func3, Try.ntmps3
    go_wp2_with fail
    refine (slive_ok _).mono ?_
    rintro e w1 ⟨rfl, B1⟩
    go_wp2_with fail
    refine (c1 _).mono ?_
    rintro e w2 ⟨rfl, hb2⟩
    replace B1 := bthen B1 hb2
    clear hb2
    go_wp2_with fail
    refine (c2 _).mono ?_
    rintro e w3 ⟨rfl, hb2⟩
    replace B1 := bthen B1 hb2
    clear hb2
    go_wp2_with fail
    refine (c3 _).mono ?_
    rintro e w4 ⟨rfl, hb2⟩
    replace B1 := bthen B1 hb2
    clear hb2
    go_wp2_with fail
    refine (c4 _).mono ?_
    rintro e w5 ⟨rfl, hb2⟩
    replace B1 := bthen B1 hb2
    clear hb2
    go_wp2_with fail
    refine (Same_yes none none 0 0 0 (fun _ => 0) _ (by omega) (.inl rfl) (.inl rfl)).mono ?_
    rintro e w6 ⟨rfl, hb2⟩
    replace B1 := bthen B1 hb2
    clear hb2
    go_wp2_with fail
    refine (SameRatios_yes none none 0 0 0 (fun _ => 0) (fun _ => 0) _ (by omega) (.inl rfl) (.inl rfl)).mono ?_
    rintro e w7 ⟨rfl, hb2⟩
    replace B1 := bthen B1 hb2
    clear hb2
    go_wp2
    go_loopw [77] (fun Y wr => Y = .int .i64 0 ∧ Below w.heap.size w wr) (fun _ _ => 0)
    case atStart => exact ⟨rfl, B1⟩
    case round =>
      clear B1
      obtain ⟨rfl, B1⟩ := hrel
      go_wp2_with fail
      refine (Same_yes (some ad) none 0 cap 0 (fun _ => 0) _ (by omega) (.inl rfl) (.inl rfl)).mono ?_
      rintro e w9 ⟨rfl, hb2⟩
      replace B1 := bthen B1 hb2
      go_wp2
      go_ret
      exact ⟨rfl, B1⟩

theorem does_walk (a : Int) (A : Option Addr) (n cap : Nat) (zs : List Int) (w : World) (wa : (Lit.int .i64 a).wf = true) (w0 : SliceOf .i64 w A n cap zs) :
    Calls Try.prog 3 #[.int .i64 a, .slice A n cap] w fun e w' => e = .returned (.bool true) ∧ Below w.heap.size w w' := by
  have fa : Fit1 a := bounds_i64 wa
  obtain ⟨hn, hcap, hmax, hwf, hr⟩ := w0
  have fz : ∀ z ∈ zs, Fit1 z := fun z hz => bounds_i64 (hwf z hz)
  have R0 : Rd w w.heap.size A zs := by
    rcases hr with h | ⟨b, off, h1, h2, h3⟩
    · exact .inl h
    · exact .inr ⟨b, off, h1, h2, fun i hi => h3 i (by omega)⟩
  unfold maxLen at hmax
  have hn9 : (n : Int) ≤ 9223372036854775807 := by omega
  clear hwf hr wa
  by_cases big : (60 < n ∧ n ≤ 4096) ∨ 4100 < n
  · have D : (decide ((60 : Int) < (n : Int)) = true ∧ decide ((n : Int) ≤ 4096) = true) ∨ (decide ((60 : Int) < (n : Int)) = true ∧ decide ((n : Int) ≤ 4096) = false ∧ decide ((4100 : Int) < (n : Int)) = true) := by
      by_cases h : n ≤ 4096
      · exact .inl ⟨decide_eq_true (by omega), decide_eq_true (by omega)⟩
      · exact .inr ⟨decide_eq_true (by omega), decide_eq_false (by omega), decide_eq_true (by omega)⟩
    clear fz R0 hn fa big
    rcases D with ⟨d1, d2⟩ | ⟨d1, d2, d3⟩
    all_goals
      go_enter Try.func3, Try.ntmps3
      go_wp2_with fail
      refine (slive_ok _).mono ?_
      rintro e w1 ⟨rfl, hb1⟩
      go_wp2
      go_ret
      exact ⟨rfl, hb1⟩
  · by_cases n0 : n = 0
    · subst n0
      exact does_nil a A cap w
    have n1 : 0 < n := by omega
    obtain ⟨b, off, rfl, hb, hc⟩ := R0.resolve_left (by intro e; rw [e] at hn; simp at hn; omega)
    have hcell : ∀ i, i < n → w.cell? ⟨b, off + i, none⟩ = some (.int .i64 (wt zs i)) := fun i hi => hc i (by omega)
    obtain ⟨v, er, R⟩ := allres_ex zs
    rcases all_err R with ⟨rfl, h1, hp, hs, fs, rfl⟩ | ⟨he, rfl⟩
    · have small : n ≤ 60 := by omega
      have n0 := n1
      have RX : ∀ i, ∃ N D er, Rat1 (a * wt zs i) zs.sum N D er := fun i => rat1_ex _ (by omega)
      by_cases over : ∃ i, i < n ∧ ∃ N D er, Rat1 (a * wt zs i) zs.sum N D er ∧ er ≠ 0
      · -- the first that does not fit
        have first : ∀ m, (∃ i, i < m ∧ i < n ∧ ∃ N D er, Rat1 (a * wt zs i) zs.sum N D er ∧ er ≠ 0) → ∃ k, k < n ∧ Rat1 (a * wt zs k) zs.sum 0 0 2 ∧ ∀ i, i < k → ∃ N D, Rat1 (a * wt zs i) zs.sum N D 0 := by
          intro m
          induction m with
          | zero => rintro ⟨i, h, _⟩; omega
          | succ m ih =>
            intro ⟨i, h, hin, N, D, er, r, h0⟩
            by_cases c : ∃ i, i < m ∧ i < n ∧ ∃ N D er, Rat1 (a * wt zs i) zs.sum N D er ∧ er ≠ 0
            · exact ih c
            · have e : i = m := by
                by_cases q : i < m
                · exact absurd ⟨i, q, hin, N, D, er, r, h0⟩ c
                · omega
              subst e
              rcases rat1_er r with h1 | ⟨h1, h2, h3⟩
              · exact absurd h1 h0
              · subst h1 h2 h3
                refine ⟨i, hin, r, fun j hj => ?_⟩
                obtain ⟨N', D', er', r'⟩ := RX j
                by_cases z : er' = 0
                · subst z; exact ⟨N', D', r'⟩
                · exact absurd ⟨j, hj, by omega, N', D', er', r', z⟩ c
        obtain ⟨i, hi, o⟩ := over
        obtain ⟨k0, hk0, RE, RF⟩ := first n ⟨i, hi, hi, o⟩
        have CH : ∃ N D : Nat → Int, ∀ i, i < k0 → Rat1 (a * wt zs i) zs.sum (N i) (D i) 0 := by
          classical
          refine ⟨fun i => if h : i < k0 then (RF i h).choose else 0, fun i => if h : i < k0 then (RF i h).choose_spec.choose else 0, fun i h => ?_⟩
          simp only [h, dif_pos]
          exact (RF i h).choose_spec.choose_spec
        obtain ⟨N, D, RN⟩ := CH
        exact does_over a b off n cap zs N D k0 hk0 w hn n1 hcap small fa fz R0 hb hcell hp hs fs RN RE
      · have CH : ∃ N D : Nat → Int, ∀ i, i < n → Rat1 (a * wt zs i) zs.sum (N i) (D i) 0 := by
          classical
          have RF : ∀ i, i < n → ∃ N D, Rat1 (a * wt zs i) zs.sum N D 0 := fun i hi => by
            obtain ⟨N, D, er, r⟩ := RX i
            by_cases z : er = 0
            · subst z; exact ⟨N, D, r⟩
            · exact absurd ⟨i, hi, N, D, er, r, z⟩ over
          refine ⟨fun i => if h : i < n then (RF i h).choose else 0, fun i => if h : i < n then (RF i h).choose_spec.choose else 0, fun i h => ?_⟩
          simp only [h, dif_pos]
          exact (RF i h).choose_spec.choose_spec
        obtain ⟨N, D, RN⟩ := CH
        exact does_ok a b off n cap zs N D w hn n1 hcap small fa fz R0 hb hcell hp hs fs RN
    · exact does_err a b off n cap zs 0 er w hn n1 hcap (by omega) fz R0 hb hcell R he

end Go.Proofs.Ytodpmdmfdnbehab.Sl

/- ShareDoes: for every input the law's function returns true, and its arguments read afterwards as before; no condition. The walk stands in YtodpmdmfdnbehabSdoesw. -/
namespace Go.Proofs.Ytodpmdmfdnbehab.shareDoes
open Go.ChangeShapes Go.WideShapes Go.ChangeAt Go.RowKit Go.Proofs.Ytodpmdmfdnbehab
open Go.ChangeMaps (open_string shut_string)
set_option linter.unusedSimpArgs false
set_option linter.unusedVariables false

theorem own : ownKnob Try.prog.godebug = none := by kernel_rfl
theorem laidOut : laidOutB Try.prog = true := by kernel_rfl

theorem walk (a0 : Int) (a1 : Option Addr) (len1 cap1 : Nat) (z1 : List Int) (w : World) (w0 : (Lit.int .i64 a0).wf = true) (w1 : SliceOf .i64 w a1 len1 cap1 z1) :
    Calls Try.prog 3 #[.int .i64 a0, .slice a1 len1 cap1] w fun e w' => e = .returned (.bool true) ∧ Below w.heap.size w w' :=
  Sl.does_walk a0 a1 len1 cap1 z1 w w0 w1

set_option maxRecDepth 100000 in
theorem lifted (os : Os) (started : os.Started) (H : Type) (enc : TypeId × Value → H) :
    ReturnsInHanded {} Try.checked os 3 .any (Rows.shareDoesSpec.pre6 enc Try.prog Try.f3 Rows.shareDoesRow.domain false) (Rows.shareDoesSpec.post enc Try.prog Try.f3 false true false false) := by
  refine returnsInHanded_of_change (C := Try.checked) own started (by kernel_rfl) Try.func3
    (ChangeSpec.witness6 (enc := enc) (C := Try.checked) false ⟨#[], #[.int .i64 0, .slice none 0 0], []⟩ 8 (by kernel_rfl) (by kernel_rfl) (by kernel_rfl) (by kernel_rfl)) ?_
  intro W base args ds gs before hval0 hW hcnd _
  have hval : ∀ (j : Nat) t v, Try.f3.params[j]? = some t → args[j]? = some v → Value.okWide Try.prog W .any base t v := hval0
  have hW' := hW
  obtain ⟨p, q, hA0, hV, rfl, hfz, hnd⟩ := hW
  have hA : DataW.TrodAll enc Try.prog W 0 (fun _ => true) true Try.f3.params.toList args.toList ds p := hA0
  rw [Try.params3] at hA hval
  obtain ⟨v0, vs0, d0, ds0, p0, q0, hargs, rfl, rfl, h0, r0⟩ := trodAll_cons hA
  obtain ⟨v1, vs1, d1, ds1, p1, q1, rfl, rfl, rfl, h1, r1⟩ := trodAll_cons r0
  obtain ⟨rfl, rfl, rfl⟩ := trodAll_nil r1
  obtain rfl : args = #[v0, v1] := by cases args; simp_all
  obtain ⟨rfl, rfl⟩ := trodVars_none hV
  have k0 := h0
  have lt0 : ∀ x ∈ p0, x.block < W.heap.size := by obtain ⟨m, hm⟩ := k0; exact DataW.trod_lt m _ _ _ hm
  have k1 := h1
  have lt1 : ∀ x ∈ p1, x.block < W.heap.size := by obtain ⟨m, hm⟩ := k1; exact DataW.trod_lt m _ _ _ hm
  obtain ⟨a0, rfl, rfl, rfl, w0⟩ := open_int Try.underlying2 (hval 0 2 v0 rfl rfl) h0
  obtain ⟨a1, len1, cap1, rfl⟩ := okWide_slice Try.underlying22 (hval 1 22 v1 rfl rfl)
  obtain ⟨z1, w1⟩ : ∃ zs, SliceOf .i64 W a1 len1 cap1 zs := by
    obtain ⟨fuel, hf⟩ := h1
    rcases open_ints Try.underlying22 Try.underlying2 (by kernel_rfl) hf with ⟨hcs, _⟩ | ⟨x, l, c, zs, hcs, _, hl, hm, hz, _, hcell, hwz⟩
    · simp [Value.cells] at hcs
      obtain ⟨rfl, rfl, rfl⟩ := hcs
      exact ⟨[], sliceOf_nil _ _⟩
    · simp [Value.cells] at hcs
      obtain ⟨rfl, rfl, rfl⟩ := hcs
      exact ⟨_, sliceOf_row hl hm (by simpa using hz) hcell hwz⟩
  clear hA0 hval0
  refine (walk a0 a1 len1 cap1 z1 W w0 w1).mono fun e W' ⟨he, bel⟩ => ?_
  subst he
  exact ⟨_, rfl, _, _, _, [], _, [], hW', trodAll_mk1 (shut_bool Try.underlying4 _), (trodAll_cons_mk (Below.trod laidOut (by kernel_rfl) (of_decide_eq_true (by kernel_rfl)) k0 bel lt0) (trodAll_cons_mk (Below.trod laidOut (by kernel_rfl) (of_decide_eq_true (by kernel_rfl)) k1 bel lt1) trodAll_mk0)), rfl, bel.frame _, fun h => by cases h⟩

theorem over : Rows.shareDoesRow.holds Try.pinned (OpenSpec.ofChange Rows.shareDoesSpec) :=
  OpenClaim.holds_of_wide 3 Try.f3 rfl rfl rfl rfl rfl rfl rfl ⟨rfl, rfl, rfl, rfl, rfl⟩ rfl rfl rfl rfl rfl (by kernel_rfl) Try.func3 (by kernel_rfl)
    (of_decide_eq_true (by kernel_rfl)) (by unfold Func.isWrapper; first | (rw [if_pos (by decide +kernel)]; kernel_rfl) | (rw [if_neg (by decide +kernel)]; exact ⟨rfl, rfl⟩))
    (fun os started H enc _ => lifted os started H enc)

/-- THE STATEMENT -/
theorem proved : Rows.ShareDoesSaid := over
#print axioms proved
end Go.Proofs.Ytodpmdmfdnbehab.shareDoes
