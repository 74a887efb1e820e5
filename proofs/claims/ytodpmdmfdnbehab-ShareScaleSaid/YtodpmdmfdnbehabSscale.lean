/- ShareScale's walk. -/
import Derived.Test.YtodpmdmfdnbehabSscm
import Derived.Deep.AppendLies
import Derived.Deep.RegionHeld3
namespace Go.Proofs.Ytodpmdmfdnbehab.Sl
set_option linter.unusedSimpArgs false
set_option linter.unusedVariables false
open Go.RowKit Go.Proofs.Ytodpmdmfdnbehab.Vm Go.Proofs.Ytodpmdmfdnbehab.Vc Go.Proofs.Ytodpmdmfdnbehab.Pr Go.Proofs.Ytodpmdmfdnbehab.Rk Go.Proofs.Ytodpmdmfdnbehab.Sm Go.Proofs.Ytodpmdmfdnbehab.Om Go.Proofs.Ytodpmdmfdnbehab.Os Go.Proofs.Ytodpmdmfdnbehab.Sr

set_option maxHeartbeats 16000000

/-- how long the third list is when the first two have i places -/
def mlong (k i : Nat) : Nat := if i ≤ k then i else i + 1
/-- what the loop leaves: three rows -/
structure Three (w W : World) (U V T : Value) (n k : Nat) (x : Nat → Int) (c : Int) : Prop where
  tr : Trio 2 w W U V T n n (mlong k n) x (fun i => x i * c) (ins k 0 x)

theorem append_nothing (w : World) (base : Nat) (ty : TypeId) (v : Value) (n : Nat) (xs : List Value) (hown : w.ownsRow base 2 1 v n xs) (A : Option Addr) (c : Nat) :
    (Builtin.append_ #[22, 22] ty #[v, .slice A 0 c]).run Try.prog w = .ok v w := by
  obtain ⟨i0, hi, hz0, hz1, hz2⟩ := info_parts infoL
  rcases hown.2 with ⟨rfl, rfl⟩ | ⟨g, cap, cur, rfl, _, _, hnc, _⟩
  · cases A <;> simp [Builtin.append_, run_underlying underL, sizeOf, typeInfo, hi, Builtin.lenOf, Builtin.firstCells, storeCells, loadCells, loadCellsFrom]
  · cases A <;> simp [Builtin.append_, run_underlying underL, sizeOf, typeInfo, hi, Builtin.lenOf, Builtin.firstCells, storeCells, loadCells, loadCellsFrom, hnc]
theorem wp_append_nothing {o : Oper} {a : Act} {w : World} {K : Act → World → Prop} {Q : Exit → Act → World → Prop} (s x : Operand)
    (ho : o.op = .call { callee := .builtin .append, args := #[s, x], argTypes := #[22, 22] }) (base : Nat) (v : Value) (n : Nat) (xs : List Value) (hs : a.eval s = v) (hown : w.ownsRow base 2 1 v n xs)
    (A : Option Addr) (c : Nat) (hx : a.eval x = .slice A 0 c) (h : K (a.put o.dst v) w) : o.wp Try.prog a w K Q := by
  have hr := append_nothing w base o.type v n xs hown A c
  unfold Oper.wp execOp
  simp only [ho, resolve, invoke, builtin, Sem.run_bind, Sem.run_pure, Result.andThen_ok, List.map_toArray, List.map_cons, List.map_nil, hs, hx, hr]
  exact h
theorem app_any {o : Oper} {a : Act} {w : World} {K : Act → World → Prop} {Q : Exit → Act → World → Prop} (s x : Operand) (ho : o.op = .call { callee := .builtin .append, args := #[s, x], argTypes := #[22, 22] })
    (base : Nat) (v : Value) (n : Nat) (xs : List Value) (hs : a.eval s = v) (hown : w.ownsRow base 2 1 v n xs) (ad : Addr) (m c : Nat) (news : List Value) (hx : a.eval x = .slice (some ad) m c) (hl : news.length = m)
    (hnews : ∀ j u, news[j]? = some u → w.cell? (ad.add j) = some u) (h1 : ∀ u ∈ news, u.oneCell' = true) (hm : 0 < m) (h63 : n + m ≤ 1000000) (hbase : base ≤ w.heap.size)
    (h : ∀ g cap w', w'.ownsRow base 2 1 (.slice (some ⟨g, 0, none⟩) (n + m) cap) (n + m) (xs ++ news) → w.grownBy w' v.ownBlock → (v.ownBlock = some g ∨ g = w.heap.size) → K (a.put o.dst (.slice (some ⟨g, 0, none⟩) (n + m) cap)) w') : o.wp Try.prog a w K Q := by
  obtain ⟨i0, hi, hz0, hz1, hz2⟩ := info_parts infoL
  exact wp_append_lies w s x 22 ho base 2 i0 (.int .i64 0) 1 8 underL hi hz0 hz1 hz2 rfl (by decide) v n xs hs hown ad m c news hx (by rw [hl, Nat.mul_one]) hnews h1 hm (by unfold maxLen; omega) (by omega) hbase _ rfl (fun g cap w' h2 h3 h4 _ => h g cap w' h2 h3 h4)
theorem wanted_go {c : Prop} [Decidable c] {A B : Prop} (h : c) (a : A) : if c then A else B := by rw [if_pos h]; exact a
theorem lst_one' {f : Nat → Int} {k : Nat} : ∀ u ∈ lst f k, u.oneCell' = true := by
  intro u hu
  unfold lst at hu
  obtain ⟨j, _, rfl⟩ := List.mem_map.1 hu
  rfl
/-- a part of a row, read as a list -/
theorem lst_row {W X : World} {g n : Nat} {f f' : Nat → Int} (r : Row W g n f) (hX : Below W.heap.size W X) {off k : Nat} (hk : off + k ≤ n) (hf : ∀ i, i < k → f (off + i) = f' i) :
    ∀ j u, (lst f' k)[j]? = some u → X.cell? ((⟨g, off, none⟩ : Addr).add j) = some u := by
  intro j u hj
  by_cases h : j < k
  · rw [lst_at _ h] at hj
    cases hj
    have e : (⟨g, off, none⟩ : Addr).add j = ⟨g, off + j, none⟩ := by cases j <;> simp [Addr.add]
    rw [e, (r.kept hX).c _ (by omega), hf j h]
  · rw [List.getElem?_eq_none (by rw [lst_len]; omega)] at hj; cases hj
theorem lst_split (f : Nat → Int) (k m : Nat) : lst f k ++ lst (fun i => f (k + i)) m = lst f (k + m) := by
  unfold lst
  rw [List.range_add, List.map_append, List.map_map]
  rfl

set_option maxRecDepth 100000 in
theorem scale_walk (a : Int) (A : Option Addr) (n cap : Nat) (zs : List Int) (c t : Int) (w : World) (wa : (Lit.int .i64 a).wf = true) (w0 : SliceOf .i32 w A n cap zs) (wc : (Lit.int .u16 c).wf = true) (wt' : (Lit.int .u8 t).wf = true) :
    Calls Try.prog 4 #[.int .i64 a, .slice A n cap, .int .u16 c, .int .u8 t] w fun e w' => e = .returned (.bool true) ∧ Below w.heap.size w w' := by
  have fa : Fit1 a := bounds_i64 wa
  obtain ⟨c0', c1⟩ := bounds_u16 wc
  obtain ⟨t0, t1⟩ := bounds_u8 wt'
  obtain ⟨hn, hcap, hmax, hwf, hr⟩ := w0
  unfold maxLen at hmax
  have hn9 : (n : Int) ≤ 9223372036854775807 := by omega
  have hx : ∀ i, i < n → -2147483648 ≤ wt zs i ∧ wt zs i ≤ 2147483647 := fun i hi => bounds_i32 (hwf _ (getD_mem (by omega)))
  clear wa wc wt' hwf
  by_cases big : 60 < n ∨ c = 0
  · by_cases b60 : 60 < n
    · have d1 : decide ((60 : Int) < (n : Int)) = true := decide_eq_true (by omega)
      clear hx hr hn fa big
      go_enter Try.func4, Try.ntmps4
      go_wp2_with fail
      refine (slive_ok _).mono ?_
      rintro e w1 ⟨rfl, hb1⟩
      go_wp2
      go_ret
      exact ⟨rfl, hb1⟩
    · have d1 : decide ((60 : Int) < (n : Int)) = false := decide_eq_false (by omega)
      have d2 : (c == 0) = true := beq_iff_eq.2 (by omega)
      clear hx hr hn fa big
      go_enter Try.func4, Try.ntmps4
      go_wp2_with fail
      refine (slive_ok _).mono ?_
      rintro e w1 ⟨rfl, hb1⟩
      go_wp2
      go_ret
      exact ⟨rfl, hb1⟩
  have b1 : n ≤ 60 := by omega
  have c0 : 0 < c := by omega
  have d1 : decide ((60 : Int) < (n : Int)) = false := decide_eq_false (by omega)
  have d2 : (c == 0) = false := beq_eq_false_iff_ne.2 (by omega)
  have tm : t.tmod ((n : Int) + 1) = t % ((n : Int) + 1) := Int.tmod_eq_emod_of_nonneg t0
  obtain ⟨k, hk⟩ : ∃ k : Nat, t % ((n : Int) + 1) = k := ⟨(t % ((n : Int) + 1)).toNat, by have := Int.emod_nonneg t (b := (n : Int) + 1) (by omega); omega⟩
  have kn : k ≤ n := by have := Int.emod_lt_of_pos t (b := (n : Int) + 1) (by omega); omega
  have n1 : ¬ ((n : Int) + 1 = 0) := by omega
  clear big c0'
  by_cases nz : n = 0
  · subst nz
    obtain rfl : k = 0 := by omega
    have l1 := fun w => split_no none 0 0 [] a 0 3 w rfl (by omega) (by intro z hz; simp at hz) (.inl rfl) (.inr (.inr ⟨by simp, by intro z hz; simp at hz, .inr (.inl ⟨by simp, rfl, rfl⟩)⟩)) (by omega)
    have l3 := fun g cp w h => split_no (some ⟨g, 0, none⟩) 1 cp [0] a 0 3 w rfl (by omega) (by intro z hz; simp at hz; subst hz; unfold Fit1; omega) h (.inr (.inr ⟨by simp, by intro z hz; simp at hz; omega, .inr (.inl ⟨by simp, rfl, rfl⟩)⟩)) (by omega)
    have SN := fun w => Same_yes none none 0 0 0 (fun _ => 0) w (by omega) (.inl rfl) (.inl rfl)
    obtain ⟨i0, hi, hz0, hz1, hz2⟩ := info_parts infoL
    clear hx hr hn fa
    simp at tm hk
    go_enter Try.func4, Try.ntmps4
    go_wp2_with fail
    refine (slive_ok _).mono ?_
    rintro e w1 ⟨rfl, hb1⟩
    go_wp2
    go_loopw [10, 11, 12, 38] (fun U V T I wr => U = .slice none 0 0 ∧ V = .slice none 0 0 ∧ T = .slice none 0 0 ∧ I = .int .i64 0 ∧ Below w.heap.size w wr) (fun _ _ _ _ _ => 0)
    case atStart => exact ⟨rfl, rfl, rfl, rfl, hb1⟩
    case round =>
      clear hb1
      obtain ⟨rfl, rfl, rfl, rfl, hb1⟩ := hrel
      have sz := hb1.size
      go_wp2_with (first
        | (at_builtin; refine wpList_append_lies _ rfl (.tmp 72) (.tmp 73) 22 rfl w.heap.size 2 i0 (.int .i64 0) 1 8 underL hi hz0 hz1 hz2 rfl (by decide) _ 0 (lst (fun _ => 0) 0) rfl ((World.ownsRow_nil wr w.heap.size 2 1).alloc _) ⟨wr.heap.size, 0, none⟩ 1 1 [.int .i64 0] rfl rfl ?p101a ?p101b (by omega) ?p101c ?p101d ?p101e _ rfl ?p101m))
      case p101a =>
        intro j u hj
        match j, hj with
        | 0, hj => simp at hj; subst hj; simp [Addr.add]
      case p101b => intro u hu; simp at hu; subst hu; rfl
      case p101c => unfold maxLen; omega
      case p101d => omega
      case p101e => simp; omega
      case p101m =>
        intro g3 cp3 w1' own gr hat hlt
        have B1 := below_grown (balloc hb1 (.cells #[.int .i64 0] 2)) gr (fun k h => by cases h) (Nat.le_refl _)
        have rd : Rd w1' w1'.heap.size (some ⟨g3, 0, none⟩) [0] := .inr ⟨g3, 0, rfl, hlt, fun i hi => by
          have : i = 0 := by simp at hi; omega
          subst this
          rw [Nat.zero_add, own.cellAt 0 (by omega)]
          rfl⟩
        clear own gr hat hb1
        go_wp2_with fail
        refine (l1 _).mono ?_
        rintro e w2 ⟨rfl, hb2⟩
        replace B1 := bthen B1 hb2
        replace rd := rdk rd hb2
        clear hb2
        go_wp2_with fail
        refine (l1 _).mono ?_
        rintro e w3 ⟨rfl, hb2⟩
        replace B1 := bthen B1 hb2
        replace rd := rdk rd hb2
        clear hb2
        go_wp2_with fail
        refine (l3 _ _ _ rd).mono ?_
        rintro e w4 ⟨rfl, hb2⟩
        replace B1 := bthen B1 hb2
        clear hb2
        go_wp2_with fail
        refine (SN _).mono ?_
        rintro e w5 ⟨rfl, hb2⟩
        replace B1 := bthen B1 hb2
        go_wp2
        go_ret
        exact ⟨rfl, B1⟩
  obtain ⟨x, hxx⟩ : ∃ x, x = wt zs := ⟨_, rfl⟩
  obtain ⟨b, off, rfl, hb, hcell⟩ : ∃ b off, A = some ⟨b, off, none⟩ ∧ b < w.heap.size ∧ ∀ i, i < n → w.cell? ⟨b, off + i, none⟩ = some (.int .i32 (x i)) := by
    rcases hr with h | ⟨b, off, h1, h2, h3⟩
    · rw [h] at hn; simp at hn; omega
    · exact ⟨b, off, h1, h2, fun i hi => by rw [hxx]; exact h3 i hi⟩
  have three := all_three (x := x) (k := k) b1 kn c0 c1 (by rw [hxx]; exact hx)
  rw [← hxx] at hx
  have HX := Lib.hid hcell
  have HB := Lib.hid hx
  have HA := Lib.hid fa
  have n0 : 0 < n := by omega
  have HF : Hid ((∀ i, i < n → Fit1 (x i)) ∧ (∀ i, i < n → Fit1 (x i * c)) ∧ ∀ i, i < n + 1 → Fit1 (ins k 0 x i)) := Lib.hid ⟨fun i hi => by have := hx i hi; unfold Fit1; omega, fun i hi => by have := hx i hi; have := prod_bd this.1 this.2 c0 c1; unfold Fit1; omega, fun i hi => by
    rcases ins_at (v := 0) (f := x) hi kn with e | ⟨j, hj, e⟩
    · rw [e]; unfold Fit1; omega
    · rw [e]; have := hx j hj; unfold Fit1; omega⟩
  clear hcell hx hr hn hxx fa
  go_enter Try.func4, Try.ntmps4
  go_wp2_with fail
  refine (slive_ok _).mono ?_
  rintro e w1 ⟨rfl, hb1⟩
  go_wp2
  clear tm hk
  go_loopw [10, 11, 12, 38] (fun U V T I wr => ∃ i k3 : Nat, i ≤ n ∧ Hid (k3 = mlong k i) ∧ I = .int .i64 i ∧ Trio 2 w wr U V T i i k3 x (fun i => x i * c) (ins k 0 x)) (fun _ _ _ I _ => n - (intOf I).toNat)
  case atStart => exact ⟨0, 0, by omega, Lib.hid (by unfold mlong; rw [if_pos (by omega)]), rfl, Trio.start _ w hb1 _ _ _⟩
  case round =>
    clear hb1
    obtain ⟨i, k3, hik, HL, rfl, X⟩ := hrel
    by_cases hlt : i < n
    · have hc := (X.below.cell (p := ⟨b, off + i, none⟩) hb).trans (HX.out i hlt)
      obtain ⟨b0, b1⟩ := HB.out i hlt
      obtain ⟨v, hv⟩ : ∃ v, x i = v := ⟨_, rfl⟩
      rw [hv] at hc b0 b1
      obtain ⟨p, hp⟩ : ∃ p, v * c = p := ⟨_, rfl⟩
      have pb := prod_bd b0 b1 c0 c1
      rw [hp] at pb
      obtain ⟨pb0, pb1⟩ := pb
      have pp : (0 : Int) ≤ (i : Int) := by omega
      have bp : (i : Int) < (n : Int) := by omega
      have sz := X.below.size
      have k60 : k3 ≤ 61 := by have := HL.out; unfold mlong at this; split at this <;> omega
      obtain ⟨i0, hi, hz0, hz1, hz2⟩ := info_parts infoL
      by_cases ik : i = k
      · have d5 : ((i : Int) == (k : Int)) = true := beq_iff_eq.2 (by omega)
        have e3 : k3 = i := by have := HL.out; unfold mlong at this; rw [if_pos (by omega)] at this; exact this
        have HK0 : Hid (ins k 0 x k3 = 0) := Lib.hid (by unfold ins; rw [if_neg (by omega), if_pos (by omega)])
        have HK : Hid (x i = v ∧ x i * c = p ∧ ins k 0 x (k3 + 1) = v) := Lib.hid ⟨hv, by rw [hv, hp], by unfold ins; rw [if_neg (by omega), if_neg (by omega), show k3 + 1 - 1 = i by omega, hv]⟩
        have HL : Hid (k3 + 1 + 1 = mlong k (i + 1)) := Lib.hid (by unfold mlong; rw [if_neg (by omega)]; omega)
        clear ik e3 hv
        go_wp2_with (first
          | (at_builtin; refine wpList_append_lies _ rfl (.tmp 46) (.tmp 47) 22 rfl w.heap.size 2 i0 (.int .i64 0) 1 8 underL hi hz0 hz1 hz2 rfl (by decide) _ k3 (lst (ins k 0 x) k3) rfl ((X.c).alloc _) ⟨wr.heap.size, 0, none⟩ 1 1 [.int .i64 0] rfl rfl ?p4a ?p4b (by omega) ?p4c ?p4d ?p4e _ rfl ?p4m))
        case p4a =>
          intro j u hj
          match j, hj with
          | 0, hj => simp at hj; subst hj; simp [Addr.add]
        case p4b => intro u hu; simp at hu; subst hu; rfl
        case p4c => unfold maxLen; omega
        case p4d => omega
        case p4e => simp; omega
        case p4m =>
          intro g0 cap0 w1' hown0 hgrow0 hat0 hlt0
          have X0 := (X.turn.turn.next (o1 := (.cells #[.int .i64 0] 2)) (by rw [HK0.out]; exact hown0) hgrow0 hat0 hlt0).turn
          have sz := X0.below.size
          clear hown0 hgrow0 hat0 hlt0
          go_wp2_with (first
            | (at_builtin; refine wpList_append_lies _ rfl (.tmp 49) (.tmp 52) 22 rfl w.heap.size 2 i0 (.int .i64 0) 1 8 underL hi hz0 hz1 hz2 rfl (by decide) _ i (lst (x) i) rfl ((X0.a).alloc _) ⟨w1'.heap.size, 0, none⟩ 1 1 [.int .i64 v] rfl rfl ?p3a ?p3b (by omega) ?p3c ?p3d ?p3e _ rfl ?p3m))
          case p3a =>
            intro j u hj
            match j, hj with
            | 0, hj => simp at hj; subst hj; simp [Addr.add]
          case p3b => intro u hu; simp at hu; subst hu; rfl
          case p3c => unfold maxLen; omega
          case p3d => omega
          case p3e => simp; omega
          case p3m =>
            intro g1 cap1 w2 hown1 hgrow1 hat1 hlt1
            have X1 := X0.next (o1 := (.cells #[.int .i64 v] 2)) (by rw [HK.out.1]; exact hown1) hgrow1 hat1 hlt1
            have sz := X1.below.size
            go_wp2_with (first
              | (at_builtin; refine wpList_append_lies _ rfl (.tmp 54) (.tmp 60) 22 rfl w.heap.size 2 i0 (.int .i64 0) 1 8 underL hi hz0 hz1 hz2 rfl (by decide) _ i (lst (fun i => x i * c) i) rfl ((X1.b).alloc _) ⟨w2.heap.size, 0, none⟩ 1 1 [.int .i64 p] rfl rfl ?p2a ?p2b (by omega) ?p2c ?p2d ?p2e _ rfl ?p2m))
            case p2a =>
              intro j u hj
              match j, hj with
              | 0, hj => simp at hj; subst hj; simp [Addr.add]
            case p2b => intro u hu; simp at hu; subst hu; rfl
            case p2c => unfold maxLen; omega
            case p2d => omega
            case p2e => simp; omega
            case p2m =>
              intro g2 cap2 w3 hown2 hgrow2 hat2 hlt2
              have X2 := X1.turn.next (o1 := (.cells #[.int .i64 p] 2)) (by rw [HK.out.2.1]; exact hown2) hgrow2 hat2 hlt2
              have sz := X2.below.size
              go_wp2_with (first
                | (at_builtin; refine wpList_append_lies _ rfl (.tmp 62) (.tmp 65) 22 rfl w.heap.size 2 i0 (.int .i64 0) 1 8 underL hi hz0 hz1 hz2 rfl (by decide) _ (k3 + 1) (lst (ins k 0 x) (k3 + 1)) rfl ((X2.b).alloc _) ⟨w3.heap.size, 0, none⟩ 1 1 [.int .i64 v] rfl rfl ?p1a ?p1b (by omega) ?p1c ?p1d ?p1e _ rfl ?p1m))
              case p1a =>
                intro j u hj
                match j, hj with
                | 0, hj => simp at hj; subst hj; simp [Addr.add]
              case p1b => intro u hu; simp at hu; subst hu; rfl
              case p1c => unfold maxLen; omega
              case p1d => omega
              case p1e => simp; omega
              case p1m =>
                intro g3 cap3 w4 hown3 hgrow3 hat3 hlt3
                have X3 := (X2.turn.next (o1 := (.cells #[.int .i64 v] 2)) (by rw [HK.out.2.2]; exact hown3) hgrow3 hat3 hlt3).turn
                clear X X1 X2 hown1 hgrow1 hat1 hlt1 hown2 hgrow2 hat2 hlt2 hown3 hgrow3 hat3 hlt3
                go_wp2
                go_roundw
                case rel => exact ⟨i + 1, (k3 + 1) + 1, by omega, HL, by go_num, X3⟩
                case measure => simp [intOf] <;> omega
      · have d5 : ((i : Int) == (k : Int)) = false := beq_eq_false_iff_ne.2 (by omega)
        have HK : Hid (x i = v ∧ x i * c = p ∧ ins k 0 x k3 = v) := Lib.hid ⟨hv, by rw [hv, hp], by
          have := HL.out
          unfold mlong at this
          unfold ins
          by_cases q : i < k
          · rw [if_pos (by omega)] at this; rw [if_pos (by omega), this, hv]
          · rw [if_neg (by omega)] at this; rw [if_neg (by omega), if_neg (by omega), show k3 - 1 = i by omega, hv]⟩
        have HL : Hid (k3 + 1 = mlong k (i + 1)) := Lib.hid (by have := HL.out; unfold mlong at *; split at this <;> split <;> omega)
        clear ik hv
        go_wp2_with (first
          | (at_builtin; refine wpList_append_lies _ rfl (.tmp 49) (.tmp 52) 22 rfl w.heap.size 2 i0 (.int .i64 0) 1 8 underL hi hz0 hz1 hz2 rfl (by decide) _ i (lst (x) i) rfl ((X.a).alloc _) ⟨wr.heap.size, 0, none⟩ 1 1 [.int .i64 v] rfl rfl ?p7a ?p7b (by omega) ?p7c ?p7d ?p7e _ rfl ?p7m))
        case p7a =>
          intro j u hj
          match j, hj with
          | 0, hj => simp at hj; subst hj; simp [Addr.add]
        case p7b => intro u hu; simp at hu; subst hu; rfl
        case p7c => unfold maxLen; omega
        case p7d => omega
        case p7e => simp; omega
        case p7m =>
          intro g1 cap1 w2 hown1 hgrow1 hat1 hlt1
          have X1 := X.next (o1 := (.cells #[.int .i64 v] 2)) (by rw [HK.out.1]; exact hown1) hgrow1 hat1 hlt1
          have sz := X1.below.size
          go_wp2_with (first
            | (at_builtin; refine wpList_append_lies _ rfl (.tmp 54) (.tmp 60) 22 rfl w.heap.size 2 i0 (.int .i64 0) 1 8 underL hi hz0 hz1 hz2 rfl (by decide) _ i (lst (fun i => x i * c) i) rfl ((X1.b).alloc _) ⟨w2.heap.size, 0, none⟩ 1 1 [.int .i64 p] rfl rfl ?p6a ?p6b (by omega) ?p6c ?p6d ?p6e _ rfl ?p6m))
          case p6a =>
            intro j u hj
            match j, hj with
            | 0, hj => simp at hj; subst hj; simp [Addr.add]
          case p6b => intro u hu; simp at hu; subst hu; rfl
          case p6c => unfold maxLen; omega
          case p6d => omega
          case p6e => simp; omega
          case p6m =>
            intro g2 cap2 w3 hown2 hgrow2 hat2 hlt2
            have X2 := X1.turn.next (o1 := (.cells #[.int .i64 p] 2)) (by rw [HK.out.2.1]; exact hown2) hgrow2 hat2 hlt2
            have sz := X2.below.size
            go_wp2_with (first
              | (at_builtin; refine wpList_append_lies _ rfl (.tmp 62) (.tmp 65) 22 rfl w.heap.size 2 i0 (.int .i64 0) 1 8 underL hi hz0 hz1 hz2 rfl (by decide) _ k3 (lst (ins k 0 x) k3) rfl ((X2.b).alloc _) ⟨w3.heap.size, 0, none⟩ 1 1 [.int .i64 v] rfl rfl ?p5a ?p5b (by omega) ?p5c ?p5d ?p5e _ rfl ?p5m))
            case p5a =>
              intro j u hj
              match j, hj with
              | 0, hj => simp at hj; subst hj; simp [Addr.add]
            case p5b => intro u hu; simp at hu; subst hu; rfl
            case p5c => unfold maxLen; omega
            case p5d => omega
            case p5e => simp; omega
            case p5m =>
              intro g3 cap3 w4 hown3 hgrow3 hat3 hlt3
              have X3 := (X2.turn.next (o1 := (.cells #[.int .i64 v] 2)) (by rw [HK.out.2.2]; exact hown3) hgrow3 hat3 hlt3).turn
              clear X X1 X2 hown1 hgrow1 hat1 hlt1 hown2 hgrow2 hat2 hlt2 hown3 hgrow3 hat3 hlt3
              go_wp2
              go_roundw
              case rel => exact ⟨i + 1, k3 + 1, by omega, HL, by go_num, X3⟩
              case measure => simp [intOf] <;> omega
    · obtain rfl : n = i := by omega
      by_cases kn' : k = n
      · have d6 : ((k : Int) == (n : Int)) = true := beq_iff_eq.2 (by omega)
        have kge : n ≤ k := by omega
        clear kn'
        obtain ⟨i0, hi, hz0, hz1, hz2⟩ := info_parts infoL
        have sz := X.below.size
        obtain rfl : n = k3 := by have := HL.out; unfold mlong at this; rw [if_pos (by omega)] at this; exact this.symm
        have HK0 : Hid (ins k 0 x n = 0) := Lib.hid (by unfold ins; rw [if_neg (by omega), if_pos (by omega)])
        go_wp2_with (first
          | (at_builtin; refine wpList_append_lies _ rfl (.tmp 72) (.tmp 73) 22 rfl w.heap.size 2 i0 (.int .i64 0) 1 8 underL hi hz0 hz1 hz2 rfl (by decide) _ n (lst (ins k 0 x) n) rfl ((X.c).alloc _) ⟨wr.heap.size, 0, none⟩ 1 1 [.int .i64 0] rfl rfl ?p8a ?p8b (by omega) ?p8c ?p8d ?p8e _ rfl ?p8m))
        case p8a =>
          intro j u hj
          match j, hj with
          | 0, hj => simp at hj; subst hj; simp [Addr.add]
        case p8b => intro u hu; simp at hu; subst hu; rfl
        case p8c => unfold maxLen; omega
        case p8d => omega
        case p8e => simp; omega
        case p8m =>
          intro g3 cp3 w1' hown0 hgrow0 hat0 hlt0
          replace X := (X.turn.turn.next (o1 := (.cells #[.int .i64 0] 2)) (by rw [HK0.out]; exact hown0) hgrow0 hat0 hlt0).turn
          clear hown0 hgrow0 hat0 hlt0 sz hi hz0 hz1 hz2
          obtain ⟨g1, cp1, rfl, _, _⟩ := X.a.form n0
          obtain ⟨g2, cp2, rfl, _, _⟩ := X.b.form n0
          have RA := Row.of_owns X.a n0
          have RB := Row.of_owns X.b n0
          have RC := Row.of_owns X.c (by omega)
          have B1 := X.below
          clear X
          rcases three with ⟨M, p1, s1, f1, p2, s2, f2, p3, s3, f3⟩ | ⟨er, ne, r1, r2, r3⟩
          · have q1 := fun w h => split_go (some ⟨g1, 0, none⟩) n cp1 (ls x n) a w (ls_len _ _) n0 (by omega) HA.out (ls_fit HF.out.1) h p1 s1 f1
            have q2 := fun w h => split_go (some ⟨g2, 0, none⟩) n cp2 (ls (fun i => x i * c) n) a w (ls_len _ _) n0 (by omega) HA.out (ls_fit HF.out.2.1) h p2 s2 f2
            have q3 := fun w h => split_go (some ⟨g3, 0, none⟩) (n + 1) cp3 (ls (ins k 0 x) (n + 1)) a w (ls_len _ _) (by omega) (by omega) HA.out (ls_fit HF.out.2.2) h p3 s3 f3
            have HM := Lib.hid M
            clear p1 s1 f1 p2 s2 f2 p3 s3 f3 M
            go_wp2_with fail
            refine (q1 _ (row_rd RA)).mono ?_
            rintro e w2 ⟨p, o, rfl, RP, pl, ho, hb2⟩
            replace B1 := bthen B1 hb2
            replace RB := RB.kept hb2
            replace RC := RC.kept hb2
            have HO := Lib.hid (split_congr (fun i hi => wt_ls hi) ho)
            clear hb2 ho pl RA
            go_wp2_with fail
            refine (q2 _ (row_rd RB)).mono ?_
            rintro e w3 ⟨q, o2, rfl, RQ, ql, ho, hb2⟩
            replace B1 := bthen B1 hb2
            replace RC := RC.kept hb2
            replace RP := RP.kept hb2
            have H2 : Hid (∀ i, i < n → o2 i = o i) := Lib.hid (split_unique (split_congr (w' := fun i => c * x i) (fun i hi => by rw [wt_ls hi]; exact Int.mul_comm _ _) ho) (split_scale c0 HM.out HO.out))
            clear hb2 ho ql RB
            go_wp2_with fail
            refine (q3 _ (row_rd RC)).mono ?_
            rintro e w4 ⟨r, o3, rfl, RR, rl, ho, hb2⟩
            replace B1 := bthen B1 hb2
            replace RP := RP.kept hb2
            replace RQ := RQ.kept hb2
            have H3 : Hid (∀ i, i < n + 1 → o3 i = ins k 0 o i) := Lib.hid (split_unique (split_congr (w' := ins k 0 x) (fun i hi => wt_ls hi) ho) (split_ins kn HM.out HO.out).2)
            clear hb2 ho rl RC q1 q2 q3
            have SM := Same_yes (some ⟨p, 0, none⟩) (some ⟨q, 0, none⟩) n n n o w4 hn9 (.inr ⟨p, 0, rfl, fun i hi => by rw [Nat.zero_add]; exact RP.c i hi⟩) (.inr ⟨q, 0, rfl, fun i hi => by rw [Nat.zero_add, RQ.c i hi, H2.out i hi]⟩)
            go_wp2_with fail
            refine SM.mono ?_
            rintro e w5 ⟨rfl, hb2⟩
            replace B1 := bthen B1 hb2
            replace RP := RP.kept hb2
            replace RR := RR.kept hb2
            clear hb2 SM RQ
            have rk : w5.cell? ⟨r, k, none⟩ = some (.int .i64 0) := by
              rw [RR.c k (by omega), H3.out k (by omega)]; unfold ins; rw [if_neg (by omega), if_pos rfl]
            have dl : (((n + 1 : Nat) : Int) == (n : Int) + 1) = true := beq_iff_eq.2 (by omega)
            have dl2 : (((n : Int) + 1) == (n : Int) + 1) = true := beq_iff_eq.2 rfl
            have wn : IntKind.i64.wrap ((n : Int) + 1) = (n : Int) + 1 := IntWalk.i64_in _ (by omega)
            have wk : IntKind.i64.wrap ((k : Int) + 1) = (k : Int) + 1 := IntWalk.i64_in _ (by omega)
            have kk0 : (0 : Int) ≤ (k : Int) := by omega
            have kk1 : (k : Int) < (n : Int) + 1 := by omega
            obtain ⟨i0, hi, hz0, hz1, hz2⟩ := info_parts infoL
            have lt1 : ∀ i, i < k → ins k 0 o i = o i := fun i hi => by unfold ins; rw [if_pos hi]
            have lt2 : ∀ i, ins k 0 o (k + 1 + i) = o (k + i) := fun i => by unfold ins; rw [if_neg (by omega), if_neg (by omega), show k + 1 + i - 1 = k + i by omega]
            have SE : Hid (∀ (X : World) (g cap : Nat), Below w5.heap.size w5 X → X.ownsRow w.heap.size 2 1 (.slice (some ⟨g, 0, none⟩) n cap) n (lst o n) → Calls Try.prog 10 #[.slice (some ⟨g, 0, none⟩) n cap, .slice (some ⟨p, 0, none⟩) n n] X fun e w' => e = .returned (.bool true) ∧ Below X.heap.size X w') :=
              Lib.hid (fun X g cap hX own => Same_yes (some ⟨g, 0, none⟩) (some ⟨p, 0, none⟩) n cap n o X hn9 (.inr ⟨g, 0, rfl, fun i hi => by rw [Nat.zero_add]; exact (Row.of_owns own n0).c i hi⟩) (.inr ⟨p, 0, rfl, fun i hi => by rw [Nat.zero_add]; exact (RP.kept hX).c i hi⟩))
            have S1 : Hid (∀ X : World, Below w5.heap.size w5 X → ∀ j u, (lst o k)[j]? = some u → X.cell? ((⟨r, 0, none⟩ : Addr).add j) = some u) := Lib.hid (fun X hX => lst_row RR hX (by omega) (fun i hi => by rw [Nat.zero_add, H3.out i (by omega), lt1 i hi]))
            have G1 : Hid (∀ (X : World) (g cap : Nat) (w6 : World), Below w5.heap.size w5 X → w6.ownsRow w.heap.size 2 1 (.slice (some ⟨g, 0, none⟩) (0 + k) cap) (0 + k) ([] ++ lst o k) → X.grownBy w6 (Value.slice none 0 0).ownBlock →
                Below w5.heap.size w5 w6 ∧ w6.ownsRow w.heap.size 2 1 (.slice (some ⟨g, 0, none⟩) n cap) n (lst o n)) := Lib.hid (fun X g cap w6 hX own gr => ⟨below_grown hX gr (fun k h => by cases h) (Nat.le_refl _), by rw [← show k = n by omega]; simpa using own⟩)
            have cs1 : ∀ w, (Instr.slice 22 (.slice (some ⟨r, 0, none⟩) (n + 1) (n + 1)) none (some (.int .i64 (k : Int))) none).run Try.prog w = .ok (.slice (some ⟨r, 0, none⟩) k (n + 1)) w := fun w => by
              have kz : True := by first | trivial | omega
              have h := run_slice_h (P := Try.prog) (w := w) 22 (some ⟨r, 0, none⟩) (n + 1) (n + 1) (by kernel_rfl) .i64 (k : Int) (by omega) (by omega)
              rw [h]; simp [sliced, go_sem, kz]
            have cs2 : ∀ w, (Instr.slice 22 (.slice (some ⟨r, 0, none⟩) (n + 1) (n + 1)) (some (.int .i64 ((k : Int) + 1))) none none).run Try.prog w = .ok (.slice (some ⟨r, 0, none⟩) 0 0) w := fun w => by
              have h := run_slice_l (P := Try.prog) (w := w) 22 (some ⟨r, 0, none⟩) (n + 1) (n + 1) (by kernel_rfl) .i64 ((k : Int) + 1) (by omega) (by omega)
              rw [h]
              have e1 : ((k : Int) + 1).toNat = k + 1 := by omega
              simp [sliced, go_sem, e1]
              try omega
            have b9 : w.heap.size ≤ w5.heap.size := B1.size
            have G0 : Hid (∀ (X : World) (g : Nat), Below w5.heap.size w5 X → ((Value.slice none 0 0).ownBlock = some g ∨ g = X.heap.size) → w.heap.size ≤ g ∧ w5.heap.size ≤ g) := Lib.hid (fun X g hX h => by rcases h with h | h; cases h; have := hX.size; omega)
            have KK : Hid (∀ X : World, Below w5.heap.size w5 X → Below w5.heap.size w5 X ∧ X.cell? ⟨r, k, none⟩ = some (.int .i64 0)) := Lib.hid (fun X hX => ⟨hX, (hX.cell (p := ⟨r, k, none⟩) RR.lt).trans rk⟩)
            clear dl2 H2 HO H3 RP RR lt1 lt2
            go_wp2
            go_region_held3 (fun w' => Below w5.heap.size w5 w' ∧ w'.cell? ⟨r, k, none⟩ = some (.int .i64 0))
              (exact KK.out _ (by first | (with_reducible assumption) | exact Below.refl _ _ | exact (Below.refl _ _).drew))
              (first
                | (refine wanted_go (by go_simp) ?_; refine app_any (.const (.slice none 0 0)) (.tmp 133) rfl w.heap.size (.slice none 0 0) 0 [] ?eq1 ?eq0 ⟨r, 0, none⟩ k (n + 1) (lst o k) ?eq2 ?eq3 ?eq4 lst_one' ?eq5 ?eq6 ?eq8 ?eq9; (· simp [Act.eval]); (· exact World.ownsRow_nil _ _ _ _); (· simp [Act.eval, Act.put]); (· exact lst_len _ _); (· exact S1.out w5.drew (Below.refl _ _).drew); (· omega); (· omega); (· exact b9); intro g cap' w6 own gr at'; obtain ⟨hA1, hA2⟩ := G1.out w5.drew g cap' w6 (Below.refl _ _).drew own gr; clear own gr at'; rw [show 0 + k = n by omega])
                | (refine wanted_go (by go_simp) ?_; refine wp_append_nothing (.tmp 134) (.tmp 138) rfl w.heap.size (.slice (some ⟨g, 0, none⟩) n cap') n (lst o n) ?es1 ?es0 (some ⟨r, 0, none⟩) 0 ?es2 ?es9; (· simp [Act.eval, Act.put]); (· exact hA2); (· simp [Act.eval, Act.put]))
                | (go_at_call 10; (with_reducible refine (SE.out _ _ _ hA1 hA2).mono ?_); rintro e w8 ⟨rfl, hb8⟩; have hC := bthen hA1 hb8))
            all_goals go_wp2
            all_goals
              go_ret
              exact ⟨rfl, bthen B1 hC⟩
          · have l1 := fun w h => split_no (some ⟨g1, 0, none⟩) n cp1 (ls x n) a 0 er w (ls_len _ _) hn9 (ls_fit HF.out.1) h r1 ne
            have l2 := fun w h => split_no (some ⟨g2, 0, none⟩) n cp2 (ls (fun i => x i * c) n) a 0 er w (ls_len _ _) hn9 (ls_fit HF.out.2.1) h r2 ne
            have l3 := fun w h => split_no (some ⟨g3, 0, none⟩) (n + 1) cp3 (ls (ins k 0 x) (n + 1)) a 0 er w (ls_len _ _) (by omega) (ls_fit HF.out.2.2) h r3 ne
            have d8 : (er != 0) = true := bne_iff_ne.2 ne
            have SN := fun w => Same_yes none none 0 0 0 (fun _ => 0) w (by omega) (.inl rfl) (.inl rfl)
            clear r1 r2 r3 ne
            go_wp2_with fail
            refine (l1 _ (row_rd RA)).mono ?_
            rintro e w2 ⟨rfl, hb2⟩
            replace B1 := bthen B1 hb2
            replace RB := RB.kept hb2
            replace RC := RC.kept hb2
            clear hb2 RA
            go_wp2_with fail
            refine (l2 _ (row_rd RB)).mono ?_
            rintro e w3 ⟨rfl, hb2⟩
            replace B1 := bthen B1 hb2
            replace RC := RC.kept hb2
            clear hb2 RB
            go_wp2_with fail
            refine (l3 _ (row_rd RC)).mono ?_
            rintro e w4 ⟨rfl, hb2⟩
            replace B1 := bthen B1 hb2
            clear hb2 RC l1 l2 l3
            go_wp2_with fail
            refine (SN _).mono ?_
            rintro e w5 ⟨rfl, hb2⟩
            replace B1 := bthen B1 hb2
            go_wp2
            go_ret
            exact ⟨rfl, B1⟩
      · have d6 : ((k : Int) == (n : Int)) = false := beq_eq_false_iff_ne.2 (by omega)
        obtain rfl : n + 1 = k3 := by have := HL.out; unfold mlong at this; rw [if_neg (by omega)] at this; exact this.symm
        clear HL
        by_cases k0 : k = 0
        · have kz0 : k ≤ 0 := by omega
          clear k0
          obtain ⟨g1, cp1, rfl, _, _⟩ := X.a.form n0
          obtain ⟨g2, cp2, rfl, _, _⟩ := X.b.form n0
          obtain ⟨g3, cp3, rfl, _, _⟩ := X.c.form (by omega)
          have RA := Row.of_owns X.a n0
          have RB := Row.of_owns X.b n0
          have RC := Row.of_owns X.c (by omega)
          have B1 := X.below
          clear X
          rcases three with ⟨M, p1, s1, f1, p2, s2, f2, p3, s3, f3⟩ | ⟨er, ne, r1, r2, r3⟩
          · have q1 := fun w h => split_go (some ⟨g1, 0, none⟩) n cp1 (ls x n) a w (ls_len _ _) n0 (by omega) HA.out (ls_fit HF.out.1) h p1 s1 f1
            have q2 := fun w h => split_go (some ⟨g2, 0, none⟩) n cp2 (ls (fun i => x i * c) n) a w (ls_len _ _) n0 (by omega) HA.out (ls_fit HF.out.2.1) h p2 s2 f2
            have q3 := fun w h => split_go (some ⟨g3, 0, none⟩) (n + 1) cp3 (ls (ins k 0 x) (n + 1)) a w (ls_len _ _) (by omega) (by omega) HA.out (ls_fit HF.out.2.2) h p3 s3 f3
            have HM := Lib.hid M
            clear p1 s1 f1 p2 s2 f2 p3 s3 f3 M
            go_wp2_with fail
            refine (q1 _ (row_rd RA)).mono ?_
            rintro e w2 ⟨p, o, rfl, RP, pl, ho, hb2⟩
            replace B1 := bthen B1 hb2
            replace RB := RB.kept hb2
            replace RC := RC.kept hb2
            have HO := Lib.hid (split_congr (fun i hi => wt_ls hi) ho)
            clear hb2 ho pl RA
            go_wp2_with fail
            refine (q2 _ (row_rd RB)).mono ?_
            rintro e w3 ⟨q, o2, rfl, RQ, ql, ho, hb2⟩
            replace B1 := bthen B1 hb2
            replace RC := RC.kept hb2
            replace RP := RP.kept hb2
            have H2 : Hid (∀ i, i < n → o2 i = o i) := Lib.hid (split_unique (split_congr (w' := fun i => c * x i) (fun i hi => by rw [wt_ls hi]; exact Int.mul_comm _ _) ho) (split_scale c0 HM.out HO.out))
            clear hb2 ho ql RB
            go_wp2_with fail
            refine (q3 _ (row_rd RC)).mono ?_
            rintro e w4 ⟨r, o3, rfl, RR, rl, ho, hb2⟩
            replace B1 := bthen B1 hb2
            replace RP := RP.kept hb2
            replace RQ := RQ.kept hb2
            have H3 : Hid (∀ i, i < n + 1 → o3 i = ins k 0 o i) := Lib.hid (split_unique (split_congr (w' := ins k 0 x) (fun i hi => wt_ls hi) ho) (split_ins kn HM.out HO.out).2)
            clear hb2 ho rl RC q1 q2 q3
            have SM := Same_yes (some ⟨p, 0, none⟩) (some ⟨q, 0, none⟩) n n n o w4 hn9 (.inr ⟨p, 0, rfl, fun i hi => by rw [Nat.zero_add]; exact RP.c i hi⟩) (.inr ⟨q, 0, rfl, fun i hi => by rw [Nat.zero_add, RQ.c i hi, H2.out i hi]⟩)
            go_wp2_with fail
            refine SM.mono ?_
            rintro e w5 ⟨rfl, hb2⟩
            replace B1 := bthen B1 hb2
            replace RP := RP.kept hb2
            replace RR := RR.kept hb2
            clear hb2 SM RQ
            have rk : w5.cell? ⟨r, k, none⟩ = some (.int .i64 0) := by
              rw [RR.c k (by omega), H3.out k (by omega)]; unfold ins; rw [if_neg (by omega), if_pos rfl]
            have dl : (((n + 1 : Nat) : Int) == (n : Int) + 1) = true := beq_iff_eq.2 (by omega)
            have dl2 : (((n : Int) + 1) == (n : Int) + 1) = true := beq_iff_eq.2 rfl
            have wn : IntKind.i64.wrap ((n : Int) + 1) = (n : Int) + 1 := IntWalk.i64_in _ (by omega)
            have wk : IntKind.i64.wrap ((k : Int) + 1) = (k : Int) + 1 := IntWalk.i64_in _ (by omega)
            have kk0 : (0 : Int) ≤ (k : Int) := by omega
            have kk1 : (k : Int) < (n : Int) + 1 := by omega
            obtain ⟨i0, hi, hz0, hz1, hz2⟩ := info_parts infoL
            have lt1 : ∀ i, i < k → ins k 0 o i = o i := fun i hi => by unfold ins; rw [if_pos hi]
            have lt2 : ∀ i, ins k 0 o (k + 1 + i) = o (k + i) := fun i => by unfold ins; rw [if_neg (by omega), if_neg (by omega), show k + 1 + i - 1 = k + i by omega]
            have SE : Hid (∀ (X : World) (g cap : Nat), Below w5.heap.size w5 X → X.ownsRow w.heap.size 2 1 (.slice (some ⟨g, 0, none⟩) n cap) n (lst o n) → Calls Try.prog 10 #[.slice (some ⟨g, 0, none⟩) n cap, .slice (some ⟨p, 0, none⟩) n n] X fun e w' => e = .returned (.bool true) ∧ Below X.heap.size X w') :=
              Lib.hid (fun X g cap hX own => Same_yes (some ⟨g, 0, none⟩) (some ⟨p, 0, none⟩) n cap n o X hn9 (.inr ⟨g, 0, rfl, fun i hi => by rw [Nat.zero_add]; exact (Row.of_owns own n0).c i hi⟩) (.inr ⟨p, 0, rfl, fun i hi => by rw [Nat.zero_add]; exact (RP.kept hX).c i hi⟩))
            have S2 : Hid (∀ X : World, Below w5.heap.size w5 X → ∀ j u, (lst o n)[j]? = some u → X.cell? ((⟨r, 1, none⟩ : Addr).add j) = some u) := Lib.hid (fun X hX => lst_row RR hX (by omega) (fun i hi => by rw [H3.out _ (by omega)]; have := lt2 i; rw [show k = 0 by omega, Nat.zero_add, Nat.zero_add] at this; rw [show k = 0 by omega]; exact this))
            have G2 : Hid (∀ (X : World) (g cap : Nat) (w6 : World), Below w5.heap.size w5 X → w6.ownsRow w.heap.size 2 1 (.slice (some ⟨g, 0, none⟩) (0 + n) cap) (0 + n) ([] ++ lst o n) → X.grownBy w6 (Value.slice none 0 0).ownBlock →
                Below w5.heap.size w5 w6 ∧ w6.ownsRow w.heap.size 2 1 (.slice (some ⟨g, 0, none⟩) n cap) n (lst o n)) := Lib.hid (fun X g cap w6 hX own gr => ⟨below_grown hX gr (fun k h => by cases h) (Nat.le_refl _), by simpa using own⟩)
            have cs1 : ∀ w, (Instr.slice 22 (.slice (some ⟨r, 0, none⟩) (n + 1) (n + 1)) none (some (.int .i64 (k : Int))) none).run Try.prog w = .ok (.slice (some ⟨r, 0, none⟩) 0 (n + 1)) w := fun w => by
              have kz : k = 0 := by first | trivial | omega
              have h := run_slice_h (P := Try.prog) (w := w) 22 (some ⟨r, 0, none⟩) (n + 1) (n + 1) (by kernel_rfl) .i64 (k : Int) (by omega) (by omega)
              rw [h]; simp [sliced, go_sem, kz]
            have cs2 : ∀ w, (Instr.slice 22 (.slice (some ⟨r, 0, none⟩) (n + 1) (n + 1)) (some (.int .i64 ((k : Int) + 1))) none none).run Try.prog w = .ok (.slice (some ⟨r, 1, none⟩) n n) w := fun w => by
              have h := run_slice_l (P := Try.prog) (w := w) 22 (some ⟨r, 0, none⟩) (n + 1) (n + 1) (by kernel_rfl) .i64 ((k : Int) + 1) (by omega) (by omega)
              rw [h]
              have e1 : ((k : Int) + 1).toNat = 1 := by omega
              simp [sliced, go_sem, e1, Addr.add]
              try omega
            have b9 : w.heap.size ≤ w5.heap.size := B1.size
            have G0 : Hid (∀ (X : World) (g : Nat), Below w5.heap.size w5 X → ((Value.slice none 0 0).ownBlock = some g ∨ g = X.heap.size) → w.heap.size ≤ g ∧ w5.heap.size ≤ g) := Lib.hid (fun X g hX h => by rcases h with h | h; cases h; have := hX.size; omega)
            have KK : Hid (∀ X : World, Below w5.heap.size w5 X → Below w5.heap.size w5 X ∧ X.cell? ⟨r, k, none⟩ = some (.int .i64 0)) := Lib.hid (fun X hX => ⟨hX, (hX.cell (p := ⟨r, k, none⟩) RR.lt).trans rk⟩)
            clear dl2 H2 HO H3 RP RR lt1 lt2
            go_wp2
            go_region_held3 (fun w' => Below w5.heap.size w5 w' ∧ w'.cell? ⟨r, k, none⟩ = some (.int .i64 0))
              (exact KK.out _ (by first | (with_reducible assumption) | exact Below.refl _ _ | exact (Below.refl _ _).drew))
              (first
                | (refine wanted_go (by go_simp) ?_; refine wp_append_nothing (.const (.slice none 0 0)) (.tmp 133) rfl w.heap.size (.slice none 0 0) 0 [] ?fq1 ?fq0 (some ⟨r, 0, none⟩) (n + 1) ?fq2 ?fq9; (· simp [Act.eval]); (· exact World.ownsRow_nil _ _ _ _); (· simp [Act.eval, Act.put]); have hA1 := (Below.refl w5.heap.size w5).drew)
                | (refine wanted_go (by go_simp) ?_; refine app_any (.tmp 134) (.tmp 138) rfl w.heap.size (.slice none 0 0) 0 [] ?fs1 ?fs0 ⟨r, 1, none⟩ n n (lst o n) ?fs2 ?fs3 ?fs4 lst_one' ?fs5 ?fs6 ?fs8 ?fs9; (· simp [Act.eval, Act.put]); (· exact World.ownsRow_nil _ _ _ _); (· simp [Act.eval, Act.put]); (· exact lst_len _ _); (· exact S2.out w5.drew (Below.refl _ _).drew); (· omega); (· omega); (· exact b9); intro g' cap'' w7 own gr at''; obtain ⟨hB1, hB2⟩ := G2.out w5.drew g' cap'' w7 (Below.refl _ _).drew own gr; clear own gr at''; rw [Nat.zero_add])
                | (go_at_call 10; (with_reducible refine (SE.out _ _ _ hB1 hB2).mono ?_); rintro e w8 ⟨rfl, hb8⟩; have hC := bthen hB1 hb8))
            all_goals go_wp2
            all_goals
              go_ret
              exact ⟨rfl, bthen B1 hC⟩
          · have l1 := fun w h => split_no (some ⟨g1, 0, none⟩) n cp1 (ls x n) a 0 er w (ls_len _ _) hn9 (ls_fit HF.out.1) h r1 ne
            have l2 := fun w h => split_no (some ⟨g2, 0, none⟩) n cp2 (ls (fun i => x i * c) n) a 0 er w (ls_len _ _) hn9 (ls_fit HF.out.2.1) h r2 ne
            have l3 := fun w h => split_no (some ⟨g3, 0, none⟩) (n + 1) cp3 (ls (ins k 0 x) (n + 1)) a 0 er w (ls_len _ _) (by omega) (ls_fit HF.out.2.2) h r3 ne
            have d8 : (er != 0) = true := bne_iff_ne.2 ne
            have SN := fun w => Same_yes none none 0 0 0 (fun _ => 0) w (by omega) (.inl rfl) (.inl rfl)
            clear r1 r2 r3 ne
            go_wp2_with fail
            refine (l1 _ (row_rd RA)).mono ?_
            rintro e w2 ⟨rfl, hb2⟩
            replace B1 := bthen B1 hb2
            replace RB := RB.kept hb2
            replace RC := RC.kept hb2
            clear hb2 RA
            go_wp2_with fail
            refine (l2 _ (row_rd RB)).mono ?_
            rintro e w3 ⟨rfl, hb2⟩
            replace B1 := bthen B1 hb2
            replace RC := RC.kept hb2
            clear hb2 RB
            go_wp2_with fail
            refine (l3 _ (row_rd RC)).mono ?_
            rintro e w4 ⟨rfl, hb2⟩
            replace B1 := bthen B1 hb2
            clear hb2 RC l1 l2 l3
            go_wp2_with fail
            refine (SN _).mono ?_
            rintro e w5 ⟨rfl, hb2⟩
            replace B1 := bthen B1 hb2
            go_wp2
            go_ret
            exact ⟨rfl, B1⟩
        · skip
          obtain ⟨g1, cp1, rfl, _, _⟩ := X.a.form n0
          obtain ⟨g2, cp2, rfl, _, _⟩ := X.b.form n0
          obtain ⟨g3, cp3, rfl, _, _⟩ := X.c.form (by omega)
          have RA := Row.of_owns X.a n0
          have RB := Row.of_owns X.b n0
          have RC := Row.of_owns X.c (by omega)
          have B1 := X.below
          clear X
          rcases three with ⟨M, p1, s1, f1, p2, s2, f2, p3, s3, f3⟩ | ⟨er, ne, r1, r2, r3⟩
          · have q1 := fun w h => split_go (some ⟨g1, 0, none⟩) n cp1 (ls x n) a w (ls_len _ _) n0 (by omega) HA.out (ls_fit HF.out.1) h p1 s1 f1
            have q2 := fun w h => split_go (some ⟨g2, 0, none⟩) n cp2 (ls (fun i => x i * c) n) a w (ls_len _ _) n0 (by omega) HA.out (ls_fit HF.out.2.1) h p2 s2 f2
            have q3 := fun w h => split_go (some ⟨g3, 0, none⟩) (n + 1) cp3 (ls (ins k 0 x) (n + 1)) a w (ls_len _ _) (by omega) (by omega) HA.out (ls_fit HF.out.2.2) h p3 s3 f3
            have HM := Lib.hid M
            clear p1 s1 f1 p2 s2 f2 p3 s3 f3 M
            go_wp2_with fail
            refine (q1 _ (row_rd RA)).mono ?_
            rintro e w2 ⟨p, o, rfl, RP, pl, ho, hb2⟩
            replace B1 := bthen B1 hb2
            replace RB := RB.kept hb2
            replace RC := RC.kept hb2
            have HO := Lib.hid (split_congr (fun i hi => wt_ls hi) ho)
            clear hb2 ho pl RA
            go_wp2_with fail
            refine (q2 _ (row_rd RB)).mono ?_
            rintro e w3 ⟨q, o2, rfl, RQ, ql, ho, hb2⟩
            replace B1 := bthen B1 hb2
            replace RC := RC.kept hb2
            replace RP := RP.kept hb2
            have H2 : Hid (∀ i, i < n → o2 i = o i) := Lib.hid (split_unique (split_congr (w' := fun i => c * x i) (fun i hi => by rw [wt_ls hi]; exact Int.mul_comm _ _) ho) (split_scale c0 HM.out HO.out))
            clear hb2 ho ql RB
            go_wp2_with fail
            refine (q3 _ (row_rd RC)).mono ?_
            rintro e w4 ⟨r, o3, rfl, RR, rl, ho, hb2⟩
            replace B1 := bthen B1 hb2
            replace RP := RP.kept hb2
            replace RQ := RQ.kept hb2
            have H3 : Hid (∀ i, i < n + 1 → o3 i = ins k 0 o i) := Lib.hid (split_unique (split_congr (w' := ins k 0 x) (fun i hi => wt_ls hi) ho) (split_ins kn HM.out HO.out).2)
            clear hb2 ho rl RC q1 q2 q3
            have SM := Same_yes (some ⟨p, 0, none⟩) (some ⟨q, 0, none⟩) n n n o w4 hn9 (.inr ⟨p, 0, rfl, fun i hi => by rw [Nat.zero_add]; exact RP.c i hi⟩) (.inr ⟨q, 0, rfl, fun i hi => by rw [Nat.zero_add, RQ.c i hi, H2.out i hi]⟩)
            go_wp2_with fail
            refine SM.mono ?_
            rintro e w5 ⟨rfl, hb2⟩
            replace B1 := bthen B1 hb2
            replace RP := RP.kept hb2
            replace RR := RR.kept hb2
            clear hb2 SM RQ
            have rk : w5.cell? ⟨r, k, none⟩ = some (.int .i64 0) := by
              rw [RR.c k (by omega), H3.out k (by omega)]; unfold ins; rw [if_neg (by omega), if_pos rfl]
            have dl : (((n + 1 : Nat) : Int) == (n : Int) + 1) = true := beq_iff_eq.2 (by omega)
            have dl2 : (((n : Int) + 1) == (n : Int) + 1) = true := beq_iff_eq.2 rfl
            have wn : IntKind.i64.wrap ((n : Int) + 1) = (n : Int) + 1 := IntWalk.i64_in _ (by omega)
            have wk : IntKind.i64.wrap ((k : Int) + 1) = (k : Int) + 1 := IntWalk.i64_in _ (by omega)
            have kk0 : (0 : Int) ≤ (k : Int) := by omega
            have kk1 : (k : Int) < (n : Int) + 1 := by omega
            obtain ⟨i0, hi, hz0, hz1, hz2⟩ := info_parts infoL
            have lt1 : ∀ i, i < k → ins k 0 o i = o i := fun i hi => by unfold ins; rw [if_pos hi]
            have lt2 : ∀ i, ins k 0 o (k + 1 + i) = o (k + i) := fun i => by unfold ins; rw [if_neg (by omega), if_neg (by omega), show k + 1 + i - 1 = k + i by omega]
            have SE : Hid (∀ (X : World) (g cap : Nat), Below w5.heap.size w5 X → X.ownsRow w.heap.size 2 1 (.slice (some ⟨g, 0, none⟩) n cap) n (lst o n) → Calls Try.prog 10 #[.slice (some ⟨g, 0, none⟩) n cap, .slice (some ⟨p, 0, none⟩) n n] X fun e w' => e = .returned (.bool true) ∧ Below X.heap.size X w') :=
              Lib.hid (fun X g cap hX own => Same_yes (some ⟨g, 0, none⟩) (some ⟨p, 0, none⟩) n cap n o X hn9 (.inr ⟨g, 0, rfl, fun i hi => by rw [Nat.zero_add]; exact (Row.of_owns own n0).c i hi⟩) (.inr ⟨p, 0, rfl, fun i hi => by rw [Nat.zero_add]; exact (RP.kept hX).c i hi⟩))
            have S1 : Hid (∀ X : World, Below w5.heap.size w5 X → ∀ j u, (lst o k)[j]? = some u → X.cell? ((⟨r, 0, none⟩ : Addr).add j) = some u) := Lib.hid (fun X hX => lst_row RR hX (by omega) (fun i hi => by rw [Nat.zero_add, H3.out i (by omega), lt1 i hi]))
            have G1 : Hid (∀ (X : World) (g cap : Nat) (w6 : World), Below w5.heap.size w5 X → w6.ownsRow w.heap.size 2 1 (.slice (some ⟨g, 0, none⟩) (0 + k) cap) (0 + k) ([] ++ lst o k) → X.grownBy w6 (Value.slice none 0 0).ownBlock →
                Below w5.heap.size w5 w6 ∧ w6.ownsRow w.heap.size 2 1 (.slice (some ⟨g, 0, none⟩) k cap) k (lst o k)) := Lib.hid (fun X g cap w6 hX own gr => ⟨below_grown hX gr (fun k h => by cases h) (Nat.le_refl _), by simpa using own⟩)
            have S2 : Hid (∀ X : World, Below w5.heap.size w5 X → ∀ j u, (lst (fun i => o (k + i)) (n - k))[j]? = some u → X.cell? ((⟨r, k + 1, none⟩ : Addr).add j) = some u) := Lib.hid (fun X hX => lst_row RR hX (by omega) (fun i hi => by rw [H3.out _ (by omega), lt2]))
            have G2 : Hid (∀ (X : World) (g g' cap cap' : Nat) (w6 : World), Below w5.heap.size w5 X → w.heap.size ≤ g → w5.heap.size ≤ g → w6.ownsRow w.heap.size 2 1 (.slice (some ⟨g', 0, none⟩) (k + (n - k)) cap') (k + (n - k)) (lst o k ++ lst (fun i => o (k + i)) (n - k)) → X.grownBy w6 (some g) →
                Below w5.heap.size w5 w6 ∧ w6.ownsRow w.heap.size 2 1 (.slice (some ⟨g', 0, none⟩) n cap') n (lst o n)) := Lib.hid (fun X g g' cap cap' w6 hX hg hg5 own gr => by
              rw [lst_split, show k + (n - k) = n by omega] at own
              exact ⟨below_grown hX gr (fun k h => by cases h; exact hg5) (Nat.le_refl _), own⟩)
            have cs1 : ∀ w, (Instr.slice 22 (.slice (some ⟨r, 0, none⟩) (n + 1) (n + 1)) none (some (.int .i64 (k : Int))) none).run Try.prog w = .ok (.slice (some ⟨r, 0, none⟩) k (n + 1)) w := fun w => by
              have kz : True := by first | trivial | omega
              have h := run_slice_h (P := Try.prog) (w := w) 22 (some ⟨r, 0, none⟩) (n + 1) (n + 1) (by kernel_rfl) .i64 (k : Int) (by omega) (by omega)
              rw [h]; simp [sliced, go_sem, kz]
            have cs2 : ∀ w, (Instr.slice 22 (.slice (some ⟨r, 0, none⟩) (n + 1) (n + 1)) (some (.int .i64 ((k : Int) + 1))) none none).run Try.prog w = .ok (.slice (some ⟨r, k + 1, none⟩) (n - k) (n - k)) w := fun w => by
              have h := run_slice_l (P := Try.prog) (w := w) 22 (some ⟨r, 0, none⟩) (n + 1) (n + 1) (by kernel_rfl) .i64 ((k : Int) + 1) (by omega) (by omega)
              rw [h]
              have e1 : ((k : Int) + 1).toNat = k + 1 := by omega
              simp [sliced, go_sem, e1, Addr.add]
              omega
            have b9 : w.heap.size ≤ w5.heap.size := B1.size
            have G0 : Hid (∀ (X : World) (g : Nat), Below w5.heap.size w5 X → ((Value.slice none 0 0).ownBlock = some g ∨ g = X.heap.size) → w.heap.size ≤ g ∧ w5.heap.size ≤ g) := Lib.hid (fun X g hX h => by rcases h with h | h; cases h; have := hX.size; omega)
            have KK : Hid (∀ X : World, Below w5.heap.size w5 X → Below w5.heap.size w5 X ∧ X.cell? ⟨r, k, none⟩ = some (.int .i64 0)) := Lib.hid (fun X hX => ⟨hX, (hX.cell (p := ⟨r, k, none⟩) RR.lt).trans rk⟩)
            clear dl2 H2 HO H3 RP RR lt1 lt2
            go_wp2
            go_region_held3 (fun w' => Below w5.heap.size w5 w' ∧ w'.cell? ⟨r, k, none⟩ = some (.int .i64 0))
              (exact KK.out _ (by first | (with_reducible assumption) | exact Below.refl _ _ | exact (Below.refl _ _).drew))
              (first
                | (refine wanted_go (by go_simp) ?_; (refine app_any (.const (.slice none 0 0)) (.tmp 133) rfl w.heap.size (.slice none 0 0) 0 [] ?mq1 ?mq0 ⟨r, 0, none⟩ k (n + 1) (lst o k) ?mq2 ?mq3 ?mq4 lst_one' ?mq5 ?mq6 ?mq8 ?mq9); (· (simp [Act.eval])); (· (exact World.ownsRow_nil _ _ _ _)); (· (simp [Act.eval, Act.put])); (· (exact lst_len _ _)); (· (exact S1.out w5.drew (Below.refl _ _).drew)); (· (omega)); (· (omega)); (· (exact b9)); intro g cap' w6 own gr at'; obtain ⟨hA1, hA2⟩ := G1.out w5.drew g cap' w6 (Below.refl _ _).drew own gr; have hG0 : Hid (w.heap.size ≤ g ∧ w5.heap.size ≤ g) := Lib.hid (G0.out w5.drew g (Below.refl _ _).drew at'); clear own gr at'; (rw [Nat.zero_add]))
                | (refine wanted_go (by go_simp) ?_; (refine app_any (.tmp 134) (.tmp 138) rfl w.heap.size (.slice (some ⟨g, 0, none⟩) k cap') k (lst o k) ?ms1 ?ms0 ⟨r, k + 1, none⟩ (n - k) (n - k) (lst (fun i => o (k + i)) (n - k)) ?ms2 ?ms3 ?ms4 lst_one' ?ms5 ?ms6 ?ms8 ?ms9); (· (simp [Act.eval, Act.put])); (· (exact hA2)); (· (simp [Act.eval, Act.put])); (· (exact lst_len _ _)); (· (exact S2.out _ hA1)); (· (omega)); (· (omega)); (· (exact Nat.le_trans b9 hA1.size)); intro g' cap'' w7 own gr at''; obtain ⟨hB1, hB2⟩ := G2.out _ g g' cap' cap'' w7 hA1 (hG0.out).1 (hG0.out).2 own gr; clear own gr at''; (rw [show k + (n - k) = n by omega]))
                | (go_at_call 10; (with_reducible refine (SE.out _ _ _ hB1 hB2).mono ?_); rintro e w8 ⟨rfl, hb8⟩; have hC := bthen hB1 hb8))
            all_goals go_wp2
            all_goals
              go_ret
              exact ⟨rfl, bthen B1 hC⟩
          · have l1 := fun w h => split_no (some ⟨g1, 0, none⟩) n cp1 (ls x n) a 0 er w (ls_len _ _) hn9 (ls_fit HF.out.1) h r1 ne
            have l2 := fun w h => split_no (some ⟨g2, 0, none⟩) n cp2 (ls (fun i => x i * c) n) a 0 er w (ls_len _ _) hn9 (ls_fit HF.out.2.1) h r2 ne
            have l3 := fun w h => split_no (some ⟨g3, 0, none⟩) (n + 1) cp3 (ls (ins k 0 x) (n + 1)) a 0 er w (ls_len _ _) (by omega) (ls_fit HF.out.2.2) h r3 ne
            have d8 : (er != 0) = true := bne_iff_ne.2 ne
            have SN := fun w => Same_yes none none 0 0 0 (fun _ => 0) w (by omega) (.inl rfl) (.inl rfl)
            clear r1 r2 r3 ne
            go_wp2_with fail
            refine (l1 _ (row_rd RA)).mono ?_
            rintro e w2 ⟨rfl, hb2⟩
            replace B1 := bthen B1 hb2
            replace RB := RB.kept hb2
            replace RC := RC.kept hb2
            clear hb2 RA
            go_wp2_with fail
            refine (l2 _ (row_rd RB)).mono ?_
            rintro e w3 ⟨rfl, hb2⟩
            replace B1 := bthen B1 hb2
            replace RC := RC.kept hb2
            clear hb2 RB
            go_wp2_with fail
            refine (l3 _ (row_rd RC)).mono ?_
            rintro e w4 ⟨rfl, hb2⟩
            replace B1 := bthen B1 hb2
            clear hb2 RC l1 l2 l3
            go_wp2_with fail
            refine (SN _).mono ?_
            rintro e w5 ⟨rfl, hb2⟩
            replace B1 := bthen B1 hb2
            go_wp2
            go_ret
            exact ⟨rfl, B1⟩

end Go.Proofs.Ytodpmdmfdnbehab.Sl
