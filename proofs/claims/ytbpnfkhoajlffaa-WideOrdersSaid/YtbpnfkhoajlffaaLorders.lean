/- WideOrders' walk. -/
import Derived.Test.YtbpnfkhoajlffaaLlive
import Derived.Test.YtbpnfkhoajlffaaLsmall
import Derived.OwnWalk
import Derived.Laws.Rows
namespace Go.Proofs.Ytbpnfkhoajlffaa.Vl
open Go.RowKit Go.Proofs.Ytbpnfkhoajlffaa.Vm Go.Proofs.Ytbpnfkhoajlffaa.Vc

set_option maxHeartbeats 400000

theorem info_int : (Try.prog.info? 2).map (fun i => (i.zero, i.size, i.bytes)) = some (some (.int .i64 0), 1, 8) := by kernel_rfl

/-- a slice that came in keeps its elements -/
theorem rd_kept {B : Nat} {w w1 : World} {A : Option Addr} {zs : List Int} (h : Rd w B A zs) (hb : Below B w w1) : Rd w1 B A zs := by
  rcases h with h | ⟨b, off, hA, hlt, hc⟩
  · exact .inl h
  · exact .inr ⟨b, off, hA, hlt, fun i hi => (hb.cell (p := ⟨b, off + i, none⟩) hlt).trans (hc i hi)⟩
theorem rd_more {B B' : Nat} {w : World} {A : Option Addr} {zs : List Int} (h : Rd w B A zs) (hB : B ≤ B') : Rd w B' A zs := by
  rcases h with h | ⟨b, off, hA, hlt, hc⟩
  · exact .inl h
  · exact .inr ⟨b, off, hA, by omega, hc⟩
/-- a row of the call's own reads as a slice -/
theorem rd_of_own {w : World} {base n : Nat} {e : TypeId} {v : Value} {zs : List Int} (h : w.ownsRow base e 1 v n (zs.map (Value.int .i64))) :
    ∃ A cap, v = .slice A n cap ∧ zs.length = n ∧ Rd w w.heap.size A zs := by
  have hl : zs.length = n := by have := h.1; rw [List.length_map] at this; omega
  rcases h.2 with ⟨rfl, rfl⟩ | ⟨g, cap, cur, rfl, _, hh, _, _, _, ht⟩
  · exact ⟨none, 0, rfl, hl, .inl (List.eq_nil_of_length_eq_zero hl)⟩
  · refine ⟨some ⟨g, 0, none⟩, cap, rfl, hl, .inr ⟨g, 0, rfl, ?_, fun i hi => ?_⟩⟩
    · rcases Nat.lt_or_ge g w.heap.size with h | h
      · exact h
      · rw [Array.getElem?_eq_none h] at hh; cases hh
    · rw [Nat.zero_add, cell_of_row w g i cur e (0, 0) hh]
      have h1 : cur.toList[i]? = ((zs.map (Value.int .i64)))[i]? := by
        rw [← ht, List.getElem?_take, if_pos (by omega)]
      have h2 : cur[i]? = cur.toList[i]? := by simp
      rw [h2, h1]
      simp [List.getD, hi]

theorem rev_take (zs : List Int) (n k : Nat) (z : Int) (hn : zs.length = n) (hk : k < n) (hz : zs.getD (n - 1 - k) 0 = z) : zs.reverse.take (k + 1) = zs.reverse.take k ++ [z] := by
  have h : k < zs.reverse.length := by rw [List.length_reverse]; omega
  rw [List.take_succ_eq_append_getElem h, List.getElem_reverse, ← hz]
  congr 2
  have h2 : zs.length - 1 - k < zs.length := by omega
  subst hn
  simp [List.getD, h2]

/-- the one cell of a new block -/
theorem one_new (w : World) (v : Value) (t : TypeId) : ∀ j u, [v][j]? = some u → (w.alloc (.cells #[v] t)).cell? ((⟨w.heap.size, 0, none⟩ : Addr).add j) = some u := by
  intro j u hj
  match j, hj with
  | 0, hj => simp at hj; subst hj; simp [Addr.add, go_sem]
/-- the two cells of a new block -/
theorem two_new (w : World) (v v' : Value) (t : TypeId) : ∀ j u, [v, v'][j]? = some u → (w.alloc (.cells #[v, v'] t)).cell? ((⟨w.heap.size, 0, none⟩ : Addr).add j) = some u := by
  intro j u hj
  match j, hj with
  | 0, hj => simp at hj; subst hj; simp [Addr.add, go_sem]
  | 1, hj => simp at hj; subst hj; simp [Addr.add, go_sem]

/-- a row of the call's own lies from its base on -/
theorem own_base {w : World} {base n : Nat} {e : TypeId} {size : Nat} {v : Value} {xs : List Value} (h : w.ownsRow base e size v n xs) : ∀ k, v.ownBlock = some k → base ≤ k := by
  intro k hk
  rcases h.2 with ⟨rfl, _⟩ | ⟨g, cap, cur, rfl, hg, _⟩
  · simp [Value.ownBlock] at hk
  · simp [Value.ownBlock] at hk
    omega

/-- a row of the call's own stays -/
theorem own_kept {w w1 : World} {base n : Nat} {e : TypeId} {size : Nat} {v : Value} {xs : List Value} (h : w.ownsRow base e size v n xs) (hb : Below w.heap.size w w1) : w1.ownsRow base e size v n xs := by
  refine ⟨h.1, ?_⟩
  rcases h.2 with h2 | ⟨g, cap, cur, hv, hg, hh, r⟩
  · exact .inl h2
  · refine .inr ⟨g, cap, cur, hv, hg, ?_, r⟩
    have hlt : g < w.heap.size := by
      rcases Nat.lt_or_ge g w.heap.size with h | h
      · exact h
      · rw [Array.getElem?_eq_none h] at hh; cases hh
    rw [hb.block g hlt, hh]

theorem sum_rev (l : List Int) : l.reverse.sum = l.sum := by
  induction l with
  | nil => rfl
  | cons a t ih => rw [List.reverse_cons, List.sum_append_int, ih]; simp; omega

theorem fit_rev {l : List Int} (h : ∀ z ∈ l, Fit1 z) : ∀ z ∈ l.reverse, Fit1 z := fun z hz => h z (List.mem_reverse.1 hz)

theorem rd_take {B k : Nat} {w : World} {A : Option Addr} {zs : List Int} (h : Rd w B A zs) : Rd w B A (zs.take k) := by
  rcases h with h | ⟨b, off, hA, hlt, hc⟩
  · exact .inl (by rw [h, List.take_nil])
  · refine .inr ⟨b, off, hA, hlt, fun i hi => ?_⟩
    rw [List.length_take] at hi
    rw [hc i (by omega)]
    have hk : i < k := by omega
    simp [List.getD, hk]

theorem rd_drop {B k : Nat} {w : World} {A : Option Addr} {zs : List Int} (h : Rd w B A zs) : Rd w B (Option.map (fun x => x.add k) A) (zs.drop k) := by
  rcases h with h | ⟨b, off, hA, hlt, hc⟩
  · exact .inl (by rw [h, List.drop_nil])
  · refine .inr ⟨b, off + k, ?_, hlt, fun i hi => ?_⟩
    · rw [hA]
      simp [Addr.add]
    · rw [List.length_drop] at hi
      rw [Nat.add_assoc, hc (k + i) (by omega)]
      simp [List.getD]

set_option maxHeartbeats 4000000 in
theorem orders_walk (A : Option Addr) (n cap : Nat) (zs : List Int) (at_ d : Int) (w : World) (w0 : SliceOf .i64 w A n cap zs) (w1 : (Lit.int .u8 at_).wf = true) (w2 : (Lit.int .i64 d).wf = true) :
    Calls Try.prog 10 #[.slice A n cap, .int .u8 at_, .int .i64 d] w fun e w' => e = .returned (.bool true) ∧ Below w.heap.size w w' := by
  obtain ⟨hn, hcap, hmax, hwf, hr⟩ := w0
  have fz : ∀ z ∈ zs, Fit1 z := fun z hz => bounds_i64 (hwf z hz)
  have fd : Fit1 d := bounds_i64 w2
  have ba := bounds_u8 w1
  have R0 : Rd w w.heap.size A zs := by
    rcases hr with h | ⟨b, off, h1, h2, h3⟩
    · exact .inl h
    · exact .inr ⟨b, off, h1, h2, fun i hi => h3 i (by omega)⟩
  unfold maxLen at hmax
  clear w1 w2 hwf hr
  replace fz := Lib.hid fz
  replace R0 := Lib.hid R0
  by_cases big : 100 < n
  · have d1 : decide ((100 : Int) < (n : Int)) = true := decide_eq_true (by omega)
    clear fz fd R0
    go_enter Try.func10, Try.ntmps10
    go_wp2_with fail
    refine (live_ok _).mono ?_
    rintro e w1 ⟨rfl, hb1⟩
    go_wp2
    go_ret
    exact ⟨rfl, hb1⟩
  · have d1 : decide ((100 : Int) < (n : Int)) = false := decide_eq_false (by omega)
    have small : n ≤ 100 := by omega
    replace hn := Lib.hid hn
    clear big
    obtain ⟨i0, hi, hz0, hz1, hz2⟩ := info_parts info_int
    obtain ⟨kk, hk7⟩ : ∃ k : Nat, at_ % ((n : Int) + 1) = (k : Int) := ⟨(at_ % ((n : Int) + 1)).toNat, by have := Int.emod_nonneg at_ (show (n : Int) + 1 ≠ 0 by omega); omega⟩
    have kk1 : kk ≤ n := by have := Int.emod_lt_of_pos at_ (show (0 : Int) < (n : Int) + 1 by omega); omega
    obtain ⟨s, es, rs⟩ := res1_ex zs.sum
    obtain ⟨a1, e1, ra⟩ := res1_ex (zs.take kk).sum
    obtain ⟨b1, e2, rb⟩ := res1_ex (zs.drop kk).sum
    have cl : ∀ W, Rd W W.heap.size A zs → Calls Try.prog 28 #[.slice A n cap] W fun e w' => e = .returned (.tuple #[.int .i64 s, .int .i64 es]) ∧ Below W.heap.size W w' :=
      fun W h => Sum_any A n cap zs s es W hn.out (by omega) fz.out h rs
    have ct : ∀ A2 cap2 W, Rd W W.heap.size A2 zs.reverse → Calls Try.prog 28 #[.slice A2 n cap2] W fun e w' => e = .returned (.tuple #[.int .i64 s, .int .i64 es]) ∧ Below W.heap.size W w' :=
      fun A2 cap2 W h => Sum_any A2 n cap2 zs.reverse s es W (by rw [List.length_reverse]; exact hn.out) (by omega) (fit_rev fz.out) h (by rw [sum_rev]; exact rs)
    have cd : ¬ d = -9223372036854775808 → ∀ A2 cap2 W, Rd W W.heap.size A2 (zs.reverse ++ [d, -d]) → Calls Try.prog 28 #[.slice A2 (n + 2) cap2] W fun e w' => e = .returned (.tuple #[.int .i64 s, .int .i64 es]) ∧ Below W.heap.size W w' :=
      fun hd A2 cap2 W h => Sum_any A2 (n + 2) cap2 (zs.reverse ++ [d, -d]) s es W (by rw [List.length_append, List.length_reverse, hn.out]; rfl) (by omega)
        (fun z hz => by
          rcases List.mem_append.1 hz with h | h
          · exact fit_rev fz.out z h
          · simp at h
            unfold Fit1 at fd ⊢
            omega) h (by rw [List.sum_append_int, sum_rev, show [d, -d].sum = 0 by simp; omega, Int.add_zero]; exact rs)
    have ca : ∀ W, Rd W W.heap.size A zs → Calls Try.prog 28 #[.slice A kk cap] W fun e w' => e = .returned (.tuple #[.int .i64 a1, .int .i64 e1]) ∧ Below W.heap.size W w' :=
      fun W h => Sum_any A kk cap (zs.take kk) a1 e1 W (by rw [List.length_take, hn.out]; omega) (by omega) (fun z hz => fz.out z (List.mem_of_mem_take hz)) (rd_take h) ra
    have cb : ∀ A2 c2 W, Rd W W.heap.size A2 (zs.drop kk) → Calls Try.prog 28 #[.slice A2 (n - kk) c2] W fun e w' => e = .returned (.tuple #[.int .i64 b1, .int .i64 e2]) ∧ Below W.heap.size W w' :=
      fun A2 c2 W h => Sum_any A2 (n - kk) c2 (zs.drop kk) b1 e2 W (by rw [List.length_drop, hn.out]) (by omega) (fun z hz => fz.out z (List.mem_of_mem_drop hz)) h rb
    have E : ((e1 = 2 ∧ (e2 = 0 ∨ e2 = 2)) ∨ (e1 = 0 ∧ e2 = 2)) ∨ (e1 = 0 ∧ e2 = 0 ∧ (∀ W, Calls Try.prog 31 #[.int .i64 a1, .int .i64 b1] W fun e w' => e = .returned (.tuple #[.int .i64 s, .int .i64 es]) ∧ W = w')) := by
      have sp : (zs.take kk).sum + (zs.drop kk).sum = zs.sum := by rw [← List.sum_append_int, List.take_append_drop]
      rcases ra with ⟨ha, ha1, ha2⟩ | ⟨ha, _⟩
      · rcases rb with ⟨hb, hb1, hb2⟩ | ⟨hb, _⟩
        · exact .inr ⟨ha, hb, fun W => wadd_to a1 b1 s es W (by rw [ha1]; exact ha2) (by rw [hb1]; exact hb2) (by rw [ha1, hb1, sp]; exact rs)⟩
        · exact .inl (.inr ⟨ha, hb⟩)
      · rcases rb with ⟨hb, _⟩ | ⟨hb, _⟩
        · exact .inl (.inl ⟨ha, .inl hb⟩)
        · exact .inl (.inl ⟨ha, .inr hb⟩)
    replace E := Lib.hid E
    clear rs
    replace hk7 := Lib.hid hk7
    go_enter Try.func10, Try.ntmps10
    go_wp2_with fail
    refine (live_ok _).mono ?_
    rintro e w1 ⟨rfl, hb1⟩
    go_wp2
    go_loopw [8, 37] (fun x8 x37 wr => ∃ k : Nat, k ≤ n ∧ x37 = .int .i64 k ∧ wr.ownsRow w.heap.size 2 1 x8 k ((zs.reverse.take k).map (Value.int .i64)) ∧ Below w.heap.size w wr) (fun _ x37 _ => n - (intOf x37).toNat)
    case atStart => exact ⟨0, Nat.zero_le _, rfl, World.ownsRow_nil _ _ _ _, hb1⟩
    case round =>
      obtain ⟨k, hk, rfl, hown, hb⟩ := hrel
      by_cases hlt : k < n
      · have ht : zs ≠ [] := by intro e; have := hn.out; rw [e] at this; simp at this; omega
        obtain ⟨b, off, rfl, hb0, hcell⟩ := R0.out.resolve_left ht
        have i1 : (0 : Int) ≤ (n : Int) - 1 - (k : Int) := by omega
        have i2 : (n : Int) - 1 - (k : Int) < (n : Int) := by omega
        obtain ⟨z, hz⟩ : ∃ s, zs.getD (n - 1 - k) 0 = s := ⟨_, rfl⟩
        have hcx : wr.cell? ⟨b, off + (n - 1 - k), none⟩ = some (.int .i64 z) := by
          rw [hb.cell (p := ⟨b, off + (n - 1 - k), none⟩) hb0, hcell _ (by rw [hn.out]; omega), hz]
        have tk := Lib.hid (rev_take zs n k z hn.out hlt hz)
        replace hz := Lib.hid hz
        clear hcell ht
        go_wp2_with ((at_builtin; (refine wpList_append_own _ rfl (.tmp 40) (.tmp 49) 41 rfl w.heap.size 2 i0 (.int .i64 0) 1 8 Try.underlying41 hi hz0 hz1 hz2 rfl (by decide) _ _ _ rfl (hown.alloc _) ⟨wr.heap.size, 0, none⟩ 1 1 [.int .i64 z] rfl rfl (one_new _ _ _) (by intro u hu; simp at hu; subst hu; rfl) (by unfold maxLen; omega) (by omega) (by have := hb.size; simp; omega) ?_); intro v' w2 hown' hgrow _))
        have B2 : Below w.heap.size w w2 := (hb.alloc hb.size _).grown hgrow (by simp; have := hb.size; omega) (own_base hown)
        go_wp2
        go_roundw
        case rel => exact ⟨k + 1, by omega, by go_num, by rw [tk.out]; simpa using hown', B2⟩
        case measure => simp [intOf]; omega
      · obtain rfl : k = n := by omega
        have erev : zs.reverse.take k = zs.reverse := List.take_of_length_le (by rw [List.length_reverse, hn.out]; omega)
        rw [erev] at hown
        obtain ⟨A2, cap2, rfl, hl2, R2⟩ := rd_of_own hown
        have Hl2 := Lib.hid hl2
        clear erev hl2 hk hlt
        replace hk7 := hk7.out
        have L0 := Lib.hid (rd_more (rd_kept R0.out hb) hb.size)
        go_wp2_with fail
        refine (cl _ L0.out).mono ?_
        rintro e w3 ⟨rfl, hb3⟩
        replace R2 := rd_more (rd_kept R2 hb3) hb3.size
        replace hown := own_kept hown hb3
        have B3 := bthen hb hb3
        clear hb hb3 L0
        go_wp2_with fail
        refine (ct _ _ _ R2).mono ?_
        rintro e w4 ⟨rfl, hb4⟩
        replace hown := own_kept hown hb4
        have B4 := bthen B3 hb4
        clear B3 hb4 R2
        by_cases dm : d = -9223372036854775808
        · subst dm
          go_wp2_with fail
          refine (Wc.neg_no _).mono ?_
          rintro e w' ⟨rfl, rfl⟩
          go_wp2_with fail
          have L0 := Lib.hid (rd_more (rd_kept R0.out B4) B4.size)
          refine (ca _ L0.out).mono ?_
          rintro e w5 ⟨rfl, hb5⟩
          have B5 := bthen B4 hb5
          clear B4 hb5 L0
          go_wp2_with fail
          all_goals
            have L0 := Lib.hid (rd_more (rd_kept R0.out B5) B5.size)
            have Hn := Lib.hid hn.out
            refine (cb _ _ _ ?_).mono ?_
            · first
                | exact rd_drop L0.out
                | exact .inl (List.drop_eq_nil_of_le (by rw [Hn.out]; omega))
            rintro e w6 ⟨rfl, hb6⟩
            have B6 := bthen B5 hb6
            clear hb6 L0 Hn
          all_goals
            rcases E.out with (⟨rfl, rfl | rfl⟩ | ⟨rfl, rfl⟩) | ⟨rfl, rfl, cw⟩
            · go_wp2
              go_ret
              exact ⟨rfl, B6⟩
            · go_wp2
              go_ret
              exact ⟨rfl, B6⟩
            · go_wp2
              go_ret
              exact ⟨rfl, B6⟩
            · go_wp2_with fail
              refine (cw _).mono ?_
              rintro e w' ⟨rfl, rfl⟩
              go_wp2
              go_ret
              exact ⟨by simp, B6⟩
        · have cdd := cd dm
          have cn := Wc.neg_yes d
          have f1 : Wm.Fit d := fd
          clear cd
          go_wp2_with fail
          refine (cn _ f1 dm).mono ?_
          rintro e w' ⟨rfl, rfl⟩
          go_wp2_with ((at_builtin; (refine wpList_append_own _ rfl (.tmp 78) (.tmp 81) 41 rfl w.heap.size 2 i0 (.int .i64 0) 1 8 Try.underlying41 hi hz0 hz1 hz2 rfl (by decide) _ _ _ rfl (hown.alloc _) ⟨w4.heap.size, 0, none⟩ 2 2 [.int .i64 d, .int .i64 (-d)] rfl rfl (two_new _ _ _ _) (by intro u hu; simp at hu; rcases hu with rfl | rfl <;> rfl) (by unfold maxLen; omega) (by omega) (by have := B4.size; simp; omega) ?_); intro v' w7 hown' hgrow _))
          have hmap : (zs.reverse.map (Value.int .i64)) ++ [Value.int .i64 d, Value.int .i64 (-d)] = (zs.reverse ++ [d, -d]).map (Value.int .i64) := by simp
          rw [hmap] at hown'
          obtain ⟨A3, cap3, rfl, _, R3⟩ := rd_of_own hown'
          have B7 : Below w.heap.size w w7 := (balloc B4 _).grown hgrow (by simp; have := B4.size; omega) (own_base hown)
          clear hown' hgrow hmap hown B4
          refine (cdd _ _ _ R3).mono ?_
          rintro e w8 ⟨rfl, hb8⟩
          have B4 := bthen B7 hb8
          clear B7 hb8 R3
          go_wp2_with fail
          have L0 := Lib.hid (rd_more (rd_kept R0.out B4) B4.size)
          refine (ca _ L0.out).mono ?_
          rintro e w5 ⟨rfl, hb5⟩
          have B5 := bthen B4 hb5
          clear B4 hb5 L0
          go_wp2_with fail
          all_goals
            have L0 := Lib.hid (rd_more (rd_kept R0.out B5) B5.size)
            have Hn := Lib.hid hn.out
            refine (cb _ _ _ ?_).mono ?_
            · first
                | exact rd_drop L0.out
                | exact .inl (List.drop_eq_nil_of_le (by rw [Hn.out]; omega))
            rintro e w6 ⟨rfl, hb6⟩
            have B6 := bthen B5 hb6
            clear hb6 L0 Hn
          all_goals
            rcases E.out with (⟨rfl, rfl | rfl⟩ | ⟨rfl, rfl⟩) | ⟨rfl, rfl, cw⟩
            · go_wp2
              go_ret
              exact ⟨rfl, B6⟩
            · go_wp2
              go_ret
              exact ⟨rfl, B6⟩
            · go_wp2
              go_ret
              exact ⟨rfl, B6⟩
            · go_wp2_with fail
              refine (cw _).mono ?_
              rintro e w' ⟨rfl, rfl⟩
              go_wp2
              go_ret
              exact ⟨by simp, B6⟩

end Go.Proofs.Ytbpnfkhoajlffaa.Vl
