/- What most, digits, sign, may, Number, Print and Level of the reference of layer 18 come to. -/
import Derived.Test.YtfjckgnclhpmcaaDoorNunit2
namespace Go.Proofs.YtfjckgnclhpmcaaDoor.Nr
set_option linter.unusedSimpArgs false
set_option linter.unusedVariables false
open Go.RowKit Go.Proofs.YtfjckgnclhpmcaaDoor.Pr Go.Proofs.YtfjckgnclhpmcaaDoor.Nm Go.Proofs.YtfjckgnclhpmcaaDoor.Wm Go.Proofs.YtfjckgnclhpmcaaDoor.Wc Go.Proofs.YtfjckgnclhpmcaaDoor.Bx Go.Proofs.YtfjckgnclhpmcaaDoor.Fs Go.Proofs.YtfjckgnclhpmcaaDoor.Bn Go.Proofs.YtfjckgnclhpmcaaDoor.Np
open Go.Proofs.YtfjckgnclhpmcaaDoor.Tm (s4 s2 s1 s4_size dg dg_val)

set_option maxHeartbeats 1000000

set_option maxRecDepth 100000 in
theorem rmost_any (L v : Int) (w : World) (l : 1 ≤ L ∧ L ≤ 5) (hv : v = most L) :
    Calls Tryd.prog 36 #[.int .i64 L] w fun e w' => e = .returned (.int .i64 v) ∧ Below w.heap.size w w' := by
  have O : L = 1 ∨ L = 2 ∨ L = 3 ∨ L = 4 ∨ L = 5 := by omega
  subst hv
  rcases O with rfl | rfl | rfl | rfl | rfl
  all_goals
    go_enter Tryd.func36, Tryd.ntmps36
    go_wp2
    go_ret
    exact ⟨rfl, balloc (Below.refl _ _) _⟩
set_option maxRecDepth 100000 in
theorem rdgc_any (L v : Int) (w : World) (l : 1 ≤ L ∧ L ≤ 5) (hv : v = (dgc L : Nat)) :
    Calls Tryd.prog 25 #[.int .i64 L] w fun e w' => e = .returned (.int .i64 v) ∧ Below w.heap.size w w' := by
  have O : L = 1 ∨ L = 2 ∨ L = 3 ∨ L = 4 ∨ L = 5 := by omega
  subst hv
  rcases O with rfl | rfl | rfl | rfl | rfl
  all_goals
    go_enter Tryd.func25, Tryd.ntmps25
    go_wp2
    go_ret
    exact ⟨rfl, balloc (Below.refl _ _) _⟩
set_option maxRecDepth 100000 in
theorem rsgn_any (L : Int) (v : ByteArray) (w : World) (l : 1 ≤ L ∧ L ≤ 5) (hv : v = sgn L) :
    Calls Tryd.prog 24 #[.int .i64 L] w fun e w' => e = .returned (.string v) ∧ Below w.heap.size w w' := by
  have O : L = 1 ∨ L = 2 ∨ L = 3 ∨ L = 4 ∨ L = 5 := by omega
  subst hv
  rcases O with rfl | rfl | rfl | rfl | rfl
  all_goals
    go_enter Tryd.func24, Tryd.ntmps24
    go_wp2
    go_ret
    exact ⟨rfl, balloc (Below.refl _ _) _⟩

set_option maxRecDepth 100000 in
theorem rmay_any (L y i : Int) (b : Bool) (w : World) (hb : b = decide (WrOk L y i)) :
    Calls Tryd.prog 22 #[.agg #[.int .i64 L, .int .i64 y, .int .i64 i]] w fun e w' => e = .returned (.bool b) ∧ Below w.heap.size w w' := by
  have U := Tri.new w (.int .i64 L) (.int .i64 y) (.int .i64 i) 23
  have B := balloc (Below.refl _ w) (.cells #[.int .i64 L, .int .i64 y, .int .i64 i] 23)
  have O : ((decide (1 ≤ L) = false ∧ b = false) ∨ (decide (1 ≤ L) = true ∧ decide (L ≤ 5) = false ∧ b = false) ∨ (decide (1 ≤ L) = true ∧ decide (L ≤ 5) = true ∧ decide (1601 ≤ y) = false ∧ b = false) ∨ (decide (1 ≤ L) = true ∧ decide (L ≤ 5) = true ∧ decide (1601 ≤ y) = true ∧ decide (y ≤ 9997) = false ∧ b = false) ∨
      (decide (1 ≤ L) = true ∧ decide (L ≤ 5) = true ∧ decide (1601 ≤ y) = true ∧ decide (y ≤ 9997) = true ∧ decide (1 ≤ i) = false ∧ b = false)) ∨
      (decide (1 ≤ L) = true ∧ decide (L ≤ 5) = true ∧ decide (1601 ≤ y) = true ∧ decide (y ≤ 9997) = true ∧ decide (1 ≤ i) = true ∧ decide (i ≤ most L) = b ∧ 1 ≤ L ∧ L ≤ 5) := by
    subst hb
    unfold WrOk
    by_cases h3 : 1 ≤ L
    · by_cases h4 : L ≤ 5
      · by_cases h1 : 1601 ≤ y
        · by_cases h2 : y ≤ 9997
          · by_cases h5 : 1 ≤ i
            · exact .inr ⟨by simp [h3], by simp [h4], by simp [h1], by simp [h2], by simp [h5], by simp [h1, h2, h3, h4, h5], h3, h4⟩
            · exact .inl (.inr (.inr (.inr (.inr ⟨by simp [h3], by simp [h4], by simp [h1], by simp [h2], by simp [h5], by simp [h5]⟩))))
          · exact .inl (.inr (.inr (.inr (.inl ⟨by simp [h3], by simp [h4], by simp [h1], by simp [h2], by simp [h2]⟩))))
        · exact .inl (.inr (.inr (.inl ⟨by simp [h3], by simp [h4], by simp [h1], by simp [h1]⟩)))
      · exact .inl (.inr (.inl ⟨by simp [h3], by simp [h4], by simp [h4]⟩))
    · exact .inl (.inl ⟨by simp [h3], by simp [h3]⟩)
  clear hb
  rcases O with O | ⟨h1, h2, h3, h4, h5, e, l0, l1⟩
  · rcases O with ⟨h1, rfl⟩ | ⟨h1, h2, rfl⟩ | ⟨h1, h2, h3, rfl⟩ | ⟨h1, h2, h3, h4, rfl⟩ | ⟨h1, h2, h3, h4, h5, rfl⟩
    all_goals
      go_enter Tryd.func22, Tryd.ntmps22
      go_upto_region 1 with fail
      generalize w.alloc (.cells #[.int .i64 L, .int .i64 y, .int .i64 i] 23) = W0 at *
      obtain ⟨_, u0, u1, u2, _, _, _⟩ := id U
      have k0 := cell_regrown u0
      have k1 := cell_regrown u1
      have k2 := cell_regrown u2
      refine wp_region_quiet_below (by kernel_rfl) (by kernel_rfl) ?_
      repeat (quiet_step (fail))
      refine wpQuiet_nil ?_
      intro _ hw'
      obtain ⟨⟨dq, osq⟩, hw''⟩ := hw'
      subst hw''
      have hb := below_regrown W0 dq osq
      generalize Go.Sort.grow (redrawn W0 dq) osq = w9 at hb ⊢
      go_wp2
      go_ret
      exact ⟨rfl, bthen B hb⟩
  · obtain ⟨m, hm⟩ : ∃ m, m = most L := ⟨_, rfl⟩
    have cm := fun w => rmost_any L m w ⟨l0, l1⟩ hm
    rw [← hm] at e
    clear hm l0 l1
    go_enter Tryd.func22, Tryd.ntmps22
    go_upto_region 1 with fail
    generalize w.alloc (.cells #[.int .i64 L, .int .i64 y, .int .i64 i] 23) = W0 at *
    obtain ⟨_, u0, u1, u2, _, _, _⟩ := id U
    have k0 := cell_regrown u0
    have k1 := cell_regrown u1
    have k2 := cell_regrown u2
    have qM := fun d os => Calls.regrown_of (cm (Go.Sort.grow (redrawn W0 d) os))
    refine wp_region_quiet_below (by kernel_rfl) (by kernel_rfl) ?_
    repeat (quiet_step (exact qM _ _))
    refine wpQuiet_nil ?_
    intro _ hw'
    obtain ⟨⟨dq, osq⟩, hw''⟩ := hw'
    subst hw''
    have hb := below_regrown W0 dq osq
    generalize Go.Sort.grow (redrawn W0 dq) osq = w9 at hb ⊢
    go_wp2
    go_ret
    exact ⟨by simp [e], bthen B hb⟩

set_option maxRecDepth 100000 in
theorem rDigits_any (n : Int) (m : Nat) (w : World) (n0 : 0 ≤ n) (n1 : n ≤ 9999) (hm : m ≤ 4) :
    Calls Tryd.prog 23 #[.int .i64 n, .int .i64 m] w fun e w' => e = .returned (.string ⟨(rdig n m).toArray⟩) ∧ Below w.heap.size w w' := by
  go_enter Tryd.func23, Tryd.ntmps23
  go_wp2
  go_loopw [0, 5, 7] (fun N S J wr => ∃ (j : Nat) (q : Int), j ≤ m ∧ J = .int .i64 j ∧ N = .int .i64 q ∧ 0 ≤ q ∧ q ≤ 9999 ∧ Hid (q = n / 10 ^ j) ∧ (∃ x : ByteArray, S = .string x ∧ Hid (x = ⟨(rdig n j).toArray⟩)) ∧ Below w.heap.size w wr) (fun _ _ J _ => m - (intOf J).toNat)
  case atStart => exact ⟨0, n, by omega, rfl, rfl, n0, n1, Lib.hid (by simp), ⟨_, rfl, Lib.hid rfl⟩, Below.refl _ _⟩
  case round =>
    obtain ⟨j, q, j0, rfl, rfl, q0, q1, hq, ⟨x, rfl, hx⟩, hb⟩ := hrel
    by_cases hlt : j < m
    · obtain ⟨r, hr⟩ : ∃ r, q % 10 = r := ⟨_, rfl⟩
      have r0 : 0 ≤ r := by omega
      have r1 : r ≤ 9 := by omega
      have sz : x.size = j := by rw [hx.out]; show (rdig n j).toArray.size = j; simp [rdig_len]
      have hconv : (convert 37 9 (.slice (some ⟨wr.heap.size, 0, none⟩) 1 1)).run Tryd.prog (wr.alloc (.cells #[.int .u8 (48 + r)] 5)) = .ok (.string ⟨#[dg r]⟩) (wr.alloc (.cells #[.int .u8 (48 + r)] 5)) :=
        run_convert_bytes_back (P := Tryd.prog) (wr.alloc (.cells #[.int .u8 (48 + r)] 5)) 37 9 5 ⟨wr.heap.size, 0, none⟩ 1 [dg r] Tryd.underlying37 Tryd.underlying5 Tryd.underlying9 (fun j hj => by
          obtain rfl : j = 0 := by simpa using hj
          simp [go_sem, dg_val r0 r1])
      have e : Hid ((⟨#[dg r]⟩ : ByteArray) ++ x = ⟨(rdig n (j + 1)).toArray⟩) := Lib.hid (by
        rw [hx.out, ByteArray.mk_append_mk [dg r] (rdig n j)]
        show _ = (⟨(dg (n / 10 ^ j % 10) :: rdig n j).toArray⟩ : ByteArray)
        rw [← hq.out, hr]; rfl)
      go_wp2
      go_roundw
      case rel => exact ⟨j + 1, q / 10, by omega, by go_num, rfl, by omega, by omega, Lib.hid (rdig_next hq.out), ⟨_, rfl, e⟩, balloc hb _⟩
      case measure => simp [intOf]; omega
    · obtain rfl : j = m := by omega
      go_wp2
      go_ret
      exact ⟨congrArg (fun x => Ending.returned (.string x)) hx.out, hb⟩

theorem rdig4 (n : Int) (w : World) (h0 : 0 ≤ n) (h1 : n ≤ 9999) : Calls Tryd.prog 23 #[.int .i64 n, .int .i64 4] w fun e w' => e = .returned (.string (s4 n)) ∧ Below w.heap.size w w' := by
  rw [← rdig_4 h0 h1]; exact rDigits_any n 4 w h0 h1 (by omega)
theorem rdig2 (n : Int) (w : World) (h0 : 0 ≤ n) (h1 : n ≤ 99) : Calls Tryd.prog 23 #[.int .i64 n, .int .i64 2] w fun e w' => e = .returned (.string (s2 n)) ∧ Below w.heap.size w w' := by
  rw [← rdig_2 h0 h1]; exact rDigits_any n 2 w h0 (by omega) (by omega)
theorem rdig1 (n : Int) (w : World) (h0 : 0 ≤ n) (h1 : n ≤ 9) : Calls Tryd.prog 23 #[.int .i64 n, .int .i64 1] w fun e w' => e = .returned (.string (s1 n)) ∧ Below w.heap.size w w' := by
  rw [← rdig_1 h0 h1]; exact rDigits_any n 1 w h0 (by omega) (by omega)

theorem rdigL (L i : Int) (w : World) (h : NumOk L i) : Calls Tryd.prog 23 #[.int .i64 i, .int .i64 (dgc L : Nat)] w fun e w' => e = .returned (.string (sd L i)) ∧ Below w.heap.size w w' := by
  rcases h with ⟨rfl, rfl⟩ | ⟨O, z, t⟩ | ⟨O, z, t⟩
  · exact rDigits_any 1 0 w (by omega) (by omega) (by omega)
  · rcases O with rfl | rfl
    · exact rdig1 i w z t
    · exact rdig1 i w z t
  · rcases O with rfl | rfl
    · exact rdig2 i w z t
    · exact rdig2 i w z t

set_option maxRecDepth 100000 in
theorem rPrint_any (L y i : Int) (s : ByteArray) (er : Int) (w : World) (R : PrintA L y i s er) :
    Calls Tryd.prog 11 #[.agg #[.int .i64 L, .int .i64 y, .int .i64 i]] w fun e w' => e = .returned (.tuple #[.string s, .int .i64 er]) ∧ Below w.heap.size w w' := by
  have U := Tri.new w (.int .i64 L) (.int .i64 y) (.int .i64 i) 23
  have B := balloc (Below.refl _ w) (.cells #[.int .i64 L, .int .i64 y, .int .i64 i] 23)
  rcases R with ⟨wo, hs, rfl⟩ | ⟨no, rfl, rfl⟩
  · have cc := fun w => rmay_any L y i true w (decide_eq_true wo).symm
    have ll : 1 ≤ L ∧ L ≤ 5 := ⟨wo.2.2.1, wo.2.2.2.1⟩
    have cA := fun w => rdig4 y w (by have := wo.1; omega) (by have := wo.2.1; omega)
    have cB := fun w => rdigL L i w (form_of wo).2.2.1
    have cS := fun w => rsgn_any L (sgn L) w ll rfl
    have cD := fun w => rdgc_any L (dgc L : Nat) w ll rfl
    have z1 := s4_size y
    have z2 := sgn_bd ll
    have z3 := sd_size L i
    have z4 := dgc_bd L
    have E1 : s4 y ++ sgn L ++ sd L i = s := hs.symm
    clear wo hs ll
    generalize sgn L = sg at *
    generalize dgc L = dd at *
    generalize s4 y = a at *
    generalize sd L i = d at *
    obtain ⟨t, ht⟩ : ∃ t, t = a ++ sg := ⟨_, rfl⟩
    rw [← ht] at E1
    have zt : t.size = a.size + sg.size := by rw [ht, ByteArray.size_append]
    have a1 : ∀ w, (Op.stringOp .add a sg).run Tryd.prog w = .ok (.string t) w := fun w => by rw [ht]; exact run_string_add_sum w _ _ (by omega)
    have a2 : ∀ w, (Op.stringOp .add t d).run Tryd.prog w = .ok (.string s) w := fun w => by rw [← E1]; exact run_string_add_sum w _ _ (by omega)
    clear ht E1 zt
    go_enter Tryd.func11, Tryd.ntmps11
    go_upto_region 1 with fail
    generalize w.alloc (.cells #[.int .i64 L, .int .i64 y, .int .i64 i] 23) = W0 at *
    obtain ⟨_, u0, u1, u2, _, _, _⟩ := id U
    go_wp2_with fail
    refine (cc _).mono ?_
    rintro e w1 ⟨rfl, hb⟩
    replace U := U.kept hb
    replace B := bthen B hb
    clear hb cc u0 u1 u2
    obtain ⟨_, u0, u1, u2, _, _, _⟩ := id U
    go_wp2
    have qA := fun d os => Calls.regrown_of (cA (Go.Sort.grow (redrawn w1 d) os))
    have qB := fun d os => Calls.regrown_of (cB (Go.Sort.grow (redrawn w1 d) os))
    have qS := fun d os => Calls.regrown_of (cS (Go.Sort.grow (redrawn w1 d) os))
    have qD := fun d os => Calls.regrown_of (cD (Go.Sort.grow (redrawn w1 d) os))
    have k0 := cell_regrown u0
    have k1 := cell_regrown u1
    have k2 := cell_regrown u2
    refine wp_region_quiet_below (by kernel_rfl) (by kernel_rfl) ?_
    repeat (quiet_step (first | (with_reducible exact qA _ _) | (with_reducible exact qB _ _) | (with_reducible exact qS _ _) | (with_reducible exact qD _ _)))
    refine wpQuiet_nil ?_
    intro _ hw'
    obtain ⟨⟨dq, osq⟩, hw''⟩ := hw'
    subst hw''
    have hb := below_regrown w1 dq osq
    generalize Go.Sort.grow (redrawn w1 dq) osq = w9 at hb ⊢
    go_wp2
    go_ret2
    exact ⟨rfl, bthen B hb⟩
  · have cc := fun w => rmay_any L y i false w (decide_eq_false no).symm
    clear no
    go_enter Tryd.func11, Tryd.ntmps11
    go_upto_region 1 with fail
    generalize w.alloc (.cells #[.int .i64 L, .int .i64 y, .int .i64 i] 23) = W0 at *
    obtain ⟨_, u0, u1, u2, _, _, _⟩ := id U
    go_wp2_with fail
    refine (cc _).mono ?_
    rintro e w1 ⟨rfl, hb⟩
    go_wp2
    go_ret2
    exact ⟨rfl, bthen B hb⟩

end Go.Proofs.YtfjckgnclhpmcaaDoor.Nr
