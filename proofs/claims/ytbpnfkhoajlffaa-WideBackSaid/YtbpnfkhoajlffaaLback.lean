/- WideBack's walk. -/
import Derived.Test.YtbpnfkhoajlffaaLlive
import Derived.Test.YtbpnfkhoajlffaaVmath6
import Derived.Deep.RegionHeld3
namespace Go.Proofs.Ytbpnfkhoajlffaa.Vl
open Go.RowKit Go.Proofs.Ytbpnfkhoajlffaa.Vm Go.Proofs.Ytbpnfkhoajlffaa.Vc
attribute [local go_sem ↓] Go.wp_at_zero Go.wp_at_succ

set_option maxHeartbeats 400000

/-- the sum of a sum and the opposite -/
theorem back_res {x y s m h l er : Int} (es : s = x + y) (em : m = -y) (r : Res (s + m) h l er) {hx lx : Int} (nx : num hx lx = x) (bx : Bd hx lx) : hx = h ∧ lx = l ∧ 0 = er :=
  res_unique (Or.inl ⟨rfl, by rw [nx]; omega, bx⟩) r

set_option maxHeartbeats 4000000 in
theorem back_walk (h1 l1 h2 l2 n : Int) (w : World) (w1 : (Lit.int .i64 h1).wf = true) (w2 : (Lit.int .u64 l1).wf = true) (w3 : (Lit.int .i64 h2).wf = true) (w4 : (Lit.int .u64 l2).wf = true) (w5 : (Lit.int .i64 n).wf = true) :
    Calls Try.prog 6 #[.agg #[.int .i64 h1, .int .u64 l1], .agg #[.int .i64 h2, .int .u64 l2], .int .i64 n] w fun e w' => e = .returned (.bool true) ∧ Below w.heap.size w w' := by
  have b1 : Bd h1 l1 := ⟨(bounds_i64 w1).1, (bounds_i64 w1).2, (bounds_u64 w2).1, (bounds_u64 w2).2⟩
  have b2 : Bd h2 l2 := ⟨(bounds_i64 w3).1, (bounds_i64 w3).2, (bounds_u64 w4).1, (bounds_u64 w4).2⟩
  have fn : Fit1 n := bounds_i64 w5
  clear w1 w2 w3 w4 w5
  -- Fit of Of of n
  obtain ⟨hy, hhy⟩ : ∃ s, n / 9223372036854775808 = s := ⟨_, rfl⟩
  obtain ⟨ly, hly⟩ : ∃ s, n % 18446744073709551616 = s := ⟨_, rfl⟩
  have od := of_num fn.1 fn.2
  rw [hhy, hly] at od
  have co := fun w => Of_to n hy ly w (Lib.hid hhy) (Lib.hid hly)
  have cf := fun w => Fit_any hy ly n 0 w od.2 (Or.inl ⟨rfl, od.1.symm, by rw [od.1]; exact fn⟩)
  clear hhy hly od fn
  -- the sum, and the opposite of b
  obtain ⟨hs, ls, es, rs⟩ := res_ex (num h1 l1 + num h2 l2)
  have bs := res_bd rs
  obtain ⟨hm, lm, em, rm⟩ := res_ex (-num h2 l2)
  have bm := res_bd rm
  obtain ⟨hu, lu, eu, ru⟩ := res_ex (num hs ls + num hm lm)
  have cs := fun w => Add_any h1 l1 h2 l2 hs ls es w b1 b2 rs
  have ct := fun w => Add_any h2 l2 h1 l1 hs ls es w b2 b1 (by rw [Int.add_comm]; exact rs)
  have cm := fun w => Neg_any h2 l2 hm lm em w b2 rm
  have cu := fun w => Add_any hs ls hm lm hu lu eu w bs bm ru
  have ces : es = 2 ∨ (es = 0 ∧ num hs ls = num h1 l1 + num h2 l2) := by rcases rs with ⟨h, h', _⟩ | ⟨h, _⟩; exact .inr ⟨h, h'⟩; exact .inl h
  have cem : (em = 2 ∧ h2 = -9223372036854775808 ∧ l2 = 0) ∨ (em = 0 ∧ num hm lm = -num h2 l2) := by
    rcases rm with ⟨h, h', _⟩ | ⟨h, _, _, h'⟩
    · exact .inr ⟨h, h'⟩
    · refine .inl ⟨h, ?_⟩
      unfold Fits num at h'; unfold Bd at b2; omega
  -- what a comes to, fitted
  obtain ⟨v, ev, rv⟩ := res1_ex (num h1 l1)
  have cv' := fun w => Fit_any h1 l1 v ev w b1 rv
  rcases rv with ⟨rfl, hv, fv⟩ | ⟨rfl, rfl, _⟩
  · have cov : ∀ w, Calls Try.prog 26 #[.int .i64 v] w fun e w' => e = .returned (.agg #[.int .i64 h1, .int .u64 l1]) ∧ Below w.heap.size w w' := fun w => by
      have o := of_num (a := v) (by rw [hv]; exact fv.1) (by rw [hv]; exact fv.2)
      have e := num_inj o.2 b1 (by rw [o.1, hv])
      exact Of_to v h1 l1 w (Lib.hid e.1) (Lib.hid e.2)
    clear hv fv
    rcases cem with ⟨rfl, rfl, rfl⟩ | ⟨rfl, em'⟩
    · have ces' : es = 2 ∨ es = 0 := by rcases ces with h | ⟨h, _⟩; exact .inl h; exact .inr h
      clear ces cu ru rm
      rcases ces' with rfl | rfl
      all_goals
        go_enter Try.func6, Try.ntmps6
        go_wp2_with fail
        refine (live_ok _).mono ?_
        rintro e w1 ⟨rfl, hb1⟩
        have P1 := ((Pair.new w (.int .i64 _) (.int .u64 _) 24).alloc _).kept hb1
        have P2 := (Pair.new _ (.int .i64 _) (.int .u64 _) 24).kept hb1
        have B1 := bthen (balloc (balloc (Below.refl _ w) _) _) hb1
        simp only [World.size_alloc] at P2
        clear hb1
        go_wp2_with fail
        refine (co _).mono ?_
        rintro e w2 ⟨rfl, hb2⟩
        replace P1 := P1.kept hb2
        replace P2 := P2.kept hb2
        replace B1 := bthen B1 hb2
        clear hb2
        go_wp2_with fail
        refine (cf _).mono ?_
        rintro e w3 ⟨rfl, hb3⟩
        replace P1 := P1.kept hb3
        replace P2 := P2.kept hb3
        replace B1 := bthen B1 hb3
        clear hb3
        obtain ⟨z1, c10, c11⟩ := id P1
        go_wp2_with fail
        refine (cv' _).mono ?_
        rintro e w4 ⟨rfl, hb4⟩
        replace P1 := P1.kept hb4
        replace P2 := P2.kept hb4
        replace B1 := bthen B1 hb4
        clear hb4 z1 c10 c11
        obtain ⟨z1, c10, c11⟩ := id P1
        go_wp2
        have Q1 := P1.drew
        have B2 : Below w.heap.size w w4.drew := B1.drew
        go_region_held3 (fun w' => w'.cell? ⟨w.heap.size, 0, none⟩ = some (.int .i64 h1) ∧ w'.cell? ⟨w.heap.size, 1, none⟩ = some (.int .u64 l1))
          (first | exact ⟨Q1.c0, Q1.c1⟩ | exact ⟨Q2.c0, Q2.c1⟩)
          (first | (go_at_call 26; refine (cov _).mono ?_; rintro e w5 ⟨rfl, hb5⟩; have Q2 := Q1.kept hb5; have B5 := bthen B2 hb5; have Q3 := P2.drew.kept hb5))
        clear P1 P2 B1 z1 c10 c11 Q1 B2 hb5
        obtain ⟨z1, c10, c11⟩ := id Q2
        obtain ⟨z2, c20, c21⟩ := id Q3
        go_wp2_with fail
        refine (cs _).mono ?_
        rintro e w6 ⟨rfl, hb6⟩
        replace Q2 := Q2.kept hb6
        replace Q3 := Q3.kept hb6
        replace B5 := bthen B5 hb6
        clear hb6 z1 c10 c11 z2 c20 c21
        obtain ⟨z1, c10, c11⟩ := id Q2
        obtain ⟨z2, c20, c21⟩ := id Q3
        go_wp2_with fail
        refine (ct _).mono ?_
        rintro e w7 ⟨rfl, hb7⟩
        replace Q2 := (Q2.alloc _).kept hb7
        replace Q3 := (Q3.alloc _).kept hb7
        have S1 := (Pair.new _ (.int .i64 _) (.int .u64 _) 24).kept hb7
        replace B5 := bthen (balloc B5 _) hb7
        clear hb7 z1 c10 c11 z2 c20 c21
        obtain ⟨z1, c10, c11⟩ := id Q2
        obtain ⟨z2, c20, c21⟩ := id Q3
        go_wp2_with fail
        refine (cm _).mono ?_
        rintro e w8 ⟨rfl, hb8⟩
        replace Q2 := (Q2.alloc _).kept hb8
        replace Q3 := (Q3.alloc _).kept hb8
        replace S1 := (S1.alloc _).kept hb8
        have S2 := (Pair.new _ (.int .i64 _) (.int .u64 _) 24).kept hb8
        replace B5 := bthen (balloc B5 _) hb8
        clear hb8 z1 c10 c11 z2 c20 c21
        obtain ⟨z1, c10, c11⟩ := id Q2
        obtain ⟨z2, c20, c21⟩ := id Q3
        obtain ⟨z3, c30, c31⟩ := id S1
        obtain ⟨z4, c40, c41⟩ := id S2
        go_wp2
        go_ret
        exact ⟨by simp, balloc B5 _⟩
    · rcases ces with rfl | ⟨rfl, es'⟩
      · clear cu ru rm em' bs bm
        go_enter Try.func6, Try.ntmps6
        go_wp2_with fail
        refine (live_ok _).mono ?_
        rintro e w1 ⟨rfl, hb1⟩
        have P1 := ((Pair.new w (.int .i64 _) (.int .u64 _) 24).alloc _).kept hb1
        have P2 := (Pair.new _ (.int .i64 _) (.int .u64 _) 24).kept hb1
        have B1 := bthen (balloc (balloc (Below.refl _ w) _) _) hb1
        simp only [World.size_alloc] at P2
        clear hb1
        go_wp2_with fail
        refine (co _).mono ?_
        rintro e w2 ⟨rfl, hb2⟩
        replace P1 := P1.kept hb2
        replace P2 := P2.kept hb2
        replace B1 := bthen B1 hb2
        clear hb2
        go_wp2_with fail
        refine (cf _).mono ?_
        rintro e w3 ⟨rfl, hb3⟩
        replace P1 := P1.kept hb3
        replace P2 := P2.kept hb3
        replace B1 := bthen B1 hb3
        clear hb3
        obtain ⟨z1, c10, c11⟩ := id P1
        go_wp2_with fail
        refine (cv' _).mono ?_
        rintro e w4 ⟨rfl, hb4⟩
        replace P1 := P1.kept hb4
        replace P2 := P2.kept hb4
        replace B1 := bthen B1 hb4
        clear hb4 z1 c10 c11
        obtain ⟨z1, c10, c11⟩ := id P1
        go_wp2
        have Q1 := P1.drew
        have B2 : Below w.heap.size w w4.drew := B1.drew
        go_region_held3 (fun w' => w'.cell? ⟨w.heap.size, 0, none⟩ = some (.int .i64 h1) ∧ w'.cell? ⟨w.heap.size, 1, none⟩ = some (.int .u64 l1))
          (first | exact ⟨Q1.c0, Q1.c1⟩ | exact ⟨Q2.c0, Q2.c1⟩)
          (first | (go_at_call 26; refine (cov _).mono ?_; rintro e w5 ⟨rfl, hb5⟩; have Q2 := Q1.kept hb5; have B5 := bthen B2 hb5; have Q3 := P2.drew.kept hb5))
        clear P1 P2 B1 z1 c10 c11 Q1 B2 hb5
        obtain ⟨z1, c10, c11⟩ := id Q2
        obtain ⟨z2, c20, c21⟩ := id Q3
        go_wp2_with fail
        refine (cs _).mono ?_
        rintro e w6 ⟨rfl, hb6⟩
        replace Q2 := Q2.kept hb6
        replace Q3 := Q3.kept hb6
        replace B5 := bthen B5 hb6
        clear hb6 z1 c10 c11 z2 c20 c21
        obtain ⟨z1, c10, c11⟩ := id Q2
        obtain ⟨z2, c20, c21⟩ := id Q3
        go_wp2_with fail
        refine (ct _).mono ?_
        rintro e w7 ⟨rfl, hb7⟩
        replace Q2 := (Q2.alloc _).kept hb7
        replace Q3 := (Q3.alloc _).kept hb7
        have S1 := (Pair.new _ (.int .i64 _) (.int .u64 _) 24).kept hb7
        replace B5 := bthen (balloc B5 _) hb7
        clear hb7 z1 c10 c11 z2 c20 c21
        obtain ⟨z1, c10, c11⟩ := id Q2
        obtain ⟨z2, c20, c21⟩ := id Q3
        go_wp2_with fail
        refine (cm _).mono ?_
        rintro e w8 ⟨rfl, hb8⟩
        replace Q2 := (Q2.alloc _).kept hb8
        replace Q3 := (Q3.alloc _).kept hb8
        replace S1 := (S1.alloc _).kept hb8
        have S2 := (Pair.new _ (.int .i64 _) (.int .u64 _) 24).kept hb8
        replace B5 := bthen (balloc B5 _) hb8
        clear hb8 z1 c10 c11 z2 c20 c21
        obtain ⟨z1, c10, c11⟩ := id Q2
        obtain ⟨z2, c20, c21⟩ := id Q3
        obtain ⟨z3, c30, c31⟩ := id S1
        obtain ⟨z4, c40, c41⟩ := id S2
        go_wp2
        go_ret
        exact ⟨by simp, balloc B5 _⟩
      · obtain ⟨rfl, rfl, rfl⟩ := back_res es' em' ru rfl b1
        clear ru rm em' es' bs bm
        go_enter Try.func6, Try.ntmps6
        go_wp2_with fail
        refine (live_ok _).mono ?_
        rintro e w1 ⟨rfl, hb1⟩
        have P1 := ((Pair.new w (.int .i64 _) (.int .u64 _) 24).alloc _).kept hb1
        have P2 := (Pair.new _ (.int .i64 _) (.int .u64 _) 24).kept hb1
        have B1 := bthen (balloc (balloc (Below.refl _ w) _) _) hb1
        simp only [World.size_alloc] at P2
        clear hb1
        go_wp2_with fail
        refine (co _).mono ?_
        rintro e w2 ⟨rfl, hb2⟩
        replace P1 := P1.kept hb2
        replace P2 := P2.kept hb2
        replace B1 := bthen B1 hb2
        clear hb2
        go_wp2_with fail
        refine (cf _).mono ?_
        rintro e w3 ⟨rfl, hb3⟩
        replace P1 := P1.kept hb3
        replace P2 := P2.kept hb3
        replace B1 := bthen B1 hb3
        clear hb3
        obtain ⟨z1, c10, c11⟩ := id P1
        go_wp2_with fail
        refine (cv' _).mono ?_
        rintro e w4 ⟨rfl, hb4⟩
        replace P1 := P1.kept hb4
        replace P2 := P2.kept hb4
        replace B1 := bthen B1 hb4
        clear hb4 z1 c10 c11
        obtain ⟨z1, c10, c11⟩ := id P1
        go_wp2
        have Q1 := P1.drew
        have B2 : Below w.heap.size w w4.drew := B1.drew
        go_region_held3 (fun w' => w'.cell? ⟨w.heap.size, 0, none⟩ = some (.int .i64 h1) ∧ w'.cell? ⟨w.heap.size, 1, none⟩ = some (.int .u64 l1))
          (first | exact ⟨Q1.c0, Q1.c1⟩ | exact ⟨Q2.c0, Q2.c1⟩)
          (first | (go_at_call 26; refine (cov _).mono ?_; rintro e w5 ⟨rfl, hb5⟩; have Q2 := Q1.kept hb5; have B5 := bthen B2 hb5; have Q3 := P2.drew.kept hb5))
        clear P1 P2 B1 z1 c10 c11 Q1 B2 hb5
        obtain ⟨z1, c10, c11⟩ := id Q2
        obtain ⟨z2, c20, c21⟩ := id Q3
        go_wp2_with fail
        refine (cs _).mono ?_
        rintro e w6 ⟨rfl, hb6⟩
        replace Q2 := Q2.kept hb6
        replace Q3 := Q3.kept hb6
        replace B5 := bthen B5 hb6
        clear hb6 z1 c10 c11 z2 c20 c21
        obtain ⟨z1, c10, c11⟩ := id Q2
        obtain ⟨z2, c20, c21⟩ := id Q3
        go_wp2_with fail
        refine (ct _).mono ?_
        rintro e w7 ⟨rfl, hb7⟩
        replace Q2 := (Q2.alloc _).kept hb7
        replace Q3 := (Q3.alloc _).kept hb7
        have S1 := (Pair.new _ (.int .i64 _) (.int .u64 _) 24).kept hb7
        replace B5 := bthen (balloc B5 _) hb7
        clear hb7 z1 c10 c11 z2 c20 c21
        obtain ⟨z1, c10, c11⟩ := id Q2
        obtain ⟨z2, c20, c21⟩ := id Q3
        go_wp2_with fail
        refine (cm _).mono ?_
        rintro e w8 ⟨rfl, hb8⟩
        replace Q2 := (Q2.alloc _).kept hb8
        replace Q3 := (Q3.alloc _).kept hb8
        replace S1 := (S1.alloc _).kept hb8
        have S2 := (Pair.new _ (.int .i64 _) (.int .u64 _) 24).kept hb8
        replace B5 := bthen (balloc B5 _) hb8
        clear hb8 z1 c10 c11 z2 c20 c21
        obtain ⟨z1, c10, c11⟩ := id Q2
        obtain ⟨z2, c20, c21⟩ := id Q3
        obtain ⟨z3, c30, c31⟩ := id S1
        obtain ⟨z4, c40, c41⟩ := id S2
        go_wp2_with fail
        refine (cu _).mono ?_
        rintro e w9 ⟨rfl, hb9⟩
        replace Q2 := (Q2.alloc _).kept hb9
        replace B5 := bthen (balloc B5 _) hb9
        clear hb9 z1 c10 c11 z2 c20 c21 z3 c30 c31 z4 c40 c41 S1 S2 Q3
        obtain ⟨z1, c10, c11⟩ := id Q2
        go_wp2
        go_ret
        exact ⟨by simp, balloc B5 _⟩
  · clear rs
    rcases cem with ⟨rfl, rfl, rfl⟩ | ⟨rfl, em'⟩
    · have ces' : es = 2 ∨ es = 0 := by rcases ces with h | ⟨h, _⟩; exact .inl h; exact .inr h
      clear ces cu ru rm
      rcases ces' with rfl | rfl
      all_goals
        go_enter Try.func6, Try.ntmps6
        go_wp2_with fail
        refine (live_ok _).mono ?_
        rintro e w1 ⟨rfl, hb1⟩
        have P1 := ((Pair.new w (.int .i64 _) (.int .u64 _) 24).alloc _).kept hb1
        have P2 := (Pair.new _ (.int .i64 _) (.int .u64 _) 24).kept hb1
        have B1 := bthen (balloc (balloc (Below.refl _ w) _) _) hb1
        simp only [World.size_alloc] at P2
        clear hb1
        go_wp2_with fail
        refine (co _).mono ?_
        rintro e w2 ⟨rfl, hb2⟩
        replace P1 := P1.kept hb2
        replace P2 := P2.kept hb2
        replace B1 := bthen B1 hb2
        clear hb2
        go_wp2_with fail
        refine (cf _).mono ?_
        rintro e w3 ⟨rfl, hb3⟩
        replace P1 := P1.kept hb3
        replace P2 := P2.kept hb3
        replace B1 := bthen B1 hb3
        clear hb3
        obtain ⟨z1, c10, c11⟩ := id P1
        go_wp2_with fail
        refine (cv' _).mono ?_
        rintro e w4 ⟨rfl, hb4⟩
        replace P1 := P1.kept hb4
        replace P2 := P2.kept hb4
        replace B1 := bthen B1 hb4
        clear hb4 z1 c10 c11
        obtain ⟨z1, c10, c11⟩ := id P1
        go_wp2
        go_quiet (fail)
        have Q2 : Pair (w4.drewN _) _ _ _ := Pair.drewN P1 nq
        have Q3 : Pair (w4.drewN _) _ _ _ := Pair.drewN P2 nq
        have B5 := bdrewN B1 nq
        clear P1 P2 B1 z1 c10 c11
        obtain ⟨z1, c10, c11⟩ := id Q2
        obtain ⟨z2, c20, c21⟩ := id Q3
        go_wp2_with fail
        refine (cs _).mono ?_
        rintro e w6 ⟨rfl, hb6⟩
        replace Q2 := Q2.kept hb6
        replace Q3 := Q3.kept hb6
        replace B5 := bthen B5 hb6
        clear hb6 z1 c10 c11 z2 c20 c21
        obtain ⟨z1, c10, c11⟩ := id Q2
        obtain ⟨z2, c20, c21⟩ := id Q3
        go_wp2_with fail
        refine (ct _).mono ?_
        rintro e w7 ⟨rfl, hb7⟩
        replace Q2 := (Q2.alloc _).kept hb7
        replace Q3 := (Q3.alloc _).kept hb7
        have S1 := (Pair.new _ (.int .i64 _) (.int .u64 _) 24).kept hb7
        replace B5 := bthen (balloc B5 _) hb7
        clear hb7 z1 c10 c11 z2 c20 c21
        obtain ⟨z1, c10, c11⟩ := id Q2
        obtain ⟨z2, c20, c21⟩ := id Q3
        go_wp2_with fail
        refine (cm _).mono ?_
        rintro e w8 ⟨rfl, hb8⟩
        replace Q2 := (Q2.alloc _).kept hb8
        replace Q3 := (Q3.alloc _).kept hb8
        replace S1 := (S1.alloc _).kept hb8
        have S2 := (Pair.new _ (.int .i64 _) (.int .u64 _) 24).kept hb8
        replace B5 := bthen (balloc B5 _) hb8
        clear hb8 z1 c10 c11 z2 c20 c21
        obtain ⟨z1, c10, c11⟩ := id Q2
        obtain ⟨z2, c20, c21⟩ := id Q3
        obtain ⟨z3, c30, c31⟩ := id S1
        obtain ⟨z4, c40, c41⟩ := id S2
        go_wp2
        go_ret
        exact ⟨by simp, balloc B5 _⟩
    · rcases ces with rfl | ⟨rfl, es'⟩
      · clear cu ru rm em' bs bm
        go_enter Try.func6, Try.ntmps6
        go_wp2_with fail
        refine (live_ok _).mono ?_
        rintro e w1 ⟨rfl, hb1⟩
        have P1 := ((Pair.new w (.int .i64 _) (.int .u64 _) 24).alloc _).kept hb1
        have P2 := (Pair.new _ (.int .i64 _) (.int .u64 _) 24).kept hb1
        have B1 := bthen (balloc (balloc (Below.refl _ w) _) _) hb1
        simp only [World.size_alloc] at P2
        clear hb1
        go_wp2_with fail
        refine (co _).mono ?_
        rintro e w2 ⟨rfl, hb2⟩
        replace P1 := P1.kept hb2
        replace P2 := P2.kept hb2
        replace B1 := bthen B1 hb2
        clear hb2
        go_wp2_with fail
        refine (cf _).mono ?_
        rintro e w3 ⟨rfl, hb3⟩
        replace P1 := P1.kept hb3
        replace P2 := P2.kept hb3
        replace B1 := bthen B1 hb3
        clear hb3
        obtain ⟨z1, c10, c11⟩ := id P1
        go_wp2_with fail
        refine (cv' _).mono ?_
        rintro e w4 ⟨rfl, hb4⟩
        replace P1 := P1.kept hb4
        replace P2 := P2.kept hb4
        replace B1 := bthen B1 hb4
        clear hb4 z1 c10 c11
        obtain ⟨z1, c10, c11⟩ := id P1
        go_wp2
        go_quiet (fail)
        have Q2 : Pair (w4.drewN _) _ _ _ := Pair.drewN P1 nq
        have Q3 : Pair (w4.drewN _) _ _ _ := Pair.drewN P2 nq
        have B5 := bdrewN B1 nq
        clear P1 P2 B1 z1 c10 c11
        obtain ⟨z1, c10, c11⟩ := id Q2
        obtain ⟨z2, c20, c21⟩ := id Q3
        go_wp2_with fail
        refine (cs _).mono ?_
        rintro e w6 ⟨rfl, hb6⟩
        replace Q2 := Q2.kept hb6
        replace Q3 := Q3.kept hb6
        replace B5 := bthen B5 hb6
        clear hb6 z1 c10 c11 z2 c20 c21
        obtain ⟨z1, c10, c11⟩ := id Q2
        obtain ⟨z2, c20, c21⟩ := id Q3
        go_wp2_with fail
        refine (ct _).mono ?_
        rintro e w7 ⟨rfl, hb7⟩
        replace Q2 := (Q2.alloc _).kept hb7
        replace Q3 := (Q3.alloc _).kept hb7
        have S1 := (Pair.new _ (.int .i64 _) (.int .u64 _) 24).kept hb7
        replace B5 := bthen (balloc B5 _) hb7
        clear hb7 z1 c10 c11 z2 c20 c21
        obtain ⟨z1, c10, c11⟩ := id Q2
        obtain ⟨z2, c20, c21⟩ := id Q3
        go_wp2_with fail
        refine (cm _).mono ?_
        rintro e w8 ⟨rfl, hb8⟩
        replace Q2 := (Q2.alloc _).kept hb8
        replace Q3 := (Q3.alloc _).kept hb8
        replace S1 := (S1.alloc _).kept hb8
        have S2 := (Pair.new _ (.int .i64 _) (.int .u64 _) 24).kept hb8
        replace B5 := bthen (balloc B5 _) hb8
        clear hb8 z1 c10 c11 z2 c20 c21
        obtain ⟨z1, c10, c11⟩ := id Q2
        obtain ⟨z2, c20, c21⟩ := id Q3
        obtain ⟨z3, c30, c31⟩ := id S1
        obtain ⟨z4, c40, c41⟩ := id S2
        go_wp2
        go_ret
        exact ⟨by simp, balloc B5 _⟩
      · obtain ⟨rfl, rfl, rfl⟩ := back_res es' em' ru rfl b1
        clear ru rm em' es' bs bm
        go_enter Try.func6, Try.ntmps6
        go_wp2_with fail
        refine (live_ok _).mono ?_
        rintro e w1 ⟨rfl, hb1⟩
        have P1 := ((Pair.new w (.int .i64 _) (.int .u64 _) 24).alloc _).kept hb1
        have P2 := (Pair.new _ (.int .i64 _) (.int .u64 _) 24).kept hb1
        have B1 := bthen (balloc (balloc (Below.refl _ w) _) _) hb1
        simp only [World.size_alloc] at P2
        clear hb1
        go_wp2_with fail
        refine (co _).mono ?_
        rintro e w2 ⟨rfl, hb2⟩
        replace P1 := P1.kept hb2
        replace P2 := P2.kept hb2
        replace B1 := bthen B1 hb2
        clear hb2
        go_wp2_with fail
        refine (cf _).mono ?_
        rintro e w3 ⟨rfl, hb3⟩
        replace P1 := P1.kept hb3
        replace P2 := P2.kept hb3
        replace B1 := bthen B1 hb3
        clear hb3
        obtain ⟨z1, c10, c11⟩ := id P1
        go_wp2_with fail
        refine (cv' _).mono ?_
        rintro e w4 ⟨rfl, hb4⟩
        replace P1 := P1.kept hb4
        replace P2 := P2.kept hb4
        replace B1 := bthen B1 hb4
        clear hb4 z1 c10 c11
        obtain ⟨z1, c10, c11⟩ := id P1
        go_wp2
        go_quiet (fail)
        have Q2 : Pair (w4.drewN _) _ _ _ := Pair.drewN P1 nq
        have Q3 : Pair (w4.drewN _) _ _ _ := Pair.drewN P2 nq
        have B5 := bdrewN B1 nq
        clear P1 P2 B1 z1 c10 c11
        obtain ⟨z1, c10, c11⟩ := id Q2
        obtain ⟨z2, c20, c21⟩ := id Q3
        go_wp2_with fail
        refine (cs _).mono ?_
        rintro e w6 ⟨rfl, hb6⟩
        replace Q2 := Q2.kept hb6
        replace Q3 := Q3.kept hb6
        replace B5 := bthen B5 hb6
        clear hb6 z1 c10 c11 z2 c20 c21
        obtain ⟨z1, c10, c11⟩ := id Q2
        obtain ⟨z2, c20, c21⟩ := id Q3
        go_wp2_with fail
        refine (ct _).mono ?_
        rintro e w7 ⟨rfl, hb7⟩
        replace Q2 := (Q2.alloc _).kept hb7
        replace Q3 := (Q3.alloc _).kept hb7
        have S1 := (Pair.new _ (.int .i64 _) (.int .u64 _) 24).kept hb7
        replace B5 := bthen (balloc B5 _) hb7
        clear hb7 z1 c10 c11 z2 c20 c21
        obtain ⟨z1, c10, c11⟩ := id Q2
        obtain ⟨z2, c20, c21⟩ := id Q3
        go_wp2_with fail
        refine (cm _).mono ?_
        rintro e w8 ⟨rfl, hb8⟩
        replace Q2 := (Q2.alloc _).kept hb8
        replace Q3 := (Q3.alloc _).kept hb8
        replace S1 := (S1.alloc _).kept hb8
        have S2 := (Pair.new _ (.int .i64 _) (.int .u64 _) 24).kept hb8
        replace B5 := bthen (balloc B5 _) hb8
        clear hb8 z1 c10 c11 z2 c20 c21
        obtain ⟨z1, c10, c11⟩ := id Q2
        obtain ⟨z2, c20, c21⟩ := id Q3
        obtain ⟨z3, c30, c31⟩ := id S1
        obtain ⟨z4, c40, c41⟩ := id S2
        go_wp2_with fail
        refine (cu _).mono ?_
        rintro e w9 ⟨rfl, hb9⟩
        replace Q2 := (Q2.alloc _).kept hb9
        replace B5 := bthen (balloc B5 _) hb9
        clear hb9 z1 c10 c11 z2 c20 c21 z3 c30 c31 z4 c40 c41 S1 S2 Q3
        obtain ⟨z1, c10, c11⟩ := id Q2
        go_wp2
        go_ret
        exact ⟨by simp, balloc B5 _⟩

end Go.Proofs.Ytbpnfkhoajlffaa.Vl
