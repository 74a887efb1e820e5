/- What cmp of the reference of layer 2 comes to. -/
import Derived.Test.YtfjckgnclhpmcaaDoorRback
namespace Go.Proofs.YtfjckgnclhpmcaaDoor.Vr
set_option linter.unusedSimpArgs false
set_option linter.unusedVariables false
open Go.RowKit Go.Proofs.YtfjckgnclhpmcaaDoor.Vm Go.Proofs.YtfjckgnclhpmcaaDoor.Vc

/-- a draw is moved outward -/
theorem alloc_drewN (w : World) (n : Nat) (o : Obj) : (w.drewN n).alloc o = (w.alloc o).drewN n := rfl
theorem setCell_drewN (w : World) (n : Nat) (a : Addr) (v : Value) : (w.drewN n).setCell a v = (w.setCell a v).drewN n := rfl

set_option maxHeartbeats 1000000

theorem cmp_at (x y v x0 x1 x2 x3 x4 x5 x6 x7 y0 y1 y2 y3 y4 y5 y6 y7 : Int) (w : World) (D : D8 x x0 x1 x2 x3 x4 x5 x6 x7) (E : D8 y y0 y1 y2 y3 y4 y5 y6 y7) (ev : Hid (cv x y = v)) :
    Calls Tryd.prog 48 #[.agg #[.int .u64 x0, .int .u64 x1, .int .u64 x2, .int .u64 x3, .int .u64 x4, .int .u64 x5, .int .u64 x6, .int .u64 x7], .agg #[.int .u64 y0, .int .u64 y1, .int .u64 y2, .int .u64 y3, .int .u64 y4, .int .u64 y5, .int .u64 y6, .int .u64 y7]] w fun e w' => e = .returned (.int .i64 v) ∧
      ∃ n, w' = ((w.alloc (.cells #[.int .u64 x0, .int .u64 x1, .int .u64 x2, .int .u64 x3, .int .u64 x4, .int .u64 x5, .int .u64 x6, .int .u64 x7] 65)).alloc (.cells #[.int .u64 y0, .int .u64 y1, .int .u64 y2, .int .u64 y3, .int .u64 y4, .int .u64 y5, .int .u64 y6, .int .u64 y7] 65)).drewN n := by
  replace D := Lib.hid D
  replace E := Lib.hid E
  go_enter Tryd.func48, Tryd.ntmps48
  go_wp2
  refine wp_loop_rounds 9 ?_
  by_cases c7 : x7 < y7
  · have a7 : decide (x7 < y7) = true := decide_eq_true c7
    rw [rounds_succ]
    go_wp2
    go_quiet (fail)
    go_wp2
    have e1 : cv x y = -1 := by have f1 := D.out; have f2 := E.out; unfold D8 Dg at f1 f2; unfold cv; rw [if_pos (by omega)]
    go_ret
    refine ⟨ret_one (e1.symm.trans ev.out), ?_⟩
    try simp only [World.drewN_drewN]
    exact ⟨_, rfl⟩
  · have a7 : decide (x7 < y7) = false := decide_eq_false c7
    by_cases k7 : y7 < x7
    · have b7 : decide (y7 < x7) = true := decide_eq_true k7
      rw [rounds_succ]
      go_wp2
      go_quiet (fail)
      go_wp2
      go_quiet (fail)
      go_wp2
      have e1 : cv x y = 1 := by have f1 := D.out; have f2 := E.out; unfold D8 Dg at f1 f2; unfold cv; rw [if_neg (by omega), if_pos (by omega)]
      go_ret
      refine ⟨ret_one (e1.symm.trans ev.out), ?_⟩
      try simp only [World.drewN_drewN]
      exact ⟨_, rfl⟩
    · have b7 : decide (y7 < x7) = false := decide_eq_false k7
      have Q7 := Lib.hid (show x7 = y7 by omega)
      rw [rounds_succ]
      go_wp2
      go_quiet (fail)
      go_wp2
      go_quiet (fail)
      go_wp2
      clear a7 b7 c7 k7
      by_cases c6 : x6 < y6
      · have a6 : decide (x6 < y6) = true := decide_eq_true c6
        rw [rounds_succ]
        go_wp2
        go_quiet (fail)
        go_wp2
        have e1 : cv x y = -1 := by have f1 := D.out; have f2 := E.out; have g7 := Q7.out; unfold D8 Dg at f1 f2; unfold cv; rw [if_pos (by omega)]
        go_ret
        refine ⟨ret_one (e1.symm.trans ev.out), ?_⟩
        try simp only [World.drewN_drewN]
        exact ⟨_, rfl⟩
      · have a6 : decide (x6 < y6) = false := decide_eq_false c6
        by_cases k6 : y6 < x6
        · have b6 : decide (y6 < x6) = true := decide_eq_true k6
          rw [rounds_succ]
          go_wp2
          go_quiet (fail)
          go_wp2
          go_quiet (fail)
          go_wp2
          have e1 : cv x y = 1 := by have f1 := D.out; have f2 := E.out; have g7 := Q7.out; unfold D8 Dg at f1 f2; unfold cv; rw [if_neg (by omega), if_pos (by omega)]
          go_ret
          refine ⟨ret_one (e1.symm.trans ev.out), ?_⟩
          try simp only [World.drewN_drewN]
          exact ⟨_, rfl⟩
        · have b6 : decide (y6 < x6) = false := decide_eq_false k6
          have Q6 := Lib.hid (show x6 = y6 by omega)
          rw [rounds_succ]
          go_wp2
          go_quiet (fail)
          go_wp2
          go_quiet (fail)
          go_wp2
          clear a6 b6 c6 k6
          by_cases c5 : x5 < y5
          · have a5 : decide (x5 < y5) = true := decide_eq_true c5
            rw [rounds_succ]
            go_wp2
            go_quiet (fail)
            go_wp2
            have e1 : cv x y = -1 := by have f1 := D.out; have f2 := E.out; have g6 := Q6.out; have g7 := Q7.out; unfold D8 Dg at f1 f2; unfold cv; rw [if_pos (by omega)]
            go_ret
            refine ⟨ret_one (e1.symm.trans ev.out), ?_⟩
            try simp only [World.drewN_drewN]
            exact ⟨_, rfl⟩
          · have a5 : decide (x5 < y5) = false := decide_eq_false c5
            by_cases k5 : y5 < x5
            · have b5 : decide (y5 < x5) = true := decide_eq_true k5
              rw [rounds_succ]
              go_wp2
              go_quiet (fail)
              go_wp2
              go_quiet (fail)
              go_wp2
              have e1 : cv x y = 1 := by have f1 := D.out; have f2 := E.out; have g6 := Q6.out; have g7 := Q7.out; unfold D8 Dg at f1 f2; unfold cv; rw [if_neg (by omega), if_pos (by omega)]
              go_ret
              refine ⟨ret_one (e1.symm.trans ev.out), ?_⟩
              try simp only [World.drewN_drewN]
              exact ⟨_, rfl⟩
            · have b5 : decide (y5 < x5) = false := decide_eq_false k5
              have Q5 := Lib.hid (show x5 = y5 by omega)
              rw [rounds_succ]
              go_wp2
              go_quiet (fail)
              go_wp2
              go_quiet (fail)
              go_wp2
              clear a5 b5 c5 k5
              by_cases c4 : x4 < y4
              · have a4 : decide (x4 < y4) = true := decide_eq_true c4
                rw [rounds_succ]
                go_wp2
                go_quiet (fail)
                go_wp2
                have e1 : cv x y = -1 := by have f1 := D.out; have f2 := E.out; have g5 := Q5.out; have g6 := Q6.out; have g7 := Q7.out; unfold D8 Dg at f1 f2; unfold cv; rw [if_pos (by omega)]
                go_ret
                refine ⟨ret_one (e1.symm.trans ev.out), ?_⟩
                try simp only [World.drewN_drewN]
                exact ⟨_, rfl⟩
              · have a4 : decide (x4 < y4) = false := decide_eq_false c4
                by_cases k4 : y4 < x4
                · have b4 : decide (y4 < x4) = true := decide_eq_true k4
                  rw [rounds_succ]
                  go_wp2
                  go_quiet (fail)
                  go_wp2
                  go_quiet (fail)
                  go_wp2
                  have e1 : cv x y = 1 := by have f1 := D.out; have f2 := E.out; have g5 := Q5.out; have g6 := Q6.out; have g7 := Q7.out; unfold D8 Dg at f1 f2; unfold cv; rw [if_neg (by omega), if_pos (by omega)]
                  go_ret
                  refine ⟨ret_one (e1.symm.trans ev.out), ?_⟩
                  try simp only [World.drewN_drewN]
                  exact ⟨_, rfl⟩
                · have b4 : decide (y4 < x4) = false := decide_eq_false k4
                  have Q4 := Lib.hid (show x4 = y4 by omega)
                  rw [rounds_succ]
                  go_wp2
                  go_quiet (fail)
                  go_wp2
                  go_quiet (fail)
                  go_wp2
                  clear a4 b4 c4 k4
                  by_cases c3 : x3 < y3
                  · have a3 : decide (x3 < y3) = true := decide_eq_true c3
                    rw [rounds_succ]
                    go_wp2
                    go_quiet (fail)
                    go_wp2
                    have e1 : cv x y = -1 := by have f1 := D.out; have f2 := E.out; have g4 := Q4.out; have g5 := Q5.out; have g6 := Q6.out; have g7 := Q7.out; unfold D8 Dg at f1 f2; unfold cv; rw [if_pos (by omega)]
                    go_ret
                    refine ⟨ret_one (e1.symm.trans ev.out), ?_⟩
                    try simp only [World.drewN_drewN]
                    exact ⟨_, rfl⟩
                  · have a3 : decide (x3 < y3) = false := decide_eq_false c3
                    by_cases k3 : y3 < x3
                    · have b3 : decide (y3 < x3) = true := decide_eq_true k3
                      rw [rounds_succ]
                      go_wp2
                      go_quiet (fail)
                      go_wp2
                      go_quiet (fail)
                      go_wp2
                      have e1 : cv x y = 1 := by have f1 := D.out; have f2 := E.out; have g4 := Q4.out; have g5 := Q5.out; have g6 := Q6.out; have g7 := Q7.out; unfold D8 Dg at f1 f2; unfold cv; rw [if_neg (by omega), if_pos (by omega)]
                      go_ret
                      refine ⟨ret_one (e1.symm.trans ev.out), ?_⟩
                      try simp only [World.drewN_drewN]
                      exact ⟨_, rfl⟩
                    · have b3 : decide (y3 < x3) = false := decide_eq_false k3
                      have Q3 := Lib.hid (show x3 = y3 by omega)
                      rw [rounds_succ]
                      go_wp2
                      go_quiet (fail)
                      go_wp2
                      go_quiet (fail)
                      go_wp2
                      clear a3 b3 c3 k3
                      by_cases c2 : x2 < y2
                      · have a2 : decide (x2 < y2) = true := decide_eq_true c2
                        rw [rounds_succ]
                        go_wp2
                        go_quiet (fail)
                        go_wp2
                        have e1 : cv x y = -1 := by have f1 := D.out; have f2 := E.out; have g3 := Q3.out; have g4 := Q4.out; have g5 := Q5.out; have g6 := Q6.out; have g7 := Q7.out; unfold D8 Dg at f1 f2; unfold cv; rw [if_pos (by omega)]
                        go_ret
                        refine ⟨ret_one (e1.symm.trans ev.out), ?_⟩
                        try simp only [World.drewN_drewN]
                        exact ⟨_, rfl⟩
                      · have a2 : decide (x2 < y2) = false := decide_eq_false c2
                        by_cases k2 : y2 < x2
                        · have b2 : decide (y2 < x2) = true := decide_eq_true k2
                          rw [rounds_succ]
                          go_wp2
                          go_quiet (fail)
                          go_wp2
                          go_quiet (fail)
                          go_wp2
                          have e1 : cv x y = 1 := by have f1 := D.out; have f2 := E.out; have g3 := Q3.out; have g4 := Q4.out; have g5 := Q5.out; have g6 := Q6.out; have g7 := Q7.out; unfold D8 Dg at f1 f2; unfold cv; rw [if_neg (by omega), if_pos (by omega)]
                          go_ret
                          refine ⟨ret_one (e1.symm.trans ev.out), ?_⟩
                          try simp only [World.drewN_drewN]
                          exact ⟨_, rfl⟩
                        · have b2 : decide (y2 < x2) = false := decide_eq_false k2
                          have Q2 := Lib.hid (show x2 = y2 by omega)
                          rw [rounds_succ]
                          go_wp2
                          go_quiet (fail)
                          go_wp2
                          go_quiet (fail)
                          go_wp2
                          clear a2 b2 c2 k2
                          by_cases c1 : x1 < y1
                          · have a1 : decide (x1 < y1) = true := decide_eq_true c1
                            rw [rounds_succ]
                            go_wp2
                            go_quiet (fail)
                            go_wp2
                            have e1 : cv x y = -1 := by have f1 := D.out; have f2 := E.out; have g2 := Q2.out; have g3 := Q3.out; have g4 := Q4.out; have g5 := Q5.out; have g6 := Q6.out; have g7 := Q7.out; unfold D8 Dg at f1 f2; unfold cv; rw [if_pos (by omega)]
                            go_ret
                            refine ⟨ret_one (e1.symm.trans ev.out), ?_⟩
                            try simp only [World.drewN_drewN]
                            exact ⟨_, rfl⟩
                          · have a1 : decide (x1 < y1) = false := decide_eq_false c1
                            by_cases k1 : y1 < x1
                            · have b1 : decide (y1 < x1) = true := decide_eq_true k1
                              rw [rounds_succ]
                              go_wp2
                              go_quiet (fail)
                              go_wp2
                              go_quiet (fail)
                              go_wp2
                              have e1 : cv x y = 1 := by have f1 := D.out; have f2 := E.out; have g2 := Q2.out; have g3 := Q3.out; have g4 := Q4.out; have g5 := Q5.out; have g6 := Q6.out; have g7 := Q7.out; unfold D8 Dg at f1 f2; unfold cv; rw [if_neg (by omega), if_pos (by omega)]
                              go_ret
                              refine ⟨ret_one (e1.symm.trans ev.out), ?_⟩
                              try simp only [World.drewN_drewN]
                              exact ⟨_, rfl⟩
                            · have b1 : decide (y1 < x1) = false := decide_eq_false k1
                              have Q1 := Lib.hid (show x1 = y1 by omega)
                              rw [rounds_succ]
                              go_wp2
                              go_quiet (fail)
                              go_wp2
                              go_quiet (fail)
                              go_wp2
                              clear a1 b1 c1 k1
                              by_cases c0 : x0 < y0
                              · have a0 : decide (x0 < y0) = true := decide_eq_true c0
                                rw [rounds_succ]
                                go_wp2
                                go_quiet (fail)
                                go_wp2
                                have e1 : cv x y = -1 := by have f1 := D.out; have f2 := E.out; have g1 := Q1.out; have g2 := Q2.out; have g3 := Q3.out; have g4 := Q4.out; have g5 := Q5.out; have g6 := Q6.out; have g7 := Q7.out; unfold D8 Dg at f1 f2; unfold cv; rw [if_pos (by omega)]
                                go_ret
                                refine ⟨ret_one (e1.symm.trans ev.out), ?_⟩
                                try simp only [World.drewN_drewN]
                                exact ⟨_, rfl⟩
                              · have a0 : decide (x0 < y0) = false := decide_eq_false c0
                                by_cases k0 : y0 < x0
                                · have b0 : decide (y0 < x0) = true := decide_eq_true k0
                                  rw [rounds_succ]
                                  go_wp2
                                  go_quiet (fail)
                                  go_wp2
                                  go_quiet (fail)
                                  go_wp2
                                  have e1 : cv x y = 1 := by have f1 := D.out; have f2 := E.out; have g1 := Q1.out; have g2 := Q2.out; have g3 := Q3.out; have g4 := Q4.out; have g5 := Q5.out; have g6 := Q6.out; have g7 := Q7.out; unfold D8 Dg at f1 f2; unfold cv; rw [if_neg (by omega), if_pos (by omega)]
                                  go_ret
                                  refine ⟨ret_one (e1.symm.trans ev.out), ?_⟩
                                  try simp only [World.drewN_drewN]
                                  exact ⟨_, rfl⟩
                                · have b0 : decide (y0 < x0) = false := decide_eq_false k0
                                  have Q0 := Lib.hid (show x0 = y0 by omega)
                                  rw [rounds_succ]
                                  go_wp2
                                  go_quiet (fail)
                                  go_wp2
                                  go_quiet (fail)
                                  go_wp2
                                  clear a0 b0 c0 k0
                                  rw [rounds_succ]
                                  go_wp2
                                  have e1 : cv x y = 0 := by have f1 := D.out; have f2 := E.out; have g0 := Q0.out; have g1 := Q1.out; have g2 := Q2.out; have g3 := Q3.out; have g4 := Q4.out; have g5 := Q5.out; have g6 := Q6.out; have g7 := Q7.out; unfold D8 Dg at f1 f2; unfold cv; rw [if_neg (by omega), if_neg (by omega)]
                                  go_ret
                                  refine ⟨ret_one (e1.symm.trans ev.out), ?_⟩
                                  try simp only [World.drewN_drewN]
                                  exact ⟨_, rfl⟩

theorem cmp_to (x y v x0 x1 x2 x3 x4 x5 x6 x7 y0 y1 y2 y3 y4 y5 y6 y7 : Int) (w : World) (D : D8 x x0 x1 x2 x3 x4 x5 x6 x7) (E : D8 y y0 y1 y2 y3 y4 y5 y6 y7) (ev : Hid (cv x y = v)) :
    Calls Tryd.prog 48 #[.agg #[.int .u64 x0, .int .u64 x1, .int .u64 x2, .int .u64 x3, .int .u64 x4, .int .u64 x5, .int .u64 x6, .int .u64 x7], .agg #[.int .u64 y0, .int .u64 y1, .int .u64 y2, .int .u64 y3, .int .u64 y4, .int .u64 y5, .int .u64 y6, .int .u64 y7]] w fun e w' => e = .returned (.int .i64 v) ∧ Below w.heap.size w w' :=
  (cmp_at x y v x0 x1 x2 x3 x4 x5 x6 x7 y0 y1 y2 y3 y4 y5 y6 y7 w D E ev).mono fun e w' ⟨he, n, hw⟩ => ⟨he, by rw [hw]; exact below_drewN (((Below.refl _ _).alloc (Nat.le_refl _) _).alloc (by simp) _) _⟩

end Go.Proofs.YtfjckgnclhpmcaaDoor.Vr
