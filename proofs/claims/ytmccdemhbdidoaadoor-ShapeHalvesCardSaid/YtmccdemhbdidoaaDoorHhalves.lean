/- ShapeHalves' walk. -/
import Derived.Test.YtmccdemhbdidoaaDoorHlive
namespace Go.Proofs.YtmccdemhbdidoaaDoor.Hl
set_option linter.unusedSimpArgs false
set_option linter.unusedVariables false
open Go.RowKit Go.Proofs.YtmccdemhbdidoaaDoor.Bn Go.Proofs.YtmccdemhbdidoaaDoor.Bx Go.Proofs.YtmccdemhbdidoaaDoor.Am Go.Proofs.YtmccdemhbdidoaaDoor.Fp Go.Proofs.YtmccdemhbdidoaaDoor.Ap Go.Proofs.YtmccdemhbdidoaaDoor.Cm Go.Proofs.YtmccdemhbdidoaaDoor.Em Go.Proofs.YtmccdemhbdidoaaDoor.Ep Go.Proofs.YtmccdemhbdidoaaDoor.Rk Go.Proofs.YtmccdemhbdidoaaDoor.Hp

set_option maxHeartbeats 8000000

/-- how many of the first t periods lie in each quarter, and in which one the last of them -/
def Cnt (b1 b2 b3 t x1 x2 x3 x4 L : Int) : Prop :=
  (t ≤ b1 ∧ x1 = t ∧ x2 = 0 ∧ x3 = 0 ∧ x4 = 0 ∧ L = 1) ∨ (b1 < t ∧ t ≤ b2 ∧ x1 = b1 ∧ x2 = t - b1 ∧ x3 = 0 ∧ x4 = 0 ∧ L = 2) ∨
  (b2 < t ∧ t ≤ b3 ∧ x1 = b1 ∧ x2 = b2 - b1 ∧ x3 = t - b2 ∧ x4 = 0 ∧ L = 3) ∨ (b3 < t ∧ x1 = b1 ∧ x2 = b2 - b1 ∧ x3 = b3 - b2 ∧ x4 = t - b3 ∧ L = 4)

set_option maxRecDepth 100000 in
theorem halves_walk (c : CalZ) (w : World) (wf : CalWf c) (tb : FTab w) :
    Calls Tryd.prog 3 #[.agg #[.string c.nm, .int .i64 c.k, .int .i64 c.d, .int .i64 c.m, .int .i64 c.s, .int .i64 c.sh, .int .i64 c.p0, .int .i64 c.p1, .int .i64 c.p2, .int .i64 c.cy, .int .i64 c.ex, .int .i64 c.fi, .int .i64 c.la, .int .i64 c.po]] w fun e w' => e = .returned (.bool true) ∧ Below w.heap.size w w' := by
  have T := tb
  have C := CalIn.new w c 24
  have B := balloc (Below.refl _ w) (.cells #[.string c.nm, .int .i64 c.k, .int .i64 c.d, .int .i64 c.m, .int .i64 c.s, .int .i64 c.sh, .int .i64 c.p0, .int .i64 c.p1, .int .i64 c.p2, .int .i64 c.cy, .int .i64 c.ex, .int .i64 c.fi, .int .i64 c.la, .int .i64 c.po] 24)
  replace T := T.alloc (.cells #[.string c.nm, .int .i64 c.k, .int .i64 c.d, .int .i64 c.m, .int .i64 c.s, .int .i64 c.sh, .int .i64 c.p0, .int .i64 c.p1, .int .i64 c.p2, .int .i64 c.cy, .int .i64 c.ex, .int .i64 c.fi, .int .i64 c.la, .int .i64 c.po] 24)
  have hm := wf.1
  by_cases hl : 100 < c.nm.size
  · have dl : decide ((100 : Int) < (c.nm.size : Int)) = true := decide_eq_true (by omega)
    clear hl
    go_enter Tryd.func3, Tryd.ntmps3
    go_upto_region 1 with fail
    generalize w.alloc (.cells #[.string c.nm, .int .i64 c.k, .int .i64 c.d, .int .i64 c.m, .int .i64 c.s, .int .i64 c.sh, .int .i64 c.p0, .int .i64 c.p1, .int .i64 c.p2, .int .i64 c.cy, .int .i64 c.ex, .int .i64 c.fi, .int .i64 c.la, .int .i64 c.po] 24) = W0 at *
    obtain ⟨_, c0, c1, c2, c3, c4, c5, c6, c7, c8, c9, c10, c11, c12, c13⟩ := id C
    go_wp2_with fail
    refine (hlive_ok _ T).mono ?_
    rintro e w1 ⟨rfl, hb⟩
    replace C := C.kept hb
    replace B := bthen B hb
    replace T := T.kept hb
    clear hb c0 c1 c2 c3 c4 c5 c6 c7 c8 c9 c10 c11 c12 c13
    obtain ⟨_, c0, c1, c2, c3, c4, c5, c6, c7, c8, c9, c10, c11, c12, c13⟩ := id C
    go_wp2
    go_ret
    exact ⟨by simp <;> omega, B⟩
  have dl : decide ((100 : Int) < (c.nm.size : Int)) = false := decide_eq_false (by omega)
  clear hl
  by_cases ok : CalOk c
  · have pi := per_is ok.1
    obtain ⟨n, hn⟩ : ∃ n : Nat, (n : Int) = per c := ⟨(per c).toNat, by omega⟩
    have n1 : n ≤ 52 := by omega
    have n0 : 12 ≤ n := by omega
    obtain ⟨b1, hb1⟩ : ∃ b, b = (n : Int) / 4 := ⟨_, rfl⟩
    obtain ⟨b2, hb2⟩ : ∃ b, b = (n : Int) * 2 / 4 := ⟨_, rfl⟩
    obtain ⟨b3, hb3⟩ : ∃ b, b = (n : Int) * 3 / 4 := ⟨_, rfl⟩
    have bs : 3 ≤ b1 ∧ b1 + 3 ≤ b2 ∧ b2 + 3 ≤ b3 ∧ b3 + 3 ≤ (n : Int) ∧ ((n : Int) - b2 - b2 = 0 ∨ (n : Int) - b2 - b2 = 1) := by omega
    have cp := fun w T => Periods_any c (n : Int) 0 w (.inl ⟨ok, hn, rfl⟩) hm T
    have c0' := fun w T => Quarter_any c 0 0 1 w (.inr (.inl ⟨ok, by omega, rfl, rfl⟩)) hm T
    have c1' := fun w T => Quarter_any c ((n : Int) + 1) 0 1 w (.inr (.inl ⟨ok, by omega, rfl, rfl⟩)) hm T
    have CQ : Hid (∀ t : Nat, t < n → ∃ q : Int, ((q = 1 ∧ (t : Int) + 1 ≤ b1) ∨ (q = 2 ∧ b1 < (t : Int) + 1 ∧ (t : Int) + 1 ≤ b2) ∨ (q = 3 ∧ b2 < (t : Int) + 1 ∧ (t : Int) + 1 ≤ b3) ∨ (q = 4 ∧ b3 < (t : Int) + 1)) ∧
        ∀ w, FTab w → Calls Tryd.prog 7 #[.agg #[.string c.nm, .int .i64 c.k, .int .i64 c.d, .int .i64 c.m, .int .i64 c.s, .int .i64 c.sh, .int .i64 c.p0, .int .i64 c.p1, .int .i64 c.p2, .int .i64 c.cy, .int .i64 c.ex, .int .i64 c.fi, .int .i64 c.la, .int .i64 c.po], .int .i64 ((t : Int) + 1)] w fun e w' => e = .returned (.tuple #[.int .i64 q, .int .i64 0]) ∧ Below w.heap.size w w') :=
      Lib.hid (fun t ht => ⟨quar (per c) ((t : Int) + 1), by rw [← hn]; unfold quar; rw [← hb1, ← hb2, ← hb3]; (repeat' split) <;> omega, fun w T => Quarter_any c _ _ 0 w (.inl ⟨ok, by omega, by omega, rfl, rfl⟩) hm T⟩)
    have BS := Lib.hid bs
    clear ok pi hn hb1 hb2 hb3 bs
    go_enter Tryd.func3, Tryd.ntmps3
    go_upto_region 1 with fail
    generalize w.alloc (.cells #[.string c.nm, .int .i64 c.k, .int .i64 c.d, .int .i64 c.m, .int .i64 c.s, .int .i64 c.sh, .int .i64 c.p0, .int .i64 c.p1, .int .i64 c.p2, .int .i64 c.cy, .int .i64 c.ex, .int .i64 c.fi, .int .i64 c.la, .int .i64 c.po] 24) = W0 at *
    obtain ⟨_, c0, c1, c2, c3, c4, c5, c6, c7, c8, c9, c10, c11, c12, c13⟩ := id C
    go_wp2_with fail
    refine (hlive_ok _ T).mono ?_
    rintro e w2 ⟨rfl, hb⟩
    replace C := C.kept hb
    replace B := bthen B hb
    replace T := T.kept hb
    clear hb c0 c1 c2 c3 c4 c5 c6 c7 c8 c9 c10 c11 c12 c13
    obtain ⟨_, c0, c1, c2, c3, c4, c5, c6, c7, c8, c9, c10, c11, c12, c13⟩ := id C
    go_wp2_with fail
    refine (cp _ T).mono ?_
    rintro e w3 ⟨rfl, hb⟩
    replace C := C.kept hb
    replace B := bthen B hb
    replace T := T.kept hb
    clear hb c0 c1 c2 c3 c4 c5 c6 c7 c8 c9 c10 c11 c12 c13
    obtain ⟨_, c0, c1, c2, c3, c4, c5, c6, c7, c8, c9, c10, c11, c12, c13⟩ := id C
    have X := (Box.new w3 #[.int .i64 0, .int .i64 0, .int .i64 0, .int .i64 0, .int .i64 0] 30)
    clear cp c0 c1 c2 c3 c4 c5 c6 c7 c8 c9 c10 c11 c12 c13
    go_wp2
    go_loopw [8, 9] (fun Z Y wr => ∃ t : Nat, t ≤ n ∧ Y = .int .i64 ((t : Int) + 1) ∧ (∃ x1 x2 x3 x4 L : Int, Z = .int .i64 L ∧ Box wr w3.heap.size [.int .i64 0, .int .i64 x1, .int .i64 x2, .int .i64 x3, .int .i64 x4] ∧ Hid (Cnt b1 b2 b3 t x1 x2 x3 x4 L)) ∧ Below w3.heap.size w3 wr) (fun _ Y _ => (55 - intOf Y).toNat)
    case atStart => exact ⟨0, by omega, rfl, ⟨0, 0, 0, 0, 1, rfl, X, Lib.hid (.inl ⟨by have := BS.out; omega, rfl, rfl, rfl, rfl, rfl⟩)⟩, balloc (Below.refl _ _) _⟩
    case round =>
      clear X
      obtain ⟨t, ht, rfl, ⟨x1, x2, x3, x4, L, rfl, X, HC⟩, B2⟩ := hrel
      have Ck := C.kept B2
      have Tk := T.kept B2
      by_cases hlt : t < n
      · obtain ⟨q, hq, cq⟩ := CQ.out t hlt
        obtain ⟨_, c0, c1, c2, c3, c4, c5, c6, c7, c8, c9, c10, c11, c12, c13⟩ := Ck
        have bx : 0 ≤ x1 ∧ x1 ≤ 52 ∧ 0 ≤ x2 ∧ x2 ≤ 52 ∧ 0 ≤ x3 ∧ x3 ≤ 52 ∧ 0 ≤ x4 ∧ x4 ≤ 52 ∧ q ≤ L + 1 ∧ L ≤ q := by
          have bs := BS.out
          rcases HC.out with h | h | h | h <;> omega
        obtain ⟨y1, z1, y2, z2, y3, z3, y4, z4, lq, ql⟩ := bx
        replace cq := cq wr Tk
        rcases hq with ⟨rfl, g⟩ | ⟨rfl, g, g'⟩ | ⟨rfl, g, g'⟩ | ⟨rfl, g⟩
        · have E : Hid (Cnt b1 b2 b3 ((t + 1 : Nat) : Int) (x1 + 1) x2 x3 x4 1) := Lib.hid (by have bs := BS.out; rcases HC.out with h | h | h | h <;> (unfold Cnt; omega))
          clear HC
          go_wp2_with fail
          refine cq.mono ?_
          rintro e w21 ⟨rfl, hb⟩
          replace X := X.kept hb
          replace B2 := bthen B2 hb
          clear hb cq Tk c0 c1 c2 c3 c4 c5 c6 c7 c8 c9 c10 c11 c12 c13
          obtain ⟨_, k0, k1, k2, k3, k4, f0, f1, f2, f3, f4⟩ := X.five
          have X2 : Box _ _ [.int .i64 0, .int .i64 (x1 + 1), .int .i64 x2, .int .i64 x3, .int .i64 x4] := X.set 1 (by simp) _
          replace B2 := bset B2 (Nat.le_refl _) 1 (.int .i64 (x1 + 1))
          clear X
          go_wp2
          go_roundw
          case rel => exact ⟨t + 1, by omega, by go_num, ⟨_, _, _, _, _, rfl, X2, E⟩, B2⟩
          case measure => simp [intOf]; omega
        · have E : Hid (Cnt b1 b2 b3 ((t + 1 : Nat) : Int) x1 (x2 + 1) x3 x4 2) := Lib.hid (by have bs := BS.out; rcases HC.out with h | h | h | h <;> (unfold Cnt; omega))
          clear HC
          go_wp2_with fail
          refine cq.mono ?_
          rintro e w21 ⟨rfl, hb⟩
          replace X := X.kept hb
          replace B2 := bthen B2 hb
          clear hb cq Tk c0 c1 c2 c3 c4 c5 c6 c7 c8 c9 c10 c11 c12 c13
          obtain ⟨_, k0, k1, k2, k3, k4, f0, f1, f2, f3, f4⟩ := X.five
          have X2 : Box _ _ [.int .i64 0, .int .i64 x1, .int .i64 (x2 + 1), .int .i64 x3, .int .i64 x4] := X.set 2 (by simp) _
          replace B2 := bset B2 (Nat.le_refl _) 2 (.int .i64 (x2 + 1))
          clear X
          go_wp2
          go_roundw
          case rel => exact ⟨t + 1, by omega, by go_num, ⟨_, _, _, _, _, rfl, X2, E⟩, B2⟩
          case measure => simp [intOf]; omega
        · have E : Hid (Cnt b1 b2 b3 ((t + 1 : Nat) : Int) x1 x2 (x3 + 1) x4 3) := Lib.hid (by have bs := BS.out; rcases HC.out with h | h | h | h <;> (unfold Cnt; omega))
          clear HC
          go_wp2_with fail
          refine cq.mono ?_
          rintro e w21 ⟨rfl, hb⟩
          replace X := X.kept hb
          replace B2 := bthen B2 hb
          clear hb cq Tk c0 c1 c2 c3 c4 c5 c6 c7 c8 c9 c10 c11 c12 c13
          obtain ⟨_, k0, k1, k2, k3, k4, f0, f1, f2, f3, f4⟩ := X.five
          have X2 : Box _ _ [.int .i64 0, .int .i64 x1, .int .i64 x2, .int .i64 (x3 + 1), .int .i64 x4] := X.set 3 (by simp) _
          replace B2 := bset B2 (Nat.le_refl _) 3 (.int .i64 (x3 + 1))
          clear X
          go_wp2
          go_roundw
          case rel => exact ⟨t + 1, by omega, by go_num, ⟨_, _, _, _, _, rfl, X2, E⟩, B2⟩
          case measure => simp [intOf]; omega
        · have E : Hid (Cnt b1 b2 b3 ((t + 1 : Nat) : Int) x1 x2 x3 (x4 + 1) 4) := Lib.hid (by have bs := BS.out; rcases HC.out with h | h | h | h <;> (unfold Cnt; omega))
          clear HC
          go_wp2_with fail
          refine cq.mono ?_
          rintro e w21 ⟨rfl, hb⟩
          replace X := X.kept hb
          replace B2 := bthen B2 hb
          clear hb cq Tk c0 c1 c2 c3 c4 c5 c6 c7 c8 c9 c10 c11 c12 c13
          obtain ⟨_, k0, k1, k2, k3, k4, f0, f1, f2, f3, f4⟩ := X.five
          have X2 : Box _ _ [.int .i64 0, .int .i64 x1, .int .i64 x2, .int .i64 x3, .int .i64 (x4 + 1)] := X.set 4 (by simp) _
          replace B2 := bset B2 (Nat.le_refl _) 4 (.int .i64 (x4 + 1))
          clear X
          go_wp2
          go_roundw
          case rel => exact ⟨t + 1, by omega, by go_num, ⟨_, _, _, _, _, rfl, X2, E⟩, B2⟩
          case measure => simp [intOf]; omega
      · obtain rfl : t = n := by omega
        have fin : L = 4 ∧ 3 ≤ x1 ∧ x1 ≤ 52 ∧ 3 ≤ x2 ∧ x2 ≤ 52 ∧ 3 ≤ x3 ∧ x3 ≤ 52 ∧ 3 ≤ x4 ∧ x4 ≤ 52 ∧ (x3 + x4 - x1 - x2 = 0 ∨ x3 + x4 - x1 - x2 = 1) := by
          have bs := BS.out
          rcases HC.out with h | h | h | h <;> omega
        obtain ⟨rfl, y1, z1, y2, z2, y3, z3, y4, z4, half⟩ := fin
        have dk : decide ((t : Int) + 1 ≤ (t : Int)) = false := decide_eq_false (by omega)
        obtain ⟨_, c0, c1, c2, c3, c4, c5, c6, c7, c8, c9, c10, c11, c12, c13⟩ := id Ck
        clear HC
        go_wp2_with fail
        refine (c0' _ Tk).mono ?_
        rintro e w21 ⟨rfl, hb⟩
        replace X := X.kept hb
        replace Ck := Ck.kept hb
        replace Tk := Tk.kept hb
        replace B2 := bthen B2 hb
        clear hb c0 c1 c2 c3 c4 c5 c6 c7 c8 c9 c10 c11 c12 c13
        obtain ⟨_, c0, c1, c2, c3, c4, c5, c6, c7, c8, c9, c10, c11, c12, c13⟩ := id Ck
        go_wp2_with fail
        refine (c1' _ Tk).mono ?_
        rintro e w22 ⟨rfl, hb⟩
        replace X := X.kept hb
        replace B2 := bthen B2 hb
        clear hb Ck Tk c0' c1' c0 c1 c2 c3 c4 c5 c6 c7 c8 c9 c10 c11 c12 c13
        obtain ⟨_, k0, k1, k2, k3, k4, f0, f1, f2, f3, f4⟩ := X.five
        rcases half with hf | hf
        all_goals
          go_wp2
          go_ret
          exact ⟨by simp <;> omega, bthen B B2⟩
  · have cp := fun w T => Periods_any c 0 1 w (.inr ⟨ok, rfl, rfl⟩) hm T
    have cq := fun w T => Quarter_any c 1 0 1 w (.inr (.inr ⟨ok, rfl, rfl⟩)) hm T
    clear ok
    go_enter Tryd.func3, Tryd.ntmps3
    go_upto_region 1 with fail
    generalize w.alloc (.cells #[.string c.nm, .int .i64 c.k, .int .i64 c.d, .int .i64 c.m, .int .i64 c.s, .int .i64 c.sh, .int .i64 c.p0, .int .i64 c.p1, .int .i64 c.p2, .int .i64 c.cy, .int .i64 c.ex, .int .i64 c.fi, .int .i64 c.la, .int .i64 c.po] 24) = W0 at *
    obtain ⟨_, c0, c1, c2, c3, c4, c5, c6, c7, c8, c9, c10, c11, c12, c13⟩ := id C
    go_wp2_with fail
    refine (hlive_ok _ T).mono ?_
    rintro e w4 ⟨rfl, hb⟩
    replace C := C.kept hb
    replace B := bthen B hb
    replace T := T.kept hb
    clear hb c0 c1 c2 c3 c4 c5 c6 c7 c8 c9 c10 c11 c12 c13
    obtain ⟨_, c0, c1, c2, c3, c4, c5, c6, c7, c8, c9, c10, c11, c12, c13⟩ := id C
    go_wp2_with fail
    refine (cp _ T).mono ?_
    rintro e w5 ⟨rfl, hb⟩
    replace C := C.kept hb
    replace B := bthen B hb
    replace T := T.kept hb
    clear hb c0 c1 c2 c3 c4 c5 c6 c7 c8 c9 c10 c11 c12 c13
    obtain ⟨_, c0, c1, c2, c3, c4, c5, c6, c7, c8, c9, c10, c11, c12, c13⟩ := id C
    go_wp2_with fail
    refine (cq _ T).mono ?_
    rintro e w6 ⟨rfl, hb⟩
    replace C := C.kept hb
    replace B := bthen B hb
    replace T := T.kept hb
    clear hb c0 c1 c2 c3 c4 c5 c6 c7 c8 c9 c10 c11 c12 c13
    obtain ⟨_, c0, c1, c2, c3, c4, c5, c6, c7, c8, c9, c10, c11, c12, c13⟩ := id C
    go_wp2
    go_ret
    exact ⟨by simp <;> omega, B⟩

end Go.Proofs.YtmccdemhbdidoaaDoor.Hl
