/- A slice of tokens that is read, wherever it lies; the reference's Same, and the law's exact. -/
import Derived.Test.YtjebdoecigmkhaaDoorZrow
import Derived.Test.YtjebdoecigmkhaaDoorFrameT
import Derived.Test.YtjebdoecigmkhaaDoorJK
import Derived.Test.YtjebdoecigmkhaaDoorJZ
import Derived.Test.YtjebdoecigmkhaaDoorProg
namespace Go.Proofs.YtjebdoecigmkhaaDoor.Zk
set_option linter.unusedSimpArgs false
set_option linter.unusedVariables false
open Go.RowKit Go.Proofs.YtjebdoecigmkhaaDoor.Zm Go.Proofs.YtjebdoecigmkhaaDoor.Rk Go.Proofs.YtjebdoecigmkhaaDoor.Bn

set_option maxHeartbeats 1000000

/-- a token of whole numbers, as the frames tell it -/
def tkI (t : Tk) : TkI := ⟨t.k, t.a, t.n, ⟨t.s.toArray⟩⟩

/-- v's n elements are z 0, z 1, .. -/
def TokAt (W : World) (v : Value) (n : Nat) (z : Nat → TkI) : Prop :=
  ∃ ptr cap, v = .slice ptr n cap ∧ (n = 0 ∨ ∃ g off, ptr = some ⟨g, off, none⟩ ∧ g < W.heap.size ∧ ∀ i, i < n →
    W.cell? ⟨g, off + i * 4, none⟩ = some (.int .i64 (z i).k) ∧ W.cell? ⟨g, off + i * 4 + 1, none⟩ = some (.int .i64 (z i).a) ∧
    W.cell? ⟨g, off + i * 4 + 2, none⟩ = some (.int .i64 (z i).n) ∧ W.cell? ⟨g, off + i * 4 + 3, none⟩ = some (.string (z i).s))

theorem TokAt.kept {W w1 : World} {v : Value} {n : Nat} {z : Nat → TkI} (h : TokAt W v n z) (hb : Below W.heap.size W w1) : TokAt w1 v n z := by
  obtain ⟨ptr, cap, rfl, h⟩ := h
  refine ⟨ptr, cap, rfl, ?_⟩
  rcases h with h | ⟨g, off, rfl, hg, hc⟩
  · exact .inl h
  · exact .inr ⟨g, off, rfl, Nat.lt_of_lt_of_le hg hb.size, fun i hi => by
      obtain ⟨c0, c1, c2, c3⟩ := hc i hi
      exact ⟨(hb.cell hg).trans c0, (hb.cell hg).trans c1, (hb.cell hg).trans c2, (hb.cell hg).trans c3⟩⟩

theorem TokAt.of_frame {w : World} {a : Option Addr} {len cap : Nat} {z : Nat → TkI} (h : TokensOf w a len cap z) : TokAt w (.slice a len cap) len z := by
  obtain ⟨_, _, _, h⟩ := h
  refine ⟨a, cap, rfl, ?_⟩
  rcases h with h | ⟨b, off, h1, h2, h3⟩
  · exact .inl h
  · exact .inr ⟨b, off, h1, h2, fun i hi => by obtain ⟨c0, c1, c2, c3⟩ := h3 i hi; simp only [← Nat.add_assoc] at c1 c2 c3; exact ⟨c0, c1, c2, c3⟩⟩

theorem TokAt.of_own {EL : TypeId} {w W : World} {v : Value} {a : List Tk} (h : OneT EL w W v a) : TokAt W v a.length (fun i => tkI (a.getD i ⟨0, 0, 0, []⟩)) := by
  rcases Nat.eq_zero_or_pos a.length with h0 | h0
  · obtain ⟨ptr, cap, rfl⟩ := h.form
    exact ⟨ptr, cap, rfl, .inl h0⟩
  · obtain ⟨g, cap, rfl, hg, lt1⟩ := h.a.form h0
    have R := RowT.of_owns h.a h0
    refine ⟨_, _, rfl, .inr ⟨g, 0, rfl, R.lt, fun i hi => ?_⟩⟩
    have e : a.getD i ⟨0, 0, 0, []⟩ = a[i] := by simp [List.getD, hi]
    simp only [Nat.zero_add, e]
    exact ⟨R.at_ i hi 0 (by omega), R.at_ i hi 1 (by omega), R.at_ i hi 2 (by omega), R.at_ i hi 3 (by omega)⟩

/-- two tokens compared -/
theorem tok_neq (a b c a' b' c' : Int) (s s' : ByteArray) (w : World) :
    (binOp .neq 44 (.agg #[.int .i64 a, .int .i64 b, .int .i64 c, .string s]) (.agg #[.int .i64 a', .int .i64 b', .int .i64 c', .string s'])).run Tryd.prog w = .ok (.bool (!decide (a = a' ∧ b = b' ∧ c = c' ∧ s = s'))) w := by
  by_cases h1 : a = a'
  · by_cases h2 : b = b'
    · by_cases h3 : c = c'
      · by_cases h4 : s = s'
        · subst h1 h2 h3 h4; simp [go_sem]
        · simp [go_sem, h1, h2, h3, h4]; intro e; exact h4 (by rw [ByteArray.toList_eq, ByteArray.toList_eq] at e; exact ByteArray.ext (Array.toList_inj.1 e))
      · simp [go_sem, h1, h2, h3]
    · simp [go_sem, h1, h2]
  · simp [go_sem, h1]

/-- a token but for its place -/
def bareI (t : TkI) : Int × Int × ByteArray := (t.k, t.n, t.s)

set_option maxRecDepth 100000 in
theorem rSame_any (v1 v2 : Value) (n m : Nat) (z1 z2 : Nat → TkI) (b : Bool) (w : World) (h1 : TokAt w v1 n z1) (h2 : TokAt w v2 m z2) (hn : n ≤ 1000000) (hm : m ≤ 1000000)
    (hb : Hid (b = true ↔ n = m ∧ ∀ i, i < n → bareI (z1 i) = bareI (z2 i))) :
    Calls Tryd.prog 19 #[v1, v2] w fun e w' => e = .returned (.bool b) ∧ Below w.heap.size w w' := by
  obtain ⟨p1, cap1, rfl, h1⟩ := h1
  obtain ⟨p2, cap2, rfl, h2⟩ := h2
  by_cases hnm : n = m
  · subst hnm
    have dn : ((n : Int) != (n : Int)) = false := by simp
    rcases Nat.eq_zero_or_pos n with h0 | h0
    · subst h0
      obtain rfl : b = true := hb.out.2 ⟨rfl, fun i hi => absurd hi (by omega)⟩
      clear h1 h2 hb dn
      go_enter Tryd.func19, Tryd.ntmps19
      go_wp2_with fail
      refine wp_loop_rounds 1 ?_
      rw [rounds_succ]
      go_wp2_with fail
      go_ret
      exact ⟨rfl, Below.refl _ _⟩
    · obtain ⟨g1, o1, rfl, l1, c1⟩ := h1.resolve_left (by omega)
      obtain ⟨g2, o2, rfl, l2, c2⟩ := h2.resolve_left (by omega)
      have C1 := Lib.hid c1
      have C2 := Lib.hid c2
      clear c1 c2 h1 h2 dn
      go_enter Tryd.func19, Tryd.ntmps19
      go_wp2_with fail
      go_loopw [14] (fun I wr => ∃ k : Nat, k ≤ n ∧ I = .int .i64 k ∧ Below w.heap.size w wr ∧ Hid (∀ i, i < k → bareI (z1 i) = bareI (z2 i))) (fun I _ => n - (intOf I).toNat)
      case atStart => exact ⟨0, by omega, rfl, Below.refl _ _, Lib.hid (fun i hi => absurd hi (by omega))⟩
      case round =>
        obtain ⟨k, hk, rfl, hB, HE⟩ := hrel
        by_cases hlt : k < n
        · obtain ⟨x0, x1, x2, x3⟩ := C1.out k hlt
          obtain ⟨y0, y1, y2, y3⟩ := C2.out k hlt
          replace x0 := (hB.cell (p := ⟨g1, _, none⟩) l1).trans x0
          replace x1 := (hB.cell (p := ⟨g1, _, none⟩) l1).trans x1
          replace x2 := (hB.cell (p := ⟨g1, _, none⟩) l1).trans x2
          replace x3 := (hB.cell (p := ⟨g1, _, none⟩) l1).trans x3
          replace y0 := (hB.cell (p := ⟨g2, _, none⟩) l2).trans y0
          replace y1 := (hB.cell (p := ⟨g2, _, none⟩) l2).trans y1
          replace y2 := (hB.cell (p := ⟨g2, _, none⟩) l2).trans y2
          replace y3 := (hB.cell (p := ⟨g2, _, none⟩) l2).trans y3
          have HB1 : Hid (bareI (z1 k) = (( z1 k).k, (z1 k).n, (z1 k).s) ∧ bareI (z2 k) = ((z2 k).k, (z2 k).n, (z2 k).s)) := Lib.hid ⟨rfl, rfl⟩
          generalize (z1 k).k = xk at *
          generalize (z1 k).a = xa at *
          generalize (z1 k).n = xn at *
          generalize (z1 k).s = xs at *
          generalize (z2 k).k = yk at *
          generalize (z2 k).a = ya at *
          generalize (z2 k).n = yn at *
          generalize (z2 k).s = ys at *
          have l1' := Nat.lt_of_lt_of_le l1 hB.size
          have l2' := Nat.lt_of_lt_of_le l2 hB.size
          obtain ⟨d, hd⟩ : ∃ d, (!decide (xk = yk ∧ ya = ya ∧ xn = yn ∧ xs = ys)) = d := ⟨_, rfl⟩
          have hq := fun w => tok_neq xk ya xn yk ya yn xs ys w
          rw [hd] at hq
          cases d with
          | true =>
            have hbf : Hid (b = false) := Lib.hid (by
              cases b with
              | false => rfl
              | true =>
                have := (hb.out.1 rfl).2 k hlt
                rw [HB1.out.1, HB1.out.2] at this
                injection this with t1 t2
                injection t2 with t2 t3
                rw [t1, t2, t3] at hd; simp at hd)
            clear hd HE
            go_wp2_with fail
            go_quiet (fail)
            go_wp2_with fail
            go_ret
            exact ⟨by rw [hbf.out]; rfl, bdrewN (balloc hB _) _⟩
          | false =>
            have HE2 : Hid (∀ i, i < k + 1 → bareI (z1 i) = bareI (z2 i)) := Lib.hid (fun i hi => by
              rcases Nat.lt_or_ge i k with g | g
              · exact HE.out i g
              · obtain rfl : i = k := by omega
                simp at hd
                rw [HB1.out.1, HB1.out.2, hd.1, hd.2.1, hd.2.2])
            clear hd HE
            go_wp2_with fail
            go_quiet (fail)
            go_wp2_with fail
            go_roundw
            case rel => exact ⟨k + 1, by omega, by go_num, bdrewN (balloc hB _) _, HE2⟩
            case measure => simp [intOf]; omega
        · obtain rfl : k = n := by omega
          have hbt : Hid (b = true) := Lib.hid (hb.out.2 ⟨by simp, HE.out⟩)
          clear HE
          go_wp2_with fail
          go_ret
          exact ⟨by rw [hbt.out]; rfl, hB⟩
  · obtain rfl : b = false := by cases b with
      | false => rfl
      | true => exact absurd (hb.out.1 rfl).1 hnm
    have dn : ((n : Int) != (m : Int)) = true := bne_iff_ne.2 (by omega)
    clear h1 h2 hb hnm
    go_enter Tryd.func19, Tryd.ntmps19
    go_wp2_with fail
    go_ret
    exact ⟨rfl, Below.refl _ _⟩

end Go.Proofs.YtjebdoecigmkhaaDoor.Zk
