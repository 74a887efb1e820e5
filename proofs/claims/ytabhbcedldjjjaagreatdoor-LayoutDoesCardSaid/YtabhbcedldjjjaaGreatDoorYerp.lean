/- The reference's Parse of layer 9. -/
import Derived.Test.YtabhbcedldjjjaaGreatDoorYers
import Derived.Test.YtabhbcedldjjjaaGreatDoorYparse
namespace Go.Proofs.YtabhbcedldjjjaaGreatDoor.Ye
set_option linter.unusedSimpArgs false
set_option linter.unusedVariables false
open Go.RowKit Go.Proofs.YtabhbcedldjjjaaGreatDoor.Bn Go.Proofs.YtabhbcedldjjjaaGreatDoor.Zm Go.Proofs.YtabhbcedldjjjaaGreatDoor.Ym Go.Proofs.YtabhbcedldjjjaaGreatDoor.Zk Go.Proofs.YtabhbcedldjjjaaGreatDoor.Yp Go.Proofs.YtabhbcedldjjjaaGreatDoor.Zp Go.Proofs.YtabhbcedldjjjaaGreatDoor.Zr
open Go.Proofs.YtabhbcedldjjjaaGreatDoor.Yg (Blk)

set_option maxHeartbeats 4000000

theorem items_all {A : List Tk} {n : Nat} {tv : Value} (hA : A.length ≤ 8192) (hF : Hid (∀ t ∈ A, Fine t)) : ∀ (d deep : Nat), deep + d = 6 → ItemsC A n tv deep
  | 0, deep, e => items_step A n tv deep (by omega) hA (Lib.hid (fun w rb k at0 t T R hk => item_any A n tv deep (by omega) hA hF (Lib.hid (fun h => absurd h (by omega))) w rb k at0 t T R hk))
  | d + 1, deep, e => items_step A n tv deep (by omega) hA (Lib.hid (fun w rb k at0 t T R hk => item_any A n tv deep (by omega) hA hF (Lib.hid (fun _ => items_all hA hF d (deep + 1) (by omega))) w rb k at0 t T R hk))
/-- the items of a whole text -/
theorem isaid_fin {A : List Tk} {n : Nat} {out : List Nd} {k' at' er' : Nat} (h : ISaid A n 0 0 out k' at' er') : (er' = 0 → fin n (run A Ym.start) = .ok out) ∧ (¬ er' = 0 → fin n (run A Ym.start) = .error (er', at')) := by
  rcases h with ⟨e, h1, _, h2⟩ | ⟨e, h2⟩
  · refine ⟨fun _ => ?_, fun q => absurd e q⟩
    have := h2 [] [] rfl
    rw [h1 rfl, run_past A A.length (Nat.le_refl _), List.drop_zero] at this
    show fin n (run A ⟨false, [], []⟩) = _
    rw [this]
    simp [addK, fin]
  · refine ⟨fun q => absurd q e, fun _ => ?_⟩
    have := h2 [] [] rfl
    rwa [List.drop_zero] at this
theorem isaid_er {A : List Tk} {n : Nat} {R : Except (Nat × Nat) (List Nd)} {out : List Nd} {k' at' er' : Nat} (HR : fin n (run A Ym.start) = R) (h : ISaid A n 0 0 out k' at' er') : (er' = 0 → R = .ok out) ∧ (¬ er' = 0 → R = .error (er', at')) := by
  subst HR
  exact isaid_fin h
theorem parseR_fin {s : ByteArray} {a : List Tk} (h : cutR s = .ok a) : fin s.size (run a Ym.start) = parseR s := by
  rw [parseR_run h]
  cases run a Ym.start <;> rfl

set_option maxRecDepth 100000 in
theorem rParse_any (s : ByteArray) (w : World) (R : Except (Nat × Nat) (List Nd)) (hm : s.size ≤ maxLen) (hR : Hid (parseR s = R)) :
    Calls Tryz.prog 20 #[.string s] w (ParRes R w) := by
  obtain ⟨C, hC⟩ : ∃ C, cutR s = C := ⟨_, rfl⟩
  have cc := fun w => rCut s w C hm (Lib.hid hC)
  cases C with
  | error x =>
    obtain ⟨er, q⟩ := x
    have Y : Hid (R = .error (er, q)) := Lib.hid (by rw [← hR.out, parseR_cut hC])
    have d3 : ((er : Int) != 0) = true := by rcases cut_er hC with rfl | rfl <;> rfl
    clear hC hR
    go_enter Tryz.func20, Tryz.ntmps20
    go_wp2_with fail
    refine (cc _).mono ?_
    rintro e w1 ⟨rfl, hb⟩
    clear cc
    go_wp2_with fail
    refine bodyPost_ret (v := .tuple #[.slice none 0 0, .int .i64 (q : Nat), .int .i64 (er : Nat)]) (by simp [results, Tryz.results20, go_sem]) rfl ?_
    rw [Y.out]; exact ⟨rfl, hb⟩
  | ok a =>
    have HR : Hid (fin s.size (run a Ym.start) = R) := Lib.hid (by rw [← hR.out, parseR_fin hC])
    obtain ⟨hs, hcut⟩ := cutR_ok hC
    obtain ⟨hfine, _, hal⟩ := cut_tokens _ _ _ _ _ (Nat.le_refl _) hcut
    have hal : a.length ≤ 8192 := by omega
    have hF : Hid (∀ t ∈ a, Fine t) := Lib.hid (fun t ht => (hfine t ht).1)
    clear hC hR hcut hfine
    unfold maxLen at hm
    go_enter Tryz.func20, Tryz.ntmps20
    go_wp2_with fail
    refine (cc _).mono ?_
    rintro e w1 ⟨v, rfl, hO⟩
    have T := TokAt.of_own hO
    have hB1 := hO.below
    clear cc hO
    obtain ⟨ptr, cap, rfl, hT⟩ := T
    go_upto_region 5 with fail
    have R2 : RR (w1.alloc (.cells #[.slice ptr a.length cap, .int .i64 0, .int .i64 s.size, .int .i64 0, .int .i64 0] 81)) w1.heap.size (.slice ptr a.length cap) 0 s.size 0 0 :=
      ⟨by simp, by simp [go_sem], by simp [go_sem], by simp [go_sem], by simp [go_sem], by simp [go_sem], fun j => by simp [go_sem]⟩
    have B2 := balloc (Below.refl w1.heap.size w1) (.cells #[.slice ptr a.length cap, .int .i64 0, .int .i64 s.size, .int .i64 0, .int .i64 0] 81)
    have T2 : TokR (w1.alloc (.cells #[.slice ptr a.length cap, .int .i64 0, .int .i64 s.size, .int .i64 0, .int .i64 0] 81)) w1.heap.size (.slice ptr a.length cap) a := by
      refine ⟨ptr, cap, rfl, hT.imp id ?_⟩
      rintro ⟨g, o, e, hg, hc⟩
      refine ⟨g, o, e, Nat.lt_of_lt_of_le hg B2.size, by omega, fun i hi => ?_⟩
      obtain ⟨q0, q1, q2, q3⟩ := hc i hi
      have hgz : (a.getD i ⟨0, 0, 0, []⟩) = a[i] := by simp [List.getD, hi]
      rw [hgz] at q0 q1 q2 q3
      simp only [tkI] at q0 q1 q2 q3
      exact ⟨(B2.cell (p := ⟨g, _, none⟩) hg).trans q0, (B2.cell (p := ⟨g, _, none⟩) hg).trans q1, (B2.cell (p := ⟨g, _, none⟩) hg).trans q2, (B2.cell (p := ⟨g, _, none⟩) hg).trans q3⟩
    have ck : Calls Tryz.prog 32 #[.pointer (some ⟨w1.heap.size, 0, none⟩), .int .i64 0] _ (ItemsP a s.size w1.heap.size _ 0 0 _) := items_all hal hF 6 0 rfl _ _ 0 0 T2 R2 (by omega)
    have hw := hB1.size
    replace B2 := bthen hB1 B2
    clear hT T2 R2 hF
    generalize w1.alloc (.cells #[.slice ptr a.length cap, .int .i64 0, .int .i64 s.size, .int .i64 0, .int .i64 0] 81) = W2 at *
    generalize w1.heap.size = rb at *
    go_wp2_with fail
    refine ck.mono ?_
    rintro y w4 ⟨v, out, S, k', at', er', rfl, hN, hS, g4, R4, hk1, hk2, hI⟩
    clear ck
    obtain ⟨e0, e1⟩ := isaid_er HR.out hI
    have E0 := Lib.hid e0
    have E1 := Lib.hid e1
    have B4 := Rk.below_grown B2 g4 (fun x e => by cases e; exact hw) (Nat.le_refl _)
    have q4 := R4.c4
    have q3 := R4.c3
    have rl := R4.lt
    have HN := Lib.hid hN
    have hz2 := B2.size
    have HS : Hid (∀ b, S b → w.heap.size ≤ b ∧ b < w4.heap.size) := Lib.hid (fun b hb => by
      have := hS b hb
      omega)
    clear e0 e1 hI hN hS g4 R4
    by_cases he : er' = 0
    · have Y := Lib.hid (E0.out he)
      clear E0 E1
      subst he
      replace q4 : w4.cell? ⟨rb, 4, none⟩ = some (.int .i64 0) := by simpa using q4
      go_wp2_with fail
      refine bodyPost_ret (v := .tuple #[v, .int .i64 0, .int .i64 0]) (by simp [results, Tryz.results20, go_sem]) rfl ?_
      rw [Y.out]
      exact ⟨v, S, rfl, B4, HN.out, HS.out⟩
    · have Y := Lib.hid (E1.out he)
      have d3 : ((er' : Int) != 0) = true := by
        have : ((er' : Int) == 0) = false := beq_eq_false_iff_ne.2 (by omega)
        simp [bne, this]
      clear E0 E1
      go_wp2_with fail
      go_quiet (fail)
      go_wp2_with fail
      refine bodyPost_ret (v := .tuple #[.slice none 0 0, .int .i64 (at' : Nat), .int .i64 (er' : Nat)]) (by simp [results, Tryz.results20, go_sem]) rfl ?_
      rw [Y.out]
      exact ⟨rfl, bdrewN B4 _⟩

end Go.Proofs.YtabhbcedldjjjaaGreatDoor.Ye
