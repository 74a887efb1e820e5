/- What Sum of package wide comes to. -/
import Derived.Test.YtodpmdmfdnbehabVdiv
import Derived.Test.YtodpmdmfdnbehabVmath5
import Derived.Deep.RegionLaw
namespace Go.Proofs.Ytodpmdmfdnbehab.Vc
set_option linter.unusedSimpArgs false
set_option linter.unusedVariables false
open Go.RowKit Go.Proofs.Ytodpmdmfdnbehab.Vm
attribute [local go_sem ↓] Go.wp_at_zero Go.wp_at_succ

set_option maxHeartbeats 400000

/-- a slice whose elements are zs, below block B -/
def Rd (w : World) (B : Nat) (A : Option Addr) (zs : List Int) : Prop := zs = [] ∨ ∃ b off, A = some ⟨b, off, none⟩ ∧ b < B ∧ ∀ i, i < zs.length → w.cell? ⟨b, off + i, none⟩ = some (.int .i64 (zs.getD i 0))

theorem plus_to (a0 a1 b0 b1 r0 r1 : Int) (w : World) (h1 : 0 ≤ a0) (h2 : a0 ≤ 18446744073709551615) (h3 : 0 ≤ b0) (h4 : b0 ≤ 18446744073709551615)
    (e0 : Hid ((a0 + b0) % 18446744073709551616 = r0)) (e1 : Hid ((a1 + b1 + (a0 + b0) / 18446744073709551616) % 18446744073709551616 = r1)) :
    Calls Try.prog 47 #[.agg #[.int .u64 a0, .int .u64 a1], .agg #[.int .u64 b0, .int .u64 b1]] w fun e w' =>
      e = .returned (.agg #[.int .u64 r0, .int .u64 r1]) ∧ Below w.heap.size w w' := by
  rw [← e0.out, ← e1.out]; exact plus_any a0 a1 b0 b1 w h1 h2 h3 h4

/-- the world of a round: what was there is as it was, and block g holds the words a0, a1 -/
def SumW (w wr : World) (g : Nat) (a0 a1 : Int) : Prop :=
  Below w.heap.size w wr ∧ w.heap.size ≤ g ∧ g < wr.heap.size ∧ wr.cell? ⟨g, 0, none⟩ = some (.int .u64 a0) ∧ wr.cell? ⟨g, 1, none⟩ = some (.int .u64 a1) ∧ wr.frozen? ⟨g, 0, none⟩ = false ∧ wr.frozen? ⟨g, 1, none⟩ = false

theorem Sum_tells (A : Option Addr) (n cap : Nat) (zs : List Int) (w : World) (hn : zs.length = n) (hm : (n : Int) ≤ 9223372036854775807) (hf : ∀ z ∈ zs, Fit1 z) (hr : Rd w w.heap.size A zs) :
    Calls Try.prog 24 #[.slice A n cap] w (Tells1 zs.sum w) := by
  have HN := Lib.hid hn
  have HF := Lib.hid hf
  have HR := Lib.hid hr
  clear hn hf hr
  go_enter Try.func24, Try.ntmps24
  go_wp2
  go_loopw [10] (fun x10 wr => ∃ (k : Nat) (a0 a1 : Int), k ≤ n ∧ x10 = .int .i64 k ∧ SI zs k a0 a1 ∧ SumW w wr w.heap.size a0 a1) (fun x10 _ => n - (intOf x10).toNat)
  case atStart =>
    refine ⟨0, 0, 0, by omega, rfl, si_start zs, ?_, Nat.le_refl _, by simp, ?_, ?_, ?_, ?_⟩
    · exact (Below.refl _ _).alloc (Nat.le_refl _) _
    all_goals simp [go_sem]
  case round =>
    obtain ⟨k, a0, a1, hk, rfl, si, hb, _, hg, q0, q1, f0, f1⟩ := hrel
    by_cases hlt : k < n
    · have ht : zs ≠ [] := by intro e; have := HN.out; rw [e] at this; simp at this; omega
      obtain ⟨b, off, rfl, hb0, hcell⟩ := HR.out.resolve_left ht
      have hk2 : k < zs.length := by rw [HN.out]; exact hlt
      have hc1 := (hb.cell (p := ⟨b, off + k, none⟩) hb0).trans (hcell k hk2)
      obtain ⟨z, hz⟩ : ∃ s, zs.getD k 0 = s := ⟨_, rfl⟩
      rw [hz] at hc1
      clear hcell
      have fz : Fit1 z := HF.out z (by rw [← hz, show zs.getD k 0 = zs[k] by simp [List.getD, hk2]]; exact List.getElem_mem hk2)
      obtain ⟨h, hh⟩ : ∃ s, z / 9223372036854775808 = s := ⟨_, rfl⟩
      obtain ⟨lo, hlo⟩ : ∃ s, z % 18446744073709551616 = s := ⟨_, rfl⟩
      obtain ⟨m, hmm⟩ : ∃ s, h % 18446744073709551616 = s := ⟨_, rfl⟩
      obtain ⟨r0, hr0⟩ : ∃ s, (a0 + lo) % 18446744073709551616 = s := ⟨_, rfl⟩
      obtain ⟨r1, hr1⟩ : ∃ s, (a1 + m + (a0 + lo) / 18446744073709551616) % 18446744073709551616 = s := ⟨_, rfl⟩
      have sn := si_step hk2 si hz fz hh hlo hmm hr0 hr1
      have b0 : 0 ≤ a0 := si.1
      have b1 : a0 ≤ 18446744073709551615 := si.2.1
      have b2 : 0 ≤ lo := by omega
      have b3 : lo ≤ 18446744073709551615 := by omega
      replace hh := Lib.hid hh
      replace hlo := Lib.hid hlo
      replace hmm := Lib.hid hmm
      replace hr0 := Lib.hid hr0
      replace hr1 := Lib.hid hr1
      replace hz := Lib.hid hz
      clear ht
      go_wp2
      go_region_law (first | (go_simp; go_at_call 49; refine (Of_to _ h lo _ hh hlo).mono ?_; rintro e w1 ⟨rfl, hb1⟩; have q01 := (hb1.cell (p := ⟨w.heap.size, 0, none⟩) hg).trans q0; have q11 := (hb1.cell (p := ⟨w.heap.size, 1, none⟩) hg).trans q1; have f01 := (hb1.frozen (p := ⟨w.heap.size, 0, none⟩) hg).trans f0; have f11 := (hb1.frozen (p := ⟨w.heap.size, 1, none⟩) hg).trans f1; have hg1 := Nat.lt_of_lt_of_le hg hb1.size) | (go_simp; go_at_call 48; refine (wordsOf_to _ _ m _ hmm).mono ?_; rintro e w2 ⟨rfl, hb2⟩; have q02 := (hb2.cell (p := ⟨w.heap.size, 0, none⟩) hg1).trans q01; have q12 := (hb2.cell (p := ⟨w.heap.size, 1, none⟩) hg1).trans q11; have f02 := (hb2.frozen (p := ⟨w.heap.size, 0, none⟩) hg1).trans f01; have f12 := (hb2.frozen (p := ⟨w.heap.size, 1, none⟩) hg1).trans f11; have hg2 := Nat.lt_of_lt_of_le hg1 hb2.size) | (go_simp; go_at_call 47; refine (plus_to _ _ _ _ r0 r1 _ b0 b1 b2 b3 hr0 hr1).mono ?_; rintro e w3 ⟨rfl, hb3⟩; have q03 := (hb3.cell (p := ⟨w.heap.size, 0, none⟩) hg2).trans q02; have q13 := (hb3.cell (p := ⟨w.heap.size, 1, none⟩) hg2).trans q12; have f03 := (hb3.frozen (p := ⟨w.heap.size, 0, none⟩) hg2).trans f02; have f13 := (hb3.frozen (p := ⟨w.heap.size, 1, none⟩) hg2).trans f12; have hg3 := Nat.lt_of_lt_of_le hg2 hb3.size))
      all_goals have bx : Below w.heap.size w w3 := hb.drew.trans ((hb1.mono (Nat.le_of_lt hg)).trans ((hb2.mono (Nat.le_of_lt hg1)).trans (hb3.mono (Nat.le_of_lt hg2))))
      all_goals go_wp2
      all_goals
        go_roundw
        case rel =>
          refine ⟨k + 1, r0, r1, by omega, by go_num, sn, ?_, Nat.le_refl _, ?_, ?_, ?_, ?_, ?_⟩
          · exact (bx.setCell (by simp) _).setCell (by simp) _
          · simp [hg3]
          all_goals simp [go_sem, q03, q13, f03, f13]
        case measure => simp [intOf]; omega
    · obtain rfl : k = n := by omega
      obtain ⟨h, hh⟩ : ∃ s, wrap64 a1 = s := ⟨_, rfl⟩
      have SE := si_end (Nat.le_of_eq HN.out) si HF.out (by rw [HN.out]; exact hm) hh
      replace hh := Lib.hid hh
      go_wp2_with fail
      refine (wide_to _ _ h _ hh).mono ?_
      rintro e w1 ⟨rfl, hb1⟩
      go_wp2_with fail
      refine (Fit_tells _ _ _ SE.2).mono ?_
      rintro e w2 ⟨v, er, rfl, R, hb2⟩
      rw [SE.1] at R
      replace R := Lib.hid R
      clear SE
      go_wp2
      go_ret2
      exact ⟨v, er, rfl, R.out, hb.trans ((hb1.mono (Nat.le_of_lt hg)).trans (hb2.mono (Nat.le_trans (Nat.le_of_lt hg) hb1.size)))⟩

theorem Sum_any (A : Option Addr) (n cap : Nat) (zs : List Int) (v er : Int) (w : World) (hn : zs.length = n) (hm : (n : Int) ≤ 9223372036854775807) (hf : ∀ z ∈ zs, Fit1 z) (hr : Rd w w.heap.size A zs) (R : Res1 zs.sum v er) :
    Calls Try.prog 24 #[.slice A n cap] w fun e w' => e = .returned (.tuple #[.int .i64 v, .int .i64 er]) ∧ Below w.heap.size w w' :=
  (Sum_tells A n cap zs w hn hm hf hr).mono fun e w' ⟨v', er', he, r', hb⟩ => by
    obtain ⟨rfl, rfl⟩ := res1_unique R r'
    exact ⟨he, hb⟩

end Go.Proofs.Ytodpmdmfdnbehab.Vc
