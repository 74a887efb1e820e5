/- together and Split of package share. -/
import Derived.Test.YtodpmdmfdnbehabOfur
import Derived.Test.YtodpmdmfdnbehabVsum
import Derived.Test.YtodpmdmfdnbehabLmd
import Derived.Test.YtodpmdmfdnbehabSall
namespace Go.Proofs.Ytodpmdmfdnbehab.Sr
set_option linter.unusedSimpArgs false
set_option linter.unusedVariables false
open Go.RowKit Go.Proofs.Ytodpmdmfdnbehab.Vm Go.Proofs.Ytodpmdmfdnbehab.Vc Go.Proofs.Ytodpmdmfdnbehab.Pr Go.Proofs.Ytodpmdmfdnbehab.Rk Go.Proofs.Ytodpmdmfdnbehab.Sm Go.Proofs.Ytodpmdmfdnbehab.Om Go.Proofs.Ytodpmdmfdnbehab.Os

set_option maxHeartbeats 1000000

theorem together_any (A : Option Addr) (n cap : Nat) (zs : List Int) (v er : Int) (w : World) (hn : zs.length = n) (hm2 : (n : Int) ≤ 9223372036854775807) (hf : ∀ z ∈ zs, Fit1 z) (hr : Rd w w.heap.size A zs) (R : AllRes zs v er) :
    Calls Try.prog 12 #[.slice A n cap] w fun e w' => e = .returned (.tuple #[.int .i64 v, .int .i64 er]) ∧ Below w.heap.size w w' := by
  rcases R with ⟨h, rfl, rfl⟩ | ⟨h, ⟨y, hy, y0⟩, rfl, rfl⟩ | ⟨h, hp, R⟩
  · have d1 : decide ((4096 : Int) < (n : Int)) = true := decide_eq_true (by omega)
    clear hf hr hn h
    go_enter Try.func12, Try.ntmps12
    go_wp2
    go_ret2
    exact ⟨rfl, Below.refl _ w⟩
  · have d1 : decide ((4096 : Int) < (n : Int)) = false := decide_eq_false (by omega)
    have HN := Lib.hid hn
    have HR := Lib.hid hr
    have HF := Lib.hid hf
    have HY := Lib.hid (And.intro hy y0)
    clear hf hr hn h hy y0
    go_enter Try.func12, Try.ntmps12
    go_wp2
    go_loop [13] (fun x => ∃ k : Nat, k ≤ n ∧ x = .int .i64 k ∧ Hid (∀ i, i < k → 0 ≤ zs.getD i 0)) (fun x => n - (intOf x).toNat)
    case atStart => exact ⟨0, by omega, rfl, Lib.hid (fun i hi => by omega)⟩
    case round =>
      obtain ⟨k, hk, rfl, hg⟩ := hrel
      by_cases hlt : k < n
      · have hk2 : k < zs.length := by rw [HN.out]; exact hlt
        obtain ⟨b, off, rfl, hb0, hcell⟩ := HR.out.resolve_left (by intro e; rw [e] at hk2; simp at hk2)
        have hc1 := hcell k hk2
        obtain ⟨z, hz⟩ : ∃ s, zs.getD k 0 = s := ⟨_, rfl⟩
        rw [hz] at hc1
        clear hcell
        by_cases z0 : z < 0
        · clear hz hk2
          go_wp2
          go_ret2
          exact ⟨rfl, Below.refl _ w⟩
        · have hg2 : Hid (∀ i, i < k + 1 → 0 ≤ zs.getD i 0) := Lib.hid (fun i hi => by
            by_cases e : i = k
            · subst e; omega
            · exact hg.out i (by omega))
          clear hz hk2 hg
          go_wp2
          go_round
          case rel => exact ⟨k + 1, by omega, by go_num, hg2⟩
          case measure => simp [intOf]; omega
      · exfalso
        obtain ⟨j, hj, e⟩ := List.getElem_of_mem HY.out.1
        have := hg.out j (by have := HN.out; omega)
        rw [show zs.getD j 0 = zs[j] by simp [List.getD, hj], e] at this
        have := HY.out.2
        omega
  · have d1 : decide ((4096 : Int) < (n : Int)) = false := decide_eq_false (by omega)
    obtain ⟨s, es, rs⟩ := res1_ex zs.sum
    have cs := fun w h => Vc.Sum_any A n cap zs s es w hn hm2 hf h rs
    have O : (es ≠ 0 ∧ v = 0 ∧ er = es) ∨ (es = 0 ∧ s = 0 ∧ v = 0 ∧ er = 3) ∨ (es = 0 ∧ s ≠ 0 ∧ v = s ∧ er = 0) := by
      rcases rs with ⟨rfl, rfl, f⟩ | ⟨rfl, rfl, f⟩ <;> rcases R with ⟨g, rfl, rfl⟩ | ⟨g, rfl, rfl⟩ | ⟨g, g2, rfl, rfl⟩
      · exact absurd f g
      · exact .inr (.inl ⟨rfl, g, rfl, rfl⟩)
      · exact .inr (.inr ⟨rfl, by omega, rfl, rfl⟩)
      · exact .inl ⟨by decide, rfl, rfl⟩
      · exact absurd (by rw [g]; unfold Fit1; omega) f
      · exact absurd g2 f
    have HN := Lib.hid hn
    have HR := Lib.hid hr
    have HP := Lib.hid hp
    clear hf hr hn h hp R rs
    go_enter Try.func12, Try.ntmps12
    go_wp2
    go_loop [13] (fun x => ∃ k : Nat, k ≤ n ∧ x = .int .i64 k) (fun x => n - (intOf x).toNat)
    case atStart => exact ⟨0, by omega, rfl⟩
    case round =>
      obtain ⟨k, hk, rfl⟩ := hrel
      by_cases hlt : k < n
      · have hk2 : k < zs.length := by rw [HN.out]; exact hlt
        have z0 := HP.out _ (getD_mem hk2)
        obtain ⟨b, off, rfl, hb0, hcell⟩ := HR.out.resolve_left (by intro e; rw [e] at hk2; simp at hk2)
        have hc1 := hcell k hk2
        obtain ⟨z, hz⟩ : ∃ s, zs.getD k 0 = s := ⟨_, rfl⟩
        rw [hz] at hc1 z0
        clear hcell hz hk2
        go_wp2
        go_round
        case rel => exact ⟨k + 1, by omega, by go_num⟩
        case measure => simp [intOf]; omega
      · go_wp2_with fail
        refine (cs _ HR.out).mono ?_
        rintro e w1 ⟨rfl, hb⟩
        rcases O with ⟨o, rfl, rfl⟩ | ⟨rfl, rfl, rfl, rfl⟩ | ⟨rfl, o, rfl, rfl⟩
        · have q1 : (er != 0) = true := bne_iff_ne.2 o
          clear o
          go_wp2
          go_ret2
          exact ⟨rfl, hb⟩
        · go_wp2
          go_ret2
          exact ⟨rfl, hb⟩
        · have q1 : (v == 0) = false := beq_eq_false_iff_ne.2 o
          clear o
          go_wp2
          go_ret2
          exact ⟨rfl, hb⟩

end Go.Proofs.Ytodpmdmfdnbehab.Sr
