/- What Sum of the reference of layer 2 comes to, of at most 300 numbers. -/
import Derived.Test.YtbpnfkhoajlffaaRadd
import Derived.Test.YtbpnfkhoajlffaaRfit
import Derived.Test.YtbpnfkhoajlffaaVsum
import Derived.Deep.RegionLaw
namespace Go.Proofs.Ytbpnfkhoajlffaa.Vr
open Go.RowKit Go.Proofs.Ytbpnfkhoajlffaa.Vm Go.Proofs.Ytbpnfkhoajlffaa.Vc Go.Proofs.Ytbpnfkhoajlffaa.Vl
attribute [local go_sem ↓] Go.wp_at_zero Go.wp_at_succ

set_option maxHeartbeats 1000000

/-- the world of a round: what was there is as it was, and block g holds the words h, l -/
def RSumW (w wr : World) (g : Nat) (h l : Int) : Prop :=
  Below w.heap.size w wr ∧ w.heap.size ≤ g ∧ g < wr.heap.size ∧ wr.cell? ⟨g, 0, none⟩ = some (.int .i64 h) ∧ wr.cell? ⟨g, 1, none⟩ = some (.int .u64 l) ∧ wr.frozen? ⟨g, 0, none⟩ = false ∧ wr.frozen? ⟨g, 1, none⟩ = false

theorem take_bound (zs : List Int) (k : Nat) (hf : ∀ z ∈ zs, Fit1 z) (hk : k ≤ 300) : -(300 * 9223372036854775808 : Int) ≤ (zs.take k).sum ∧ (zs.take k).sum ≤ 300 * 9223372036854775808 := by
  have h := sum_bound (zs.take k) (fun z hz => hf z (List.mem_of_mem_take hz))
  have hl : (zs.take k).length ≤ k := List.length_take_le _ _
  omega

theorem rSum_tells (A : Option Addr) (n cap : Nat) (zs : List Int) (w : World) (hn : zs.length = n) (hm : n ≤ 300) (hf : ∀ z ∈ zs, Fit1 z) (hr : Rd w w.heap.size A zs) :
    Calls Try.prog 29 #[.slice A n cap] w (Tells1 zs.sum w) := by
  have HN := Lib.hid hn
  have HF := Lib.hid hf
  have HR := Lib.hid hr
  clear hn hf hr
  go_enter Try.func29, Try.ntmps29
  go_wp2
  go_loopw [10] (fun x10 wr => ∃ (k : Nat) (h l : Int), k ≤ n ∧ x10 = .int .i64 k ∧ num h l = (zs.take k).sum ∧ Bd h l ∧ RSumW w wr w.heap.size h l) (fun x10 _ => n - (intOf x10).toNat)
  case atStart =>
    refine ⟨0, 0, 0, by omega, rfl, by simp [num], by unfold Bd; omega, ?_, Nat.le_refl _, by simp, ?_, ?_, ?_, ?_⟩
    · exact (Below.refl _ _).alloc (Nat.le_refl _) _
    all_goals simp [go_sem]
  case round =>
    obtain ⟨k, h, l, hk, rfl, hs, bd, hb, _, hg, q0, q1, f0, f1⟩ := hrel
    by_cases hlt : k < n
    · have ht : zs ≠ [] := by intro e; have := HN.out; rw [e] at this; simp at this; omega
      obtain ⟨b, off, rfl, hb0, hcell⟩ := HR.out.resolve_left ht
      have hk2 : k < zs.length := by rw [HN.out]; exact hlt
      have hc1 := (hb.cell (p := ⟨b, off + k, none⟩) hb0).trans (hcell k hk2)
      obtain ⟨z, hz⟩ : ∃ s, zs.getD k 0 = s := ⟨_, rfl⟩
      rw [hz] at hc1
      clear hcell
      have fz : Fit1 z := HF.out z (by rw [← hz, show zs.getD k 0 = zs[k] by simp [List.getD, hk2]]; exact List.getElem_mem hk2)
      obtain ⟨ho, lo, no, bo⟩ := words_ex (x := z) (by unfold Fits; unfold Fit1 at fz; omega)
      have tb := take_bound zs k HF.out (by omega)
      have ts := take_sum zs k hk2
      rw [hz] at ts
      obtain ⟨h', l', n', b'⟩ := words_ex (x := (zs.take k).sum + z) (by unfold Fits; unfold Fit1 at fz; omega)
      have co := fun w => rOf_to z ho lo w fz no bo
      have ca := fun w => rAdd_any h l ho lo h' l' 0 w bd bo (Or.inl ⟨rfl, by rw [hs, no]; exact n', b'⟩)
      have HS := Lib.hid (n'.trans ts.symm)
      replace b' := Lib.hid b'
      clear ht no bo tb ts n' hs bd hz fz
      go_wp2
      go_region_law (first | (go_simp; go_at_call 27; refine (co _).mono ?_; rintro e w1 ⟨rfl, hb1⟩; have q01 := (hb1.cell (p := ⟨w.heap.size, 0, none⟩) hg).trans q0; have q11 := (hb1.cell (p := ⟨w.heap.size, 1, none⟩) hg).trans q1; have f01 := (hb1.frozen (p := ⟨w.heap.size, 0, none⟩) hg).trans f0; have f11 := (hb1.frozen (p := ⟨w.heap.size, 1, none⟩) hg).trans f1; have hg1 := Nat.lt_of_lt_of_le hg hb1.size) | (go_simp; go_at_call 13; refine (ca _).mono ?_; rintro e w2 ⟨rfl, hb2⟩; have q02 := (hb2.cell (p := ⟨w.heap.size, 0, none⟩) hg1).trans q01; have q12 := (hb2.cell (p := ⟨w.heap.size, 1, none⟩) hg1).trans q11; have f02 := (hb2.frozen (p := ⟨w.heap.size, 0, none⟩) hg1).trans f01; have f12 := (hb2.frozen (p := ⟨w.heap.size, 1, none⟩) hg1).trans f11; have hg2 := Nat.lt_of_lt_of_le hg1 hb2.size))
      all_goals have bx : Below w.heap.size w w2 := hb.drew.trans ((hb1.mono (Nat.le_of_lt hg)).trans (hb2.mono (Nat.le_of_lt hg1)))
      all_goals go_wp2
      all_goals
        go_roundw
        case rel =>
          refine ⟨k + 1, h', l', by omega, by go_num, HS.out, b'.out, ?_, Nat.le_refl _, ?_, ?_, ?_, ?_, ?_⟩
          · exact (bx.setCell (by simp) _).setCell (by simp) _
          · simp [hg2]
          all_goals simp [go_sem, q02, q12, f02, f12]
        case measure => simp [intOf]; omega
    · obtain rfl : k = n := by omega
      have es : num h l = zs.sum := by rw [hs, List.take_of_length_le (by rw [HN.out]; omega)]
      have cf := fun w => rFit_tells h l w bd
      rw [es] at cf
      clear es hs bd
      go_wp2_with fail
      refine (cf _).mono ?_
      rintro e w2 ⟨v, er, rfl, R, hb2⟩
      replace R := Lib.hid R
      go_wp2
      go_ret2
      exact ⟨v, er, rfl, R.out, hb.trans (hb2.mono (Nat.le_of_lt hg))⟩

theorem rSum_any (A : Option Addr) (n cap : Nat) (zs : List Int) (v er : Int) (w : World) (hn : zs.length = n) (hm : n ≤ 300) (hf : ∀ z ∈ zs, Fit1 z) (hr : Rd w w.heap.size A zs) (R : Res1 zs.sum v er) :
    Calls Try.prog 29 #[.slice A n cap] w fun e w' => e = .returned (.tuple #[.int .i64 v, .int .i64 er]) ∧ Below w.heap.size w w' :=
  (rSum_tells A n cap zs w hn hm hf hr).mono fun e w' ⟨v', er', he, r', hb⟩ => by
    obtain ⟨rfl, rfl⟩ := res1_unique R r'
    exact ⟨he, hb⟩

end Go.Proofs.Ytbpnfkhoajlffaa.Vr
