/- A word is put behind the words of the item. -/
import Derived.Test.YtnjmokmlnpehdaaGreatDoorJFy
namespace Go.Proofs.YtnjmokmlnpehdaaGreatDoor.Yp
set_option linter.unusedSimpArgs false
set_option linter.unusedVariables false
open Go.RowKit Go.Proofs.YtnjmokmlnpehdaaGreatDoor.Bn Go.Proofs.YtnjmokmlnpehdaaGreatDoor.Zm Go.Proofs.YtnjmokmlnpehdaaGreatDoor.Ym

set_option maxHeartbeats 8000000
attribute [local go_sem ↓] Go.wp_at_zero Go.wp_at_succ

set_option maxRecDepth 100000 in
theorem word_any (base : Nat) (S : Nat → Prop) (rb tb : Nat) (f : Fr) (top : List Nd) (st : List Fr) (t : Tk) (w : World) (M : RdM w base S rb tb ⟨true, top, f :: st⟩) (hw8 : f.words.length ≤ 8) :
    Calls Tryz.prog 110 #[.pointer (some ⟨rb, 0, none⟩), tokv t] w (RdRes base S rb tb (if f.words.length = 8 then .error 6 else .ok ⟨true, top, { f with words := f.words ++ [wd t] } :: st⟩) w) := by
  obtain ⟨nb, own, B, O⟩ := M
  obtain ⟨vw, vk, b', own', I, C, e⟩ := O.head
  have br := O.rb_
  have bn := O.ob_ nb (by rw [e]; simp)
  obtain ⟨ptr, cap, hv⟩ := row_form I.ww
  have rn : vw.ownBlock ≠ some rb := fun q => O.rn (by rw [e]; simp [mem_ob.2 q])
  have nn : vw.ownBlock ≠ some nb := fun q => by
    have := O.nd
    rw [e] at this
    simp [mem_ob.2 q] at this
  have B1 := balloc (Below.refl w.heap.size w) (.cells #[.int .i64 t.k, .int .i64 t.a, .int .i64 t.n, .string ⟨t.s.toArray⟩] 80)
  have q1 := (B1.cell (p := ⟨rb, 1, none⟩) B.lt).trans B.c1
  have h2 := (B1.cell (p := ⟨nb, 2, none⟩) I.lt).trans I.c2
  have z2 := (B1.frozen (p := ⟨nb, 2, none⟩) I.lt).trans (I.z 2)
  have q1_ := B.c1
  have h2_ := I.c2
  have z2_ := I.z 2
  have K := Box.new w #[.int .i64 t.k, .int .i64 t.a, .int .i64 t.n, .string ⟨t.s.toArray⟩] 80
  obtain ⟨n, hn⟩ : ∃ n : Nat, f.words.length = n := ⟨_, rfl⟩
  have hown := I.ww
  rw [hv] at h2 h2_ rn nn hown
  rw [hn] at h2 h2_ rn nn hown
  have nin : ∀ x, Value.ownBlock (.slice ptr n cap) = some x → base ≤ x ∧ x < w.heap.size := fun x q => row_in hown q
  have FIN : f.words.length ≠ 8 → ∀ (W1 wz : World) (g cap2 : Nat), Below w.heap.size w W1 → W1.grownBy wz (Value.ownBlock (.slice ptr n cap)) →
      wz.ownsRow base 45 4 (.slice (some ⟨g, 0, none⟩) (n + 1) cap2) (n + 1) (wcells f.words ++ [.bool ((t.k : Int) == 2), .int .i64 t.n, .string ⟨t.s.toArray⟩, .int .i64 t.a]) → (Value.ownBlock (.slice ptr n cap) = some g ∨ g = W1.heap.size) →
      RdRes base S rb tb (.ok ⟨true, top, { f with words := f.words ++ [wd t] } :: st⟩) w (.returned (.int .i64 0)) (wz.setCell ⟨nb, 2, none⟩ (.slice (some ⟨g, 0, none⟩) (n + 1) cap2)) := by
    intro h8 W1 wz g cap2 hb hg ho hat
    have bw : base ≤ w.heap.size := by omega
    have tk : ((t.k : Int) == 2) = (t.k == 2) := by
      by_cases c : t.k = 2
      · simp [c]
      · have : ¬ (t.k : Int) = 2 := by omega
        rw [beq_eq_false_iff_ne.2 c, beq_eq_false_iff_ne.2 this]
    rw [tk, ← hn] at ho
    rw [← hn] at hg hat
    rw [← hv] at hg hat
    have nin' : ∀ x, vw.ownBlock = some x → base ≤ x := fun x q => (row_in I.ww q).1
    obtain ⟨own2, O2⟩ := O.word I C e (W2 := wz) (g := g) (n := f.words.length + 1) (cap := cap2) (x := wd t) (Nat.le_trans hb.size hg.size) (fun y hy ne => app_same hb hg ne hy) rfl ho (by
      rcases hat with q | q
      · exact .inl q
      · exact .inr (by rw [q]; exact hb.size)) true
    have sR : wz.heap[rb]? = w.heap[rb]? := app_same hb hg (by rw [hv, hn]; exact rn) br.2
    have sR2 : (wz.setCell ⟨nb, 2, none⟩ (.slice (some ⟨g, 0, none⟩) (n + 1) cap2)).heap[rb]? = w.heap[rb]? := (Below.heap_setCell _ _ _ _ (fun q => O.rn (by rw [e, q]; simp))).trans sR
    have hc : ∀ j, (wz.setCell ⟨nb, 2, none⟩ (.slice (some ⟨g, 0, none⟩) (n + 1) cap2)).cell? ⟨rb, j, none⟩ = w.cell? ⟨rb, j, none⟩ := fun j => World.cell?_of_block (w := w) sR2
    have hz : ∀ j, (wz.setCell ⟨nb, 2, none⟩ (.slice (some ⟨g, 0, none⟩) (n + 1) cap2)).frozen? ⟨rb, j, none⟩ = w.frozen? ⟨rb, j, none⟩ := fun j => by simp only [World.frozen?, sR2]
    refine ⟨S, rfl, (app_below hb hg nin' bw).setCell bn.1 _, fun _ h => h, nb, own2, ⟨?_, (hc 0).trans B.c0, (hc 1).trans B.c1, (hc 2).trans B.c2, fun j => (hz j).trans (B.z j)⟩, by rw [← hn]; exact O2⟩
    have := hg.size
    have := hb.size
    simp
    omega
  have HF := Lib.hid FIN
  have O_rn := O.rn
  clear FIN I O C
  have rl := B.lt
  have nl := bn.2.1
  have rnb : rb ≠ nb := fun q => O_rn (by rw [e, q]; simp)
  clear B bn e
  unfold tokv
  have wa := fun w => wordOf_any t.k t.a t.n ⟨t.s.toArray⟩ w
  by_cases hl : f.words.length = 8
  · rw [if_pos hl]
    have e8 : n = 8 := by omega
    subst e8
    go_enter Tryz.func110, Tryz.ntmps110
    go_wp2
    refine bodyPost_ret (v := .int .i64 6) (by simp [results, Tryz.results110, go_sem]) rfl ⟨rfl, ?_⟩
    exact balloc (Below.refl _ _) _
  · rw [if_neg hl]
    have hn8 : n < 8 := by omega
    have HG := Lib.hid (HF.out hl)
    go_enter Tryz.func110, Tryz.ntmps110
    go_upto_region 3 with fail
    generalize w.alloc (.cells #[.int .i64 t.k, .int .i64 t.a, .int .i64 t.n, .string ⟨t.s.toArray⟩] 80) = W0 at *
    obtain ⟨tl, k0, k1, k2, k3, _⟩ := K.four
    clear K HF
    obtain ⟨j0, hi, hz0, hz1, hz2⟩ := info_parts infoW
    have hB : base ≤ w.heap.size := by omega
    have rl0 := Nat.lt_of_lt_of_le rl B1.size
    have nl0 := Nat.lt_of_lt_of_le nl B1.size
    have tn : Value.ownBlock (.slice ptr n cap) ≠ some w.heap.size := fun q => by have := (nin _ q).2; omega
    have HI : Hid (∀ W, Below W0.heap.size W0 W → W.ownsRow base 45 4 (.slice ptr n cap) n (wcells f.words) ∧ base ≤ W.heap.size) :=
      Lib.hid (fun W h => ⟨row_kept hown (gbelow (bthen B1 h) none) (fun _ _ q => by cases q), by have := (bthen B1 h).size; omega⟩)
    have HR : Hid (∀ (W1 wz : World) (g cap2 : Nat), Below W0.heap.size W0 W1 → _) := Lib.hid (fun W1 wz g cap2 h => HG.out W1 wz g cap2 (bthen B1 h))
    have nr : rb ≠ nb := fun q => rnb q
    have nt : w.heap.size ≠ nb := fun q => by omega
    clear hown HG B1 q1_ h2_ z2_ nin hl hw8 hv hn
    go_region_law (first | (go_simp; go_at_call 119; refine (wa _).mono ?_; rintro e w1 ⟨rfl, hb1⟩; have hB : Below W0.heap.size W0 w1 := (by first | exact bthen (w := W0) ((Below.refl _ _).drew) hb1 | exact hb1); clear hb1; have h21 := (hB.cell (p := ⟨nb, 2, none⟩) nl0).trans h2; have r11 := (hB.cell (p := ⟨rb, 1, none⟩) rl0).trans q1; have rl1 := Nat.lt_of_lt_of_le rl0 hB.size; have nl1 := Nat.lt_of_lt_of_le nl0 hB.size) | (refine step_append_lies _ rfl (.tmp 26) (.tmp 29) 22 rfl base 45 j0 (.agg #[.bool false, .int .i64 0, .string ⟨#[]⟩, .int .i64 0]) 4 40 underW hi hz0 hz1 hz2 rfl (by decide) _ n (wcells f.words) (by simp [Act.eval, Act.put]) (HI.out _ (by repeat (first | exact hB | refine Below.drew ?_ | refine balloc ?_ _))).1 ⟨w1.heap.size, 0, none⟩ 1 1 [.bool ((t.k : Int) == 2), .int .i64 t.n, .string ⟨t.s.toArray⟩, .int .i64 t.a] (by simp [Act.eval, Act.put]) rfl (fun j u hj => by (match j, hj with | 0, hj => simp at hj; subst hj; simp [Addr.add, go_sem] | 1, hj => simp at hj; subst hj; simp [Addr.add, go_sem] | 2, hj => simp at hj; subst hj; simp [Addr.add, go_sem] | 3, hj => simp at hj; subst hj; simp [Addr.add, go_sem])) (by intro u hu; simp at hu; rcases hu with rfl | rfl | rfl | rfl <;> rfl) (by decide) (by unfold maxLen; omega) (by omega) (HI.out _ (by repeat (first | exact hB | refine Below.drew ?_ | refine balloc ?_ _))).2 _ rfl ?_; intro g cap2 wz hown2 hgrow hat _; have sN := app_same (by repeat (first | exact hB | refine Below.drew ?_ | refine balloc ?_ _)) hgrow nn nl0; have sR := app_same (by repeat (first | exact hB | refine Below.drew ?_ | refine balloc ?_ _)) hgrow rn rl0; have h2z := (World.cell?_of_block (a := ⟨nb, 2, none⟩) (w := W0) sN).trans h2; have z2z := (app_frz (j := 2) sN).trans z2; have r1z := (World.cell?_of_block (a := ⟨rb, 1, none⟩) (w := W0) sR).trans q1; have RES := HR.out _ wz g cap2 (by repeat (first | exact hB | refine Below.drew ?_ | refine balloc ?_ _)) hgrow hown2 hat; clear hown2 hgrow hat sN sR))
    all_goals go_wp2
    all_goals exact bodyPost_ret (v := .int .i64 0) (by simp [results, Tryz.results110, go_sem]) rfl RES

end Go.Proofs.YtnjmokmlnpehdaaGreatDoor.Yp
