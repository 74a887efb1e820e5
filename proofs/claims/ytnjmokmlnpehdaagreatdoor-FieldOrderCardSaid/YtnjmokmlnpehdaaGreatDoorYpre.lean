/- An item ends. -/
import Derived.Test.YtnjmokmlnpehdaaGreatDoorJFy
namespace Go.Proofs.YtnjmokmlnpehdaaGreatDoor.Yp
set_option linter.unusedSimpArgs false
set_option linter.unusedVariables false
open Go.RowKit Go.Proofs.YtnjmokmlnpehdaaGreatDoor.Bn Go.Proofs.YtnjmokmlnpehdaaGreatDoor.Zm Go.Proofs.YtnjmokmlnpehdaaGreatDoor.Ym

set_option maxHeartbeats 8000000
attribute [local go_sem ↓] Go.wp_at_zero Go.wp_at_succ

section
variable {w W1 W3 : World} {base rb tb nb b' g n cap : Nat} {S : Nat → Prop} {own own' own1 : List Nat} {top : List Nd} {st : List Fr} {f fo : Fr} {go : Bool} {fv vw vk vwo vko outo v' : Value} {xs : List Value}
/-- the item is put behind the kids of the one around it, and the reader begins anew -/
theorem end_fin (hw1 : Below base w W1) (B1 : RdB W1 rb tb b' fv) (O : RdO W1 base 45 25 S rb tb nb own ⟨go, top, f :: st⟩)
    (I : ItB S W1 base 45 25 nb f vw vk (.pointer (some ⟨b', 0, none⟩)) (st.length + 1)) (e : own = nb :: (ob vw ++ ob vk ++ own')) (Co : Out S W1 base 45 25 tb top st b' fo outo own1)
    (Io : ItB S W1 base 45 25 b' fo vwo vko outo st.length) (eo : own' = b' :: (ob vwo ++ ob vko ++ own1)) (x1 : W1.ownsRow base 25 5 vko fo.kids.length xs) (x2 : NCells S W1 xs fo.kids)
    (hb3 : W1.heap.size ≤ W3.heap.size ∧ W3.os = W1.os ∧ W3.tape = W1.tape ∧ W3.output = W1.output) (hsame : ∀ y, y < W1.heap.size → y ≠ b' → vko.ownBlock ≠ some y → W3.heap[y]? = W1.heap[y]?) (hv : v' = .slice (some ⟨g, 0, none⟩) n cap)
    (hcell : ∀ j, W3.cell? ⟨b', j, none⟩ = if j = 4 then some v' else W1.cell? ⟨b', j, none⟩) (hz : ∀ j, W3.frozen? ⟨b', j, none⟩ = false)
    (hw : W3.ownsRow base 25 5 v' (fo.kids.length + 1) (xs ++ [.string ⟨f.name.toArray⟩, .int .i64 f.a, vw, .bool f.block, vk])) (hat : vko.ownBlock = some g ∨ W1.heap.size ≤ g) :
    RdRes base S rb tb (.ok (shut top (f :: st))) w (.returned (.int .i64 0)) (W3.setCell ⟨rb, 2, none⟩ (fnv false rb)) := by
  have bo := O.ob_ b' (by rw [e, eo]; simp)
  have nb_ : rb ≠ b' := fun q => O.rn (by rw [e, eo, ← q]; simp)
  have nr : vko.ownBlock ≠ some rb := fun q => O.rn (by rw [e, eo]; simp [mem_ob.2 q])
  have rl := B1.lt
  have gr : g ≠ rb := by
    rcases hat with q | q
    · exact fun z => nr (z ▸ q)
    · omega
  have sR : W3.heap[rb]? = W1.heap[rb]? := hsame rb rl nb_ nr
  have B3 : RdB W3 rb tb b' fv := by
    have hc : ∀ j, W3.cell? ⟨rb, j, none⟩ = W1.cell? ⟨rb, j, none⟩ := fun j => World.cell?_of_block (w := W1) sR
    have hz : ∀ j, W3.frozen? ⟨rb, j, none⟩ = W1.frozen? ⟨rb, j, none⟩ := fun j => by simp only [World.frozen?, sR]
    exact ⟨by omega, (hc 0).trans B1.c0, (hc 1).trans B1.c1, (hc 2).trans B1.c2, fun j => (hz j).trans (B1.z j)⟩
  have hss : ∀ y, y < W1.heap.size → y ≠ rb → y ≠ b' → vko.ownBlock ≠ some y → (W3.setCell ⟨rb, 2, none⟩ (fnv false rb)).heap[y]? = W1.heap[y]? :=
    fun y hy h1 h2 h3 => (Below.heap_setCell _ _ _ _ h1).trans (hsame y hy h2 h3)
  have sb : (W3.setCell ⟨rb, 2, none⟩ (fnv false rb)).heap[b']? = W3.heap[b']? := Below.heap_setCell _ _ _ _ (Ne.symm nb_)
  obtain ⟨S2, own2, mono, O2⟩ := O.shut (W3 := W3.setCell ⟨rb, 2, none⟩ (fnv false rb)) I e Co Io eo x1 x2 (by simp; exact hb3.1) hss hv
    (fun j => (World.cell?_of_block (w := W3) sb).trans (hcell j)) (fun j => by simp only [World.frozen?, sb]; exact hz j)
    (row_kept hw (gset W3 rb 2 (fnv false rb)) (fun x q z => by rw [hv] at q; have : g = x := by simpa [Value.ownBlock] using q
                                                                cases z; exact gr this)) hat
  have bW : Below base W1 W3 := ⟨hb3.2.1, hb3.2.2.1, hb3.2.2.2, hb3.1, fun k hk => hsame k (by have := O.rb_; omega) (fun q => by omega) (fun q => by have := (row_in x1 q).1; omega)⟩
  refine ⟨S2, rfl, (hw1.trans bW).setCell O.rb_.1 _, mono, b', own2, ?_, O2⟩
  have gF : (shut top (f :: st)).go = false := by cases st <;> rfl
  rw [gF]
  exact B3.take _
end

/-- all of it where only the reader's own block has been written -/
theorem end_mid {w W1 : World} {base rb tb nb b' : Nat} {S : Nat → Prop} {own own' own1 : List Nat} {top : List Nd} {st : List Fr} {f fo : Fr} {go : Bool} {vw vk vwo vko outo : Value} {xs : List Value} (gr : w.grownBy W1 (some rb))
    (O : RdO w base 45 25 S rb tb nb own ⟨go, top, f :: st⟩)
    (I : ItB S w base 45 25 nb f vw vk (.pointer (some ⟨b', 0, none⟩)) (st.length + 1)) (e : own = nb :: (ob vw ++ ob vk ++ own')) (Co : Out S w base 45 25 tb top st b' fo outo own1)
    (Io : ItB S w base 45 25 b' fo vwo vko outo st.length) (eo : own' = b' :: (ob vwo ++ ob vko ++ own1)) (x1 : w.ownsRow base 25 5 vko fo.kids.length xs) (x2 : NCells S w xs fo.kids) :
    RdO W1 base 45 25 S rb tb nb own ⟨go, top, f :: st⟩ ∧ ItB S W1 base 45 25 nb f vw vk (.pointer (some ⟨b', 0, none⟩)) (st.length + 1) ∧ Out S W1 base 45 25 tb top st b' fo outo own1 ∧
    ItB S W1 base 45 25 b' fo vwo vko outo st.length ∧ W1.ownsRow base 25 5 vko fo.kids.length xs ∧ NCells S W1 xs fo.kids := by
  have rn := O.rn
  rw [e, eo] at rn
  simp only [List.mem_cons, List.mem_append, not_or] at rn
  obtain ⟨r1, ⟨r2, r3⟩, r4, ⟨r5, r6⟩, r7⟩ := rn
  have lt : ∀ x, S x → x < w.heap.size := fun x hx => (O.sb x hx).2
  have sy : Stay S w W1 := fun x hx => gr.block x (lt x hx) (fun q => by cases q; exact O.rS hx)
  refine ⟨O.kept gr (fun x q => by cases q; exact ⟨O.rn, O.rS⟩) go, I.kept gr lt (fun r q => by cases q; exact ⟨r1, r2, r3, O.rS⟩), ?_, Io.kept gr lt (fun r q => by cases q; exact ⟨r4, r5, r6, O.rS⟩), row_kept x1 gr (fun x q z => by cases z; exact r6 (mem_ob.2 q)), x2.kept sy⟩
  rcases Co with q | ⟨r, b'', h1, h2, h3⟩
  · exact .inl q
  · exact .inr ⟨r, b'', h1, h2, h3.kept gr lt (fun x q => by cases q; exact O.rS) (fun x q => by cases q; exact r7)⟩

theorem in_text {S : Nat → Prop} {w : World} {base tb b' : Nat} {top : List Nd} {st : List Fr} {f fo : Fr} {outo : Value} {own1 : List Nat} {M : Nat} (Co : Out S w base 45 25 tb top st b' fo outo own1)
    (hk : ∀ x ∈ (shut top (f :: st)).st, x.kids.length ≤ M) (ht : (shut top (f :: st)).top.length ≤ M) : fo.kids.length + 1 ≤ M := by
  rcases Co with ⟨rfl, _, rfl, _⟩ | ⟨r, b'', rfl, _⟩
  · simpa [shut, tf] using ht
  · have := hk { fo with kids := fo.kids ++ [f.nd] } (by simp [shut])
    simpa using this

theorem own_put {W : World} {base size n cap g i : Nat} {e : TypeId} {xs : List Value} (u : Value) (h : W.ownsRow base e size (.slice (some ⟨g, 0, none⟩) n cap) n xs) : (W.setCell ⟨g, i, none⟩ u).ownsRow base e size (.slice (some ⟨g, 0, none⟩) n cap) n (xs.set i u) := by
  obtain ⟨h1, h2⟩ := h
  rcases h2 with ⟨h, _⟩ | ⟨g', cap', cur, hv, hb, hg, hc, hm, hs, ht⟩
  · cases h
  cases hv
  refine ⟨by rw [List.length_set]; exact h1, .inr ⟨g, cap, cur.setIfInBounds i u, rfl, hb, ?_, hc, hm, by simp [hs], ?_⟩⟩
  · obtain ⟨hlt, hk⟩ := Array.getElem?_eq_some_iff.1 hg
    show (W.heap.modify g _)[g]? = _
    rw [Array.getElem?_eq_getElem (by rw [Array.size_modify]; exact hlt), Array.getElem_modify_self, hk]
    rfl
  · rw [Array.toList_setIfInBounds, List.take_set, ht]
theorem set_five (xs : List Value) (m : Nat) (h : xs.length = m) (z0 z1 z2 z3 z4 a0 a1 a2 a3 a4 : Value) :
    (((((xs ++ [z0, z1, z2, z3, z4]).set m a0).set (m + 1) a1).set (m + 2) a2).set (m + 3) a3).set (m + 4) a4 = xs ++ [a0, a1, a2, a3, a4] := by
  subst h
  simp [List.set_append]
/-- five cells of a block are written: all other blocks are as they were -/
theorem five_far (W : World) (g m k : Nat) (a0 a1 a2 a3 a4 : Value) (h : k ≠ g) :
    (((((W.setCell ⟨g, m, none⟩ a0).setCell ⟨g, m + 1, none⟩ a1).setCell ⟨g, m + 2, none⟩ a2).setCell ⟨g, m + 3, none⟩ a3).setCell ⟨g, m + 4, none⟩ a4).heap[k]? = W.heap[k]? :=
  ((Below.heap_setCell _ _ _ _ h).trans (Below.heap_setCell _ _ _ _ h)).trans ((Below.heap_setCell _ _ _ _ h).trans ((Below.heap_setCell _ _ _ _ h).trans (Below.heap_setCell _ _ _ _ h)))
theorem put_os (W : World) (a : Addr) (u : Value) : (W.setCell a u).os = W.os := rfl
theorem put_tape (W : World) (a : Addr) (u : Value) : (W.setCell a u).tape = W.tape := rfl
theorem put_out (W : World) (a : Addr) (u : Value) : (W.setCell a u).output = W.output := rfl
theorem row_end {W : World} {base g n cap : Nat} {E : TypeId} {xs : List Value} {z0 z1 z2 z3 z4 : Value} (h : W.ownsRow base E 5 (.slice (some ⟨g, 0, none⟩) (n + 1) cap) (n + 1) (xs ++ [z0, z1, z2, z3, z4])) :
    (W.cell? ⟨g, n * 5, none⟩ = some z0 ∧ W.cell? ⟨g, n * 5 + 1, none⟩ = some z1 ∧ W.cell? ⟨g, n * 5 + 2, none⟩ = some z2 ∧ W.cell? ⟨g, n * 5 + 3, none⟩ = some z3 ∧ W.cell? ⟨g, n * 5 + 4, none⟩ = some z4) ∧ (∀ j, W.frozen? ⟨g, j, none⟩ = false) ∧ xs.length = n * 5 := by
  have hl : xs.length = n * 5 := by have := h.1; simp at this; omega
  have c : ∀ i, i < 5 → W.cell? ⟨g, n * 5 + i, none⟩ = [z0, z1, z2, z3, z4][i]? := fun i hi => by
    rw [h.cellAt (n * 5 + i) (by omega), List.getElem?_append_right (by omega), hl]
    congr 1
    omega
  exact ⟨⟨c 0 (by omega), c 1 (by omega), c 2 (by omega), c 3 (by omega), c 4 (by omega)⟩, fun j => h.frozenAt j, hl⟩

set_option maxRecDepth 100000 in
theorem end_any (base : Nat) (S : Nat → Prop) (rb tb : Nat) (go : Bool) (f : Fr) (top : List Nd) (st : List Fr) (w : World) (M : RdM w base S rb tb ⟨go, top, f :: st⟩) (hk : ∀ x ∈ (shut top (f :: st)).st, x.kids.length ≤ 100000) (ht : (shut top (f :: st)).top.length ≤ 100000) :
    Calls Tryz.prog 89 #[.pointer (some ⟨rb, 0, none⟩)] w (fun e w' => e = .returned (.tuple #[]) ∧ RdRes base S rb tb (.ok (shut top (f :: st))) w (.returned (.int .i64 0)) w') := by
  obtain ⟨nb, own, B, O⟩ := M
  obtain ⟨vw, vk, b', own', I, C, e⟩ := O.head
  obtain ⟨fo, vwo, vko, outo, own1, xs, Io, eo, x1, x2, Co⟩ := C.outer
  have q1 := B.c1
  have z1 := B.z 1
  have n5 := I.c5
  have hl := B.lt
  have hl' := I.lt
  have hlo := Io.lt
  have M5 := in_text Co hk ht
  have hg : ∀ c : Bool, w.grownBy (((w.setCell ⟨rb, 1, none⟩ (.pointer (some ⟨b', 0, none⟩))).alloc (.cells #[.bool c] 4)).drew) (some rb) := fun c => ((gset w rb 1 _).trans (gbelow (balloc (Below.refl _ _) _) _)).trans (gdrew _ _)
  have MID := fun c => end_mid (hg c) O I e Co Io eo x1 x2
  have HB : ∀ c : Bool, RdB (((w.setCell ⟨rb, 1, none⟩ (.pointer (some ⟨b', 0, none⟩))).alloc (.cells #[.bool c] 4)).drew) rb tb b' (fnv go rb) := fun c => ((B.now b').kept (gbelow (balloc (Below.refl _ _) _) none) (by simp)).kept (gdrew _ none) (by simp)
  have bw := O.rb_
  have HW : ∀ c : Bool, Below base w (((w.setCell ⟨rb, 1, none⟩ (.pointer (some ⟨b', 0, none⟩))).alloc (.cells #[.bool c] 4)).drew) := fun c => (((Below.refl base w).setCell bw.1 _).alloc (by simp; omega) _).drew
  have bo := O.ob_ b' (by rw [e, eo]; simp)
  have on : rb ≠ b' ∧ nb ≠ b' ∧ vko.ownBlock ≠ some b' ∧ vko.ownBlock ≠ some rb := by
    have rn := O.rn
    have nd := O.nd
    rw [e, eo] at rn nd
    simp only [List.mem_cons, List.mem_append, not_or, List.nodup_cons] at rn nd
    exact ⟨rn.2.2.1, fun q => nd.1.2.1 q, fun q => by
      have := nd.2
      rw [List.nodup_append] at this
      have := this.2.1
      simp only [List.nodup_cons, List.mem_append, not_or] at this
      exact this.1.1.2 (mem_ob.2 q), fun q => rn.2.2.2.1.2 (mem_ob.2 q)⟩
  have HM := Lib.hid MID
  have HHB := Lib.hid HB
  have HHW := Lib.hid HW
  clear MID HB HW hg hk ht x2 O C
  have HCo := Lib.hid Co
  clear Co I Io x1
  go_enter Tryz.func89, Tryz.ntmps89
  go_upto_region 2 with fail
  go_region
  · obtain ⟨O, I, Co, Io, x1, x2⟩ := HM.out false
    have B := HHB.out false
    have HW := HHW.out false
    clear HM HHB HHW HCo q1 z1 n5 hl hl' hlo
    generalize ((w.setCell ⟨rb, 1, none⟩ (.pointer (some ⟨b', 0, none⟩))).alloc (.cells #[.bool false] 4)).drew = W1 at *
    obtain ⟨pw, cw, rfl⟩ := row_form I.ww
    obtain ⟨ys, I5, I6⟩ := I.kk
    obtain ⟨pk, ck, rfl⟩ := row_form I5
    obtain ⟨po, co, hvo⟩ := row_form x1
    subst hvo
    clear I5 I6 ys
    have HR : Hid (∀ (W2 wz : World) (g cap2 : Nat), Below W1.heap.size W1 W2 → W2.grownBy wz (Value.ownBlock (.slice po fo.kids.length co)) →
        wz.ownsRow base 25 5 (.slice (some ⟨g, 0, none⟩) (fo.kids.length + 1) cap2) (fo.kids.length + 1) (xs ++ [.string ⟨f.name.toArray⟩, .int .i64 f.a, .slice pw f.words.length cw, .bool f.block, .slice pk f.kids.length ck]) → (Value.ownBlock (.slice po fo.kids.length co) = some g ∨ g = W2.heap.size) →
        RdRes base S rb tb (.ok (shut top (f :: st))) w (.returned (.int .i64 0)) ((wz.setCell ⟨b', 4, none⟩ (.slice (some ⟨g, 0, none⟩) (fo.kids.length + 1) cap2)).setCell ⟨rb, 2, none⟩ (fnv false rb))) := by
      refine Lib.hid (fun W2 wz g cap2 hb hgr hown hat => ?_)
      have ol := Io.lt
      have sO := app_same hb hgr on.2.2.1 ol
      have gb : g ≠ b' := by
        rcases hat with q | q
        · exact fun z => on.2.2.1 (z ▸ q)
        · have := hb.size; omega
      have hc : ∀ j, wz.cell? ⟨b', j, none⟩ = W1.cell? ⟨b', j, none⟩ := fun j => World.cell?_of_block (w := W1) sO
      have hz : ∀ j, wz.frozen? ⟨b', j, none⟩ = W1.frozen? ⟨b', j, none⟩ := fun j => app_frz sO
      refine end_fin HW B O I e Co Io eo x1 x2 ⟨?_, ?_, ?_, ?_⟩ (fun y hy h1 h2 => (Below.heap_setCell _ _ _ _ h1).trans (app_same hb hgr h2 hy)) rfl (fun j => ?_) (fun j => ?_) (row_kept hown (gset wz b' 4 _) (fun x q z => ?_)) ?_
      · simp; exact Nat.le_trans hb.size hgr.size
      · exact hgr.os.trans hb.os
      · exact hgr.tape.trans hb.tape
      · exact hgr.output.trans hb.output
      · by_cases j4 : j = 4
        · subst j4
          have := Io.c4
          rw [← hc 4] at this
          simp [go_sem, this]
        · rw [if_neg j4, ← hc j]
          have j4' : ¬ (4 = j) := fun q => j4 q.symm
          simp [go_sem, j4, j4']
      · have := Io.z j
        rw [← hz j] at this
        simp [go_sem, this]
      · have : g = x := by simpa [Value.ownBlock] using q
        cases z
        exact gb this
      · rcases hat with q | q
        · exact .inl q
        · exact .inr (by rw [q]; exact hb.size)
    have HI : Hid (∀ W, Below W1.heap.size W1 W → W.ownsRow base 25 5 (.slice po fo.kids.length co) fo.kids.length xs ∧ base ≤ W.heap.size) :=
      Lib.hid (fun W h => ⟨row_kept x1 (gbelow h none) (fun _ _ q => by cases q), by have := h.size; have := B.lt; omega⟩)
    have r1 := B.c1
    obtain ⟨kf, r2⟩ : ∃ kf, W1.cell? ⟨rb, 2, none⟩ = some (.func (.func kf) #[.pointer (some ⟨rb, 0, none⟩)] #[]) := ⟨_, B.c2⟩
    have zr := B.z 2
    have n0 := I.c0
    have n1 := I.c1
    have n2 := I.c2
    have n3 := I.c3
    have n4 := I.c4
    have k4 := Io.c4
    have zk := Io.z 4
    have rl := B.lt
    have nl := I.lt
    have ol := Io.lt
    have oB := on.2.2.1
    have oR := on.2.2.2
    have o1 := on.1
    have o2 := on.2.1
    clear B I Io Co O HW x1 x2 on bo bw e eo
    generalize fo.kids.length = n at *
    generalize f.words.length = nw at *
    generalize f.kids.length = nk at *
    obtain ⟨j0, hi, hz0, hz1, hz2⟩ := info_parts infoI
    go_wp2_with fail
    go_region_law (refine step_append_lies _ rfl (.tmp 46) (.tmp 51) 23 rfl base 25 j0 (.agg #[.string ⟨#[]⟩, .int .i64 0, .slice none 0 0, .bool false, .slice none 0 0]) 5 80 underI hi hz0 hz1 hz2 rfl (by decide) _ n xs (by simp [Act.eval, Act.put]) (HI.out _ (by repeat (first | (with_reducible exact Below.refl _ _) | (with_reducible refine Below.drew ?_) | (with_reducible refine balloc ?_ _)))).1 ⟨W1.heap.size, 0, none⟩ 1 1 [.string ⟨f.name.toArray⟩, .int .i64 f.a, .slice pw nw cw, .bool f.block, .slice pk nk ck] (by simp [Act.eval, Act.put]) rfl (fun j u hj => by (match j, hj with | 0, hj => simp at hj; subst hj; simp [Addr.add, go_sem] | 1, hj => simp at hj; subst hj; simp [Addr.add, go_sem] | 2, hj => simp at hj; subst hj; simp [Addr.add, go_sem] | 3, hj => simp at hj; subst hj; simp [Addr.add, go_sem] | 4, hj => simp at hj; subst hj; simp [Addr.add, go_sem])) (by intro u hu; simp at hu; rcases hu with rfl | rfl | rfl | rfl | rfl <;> rfl) (by decide) (by unfold maxLen; omega) (by omega) (HI.out _ (by repeat (first | (with_reducible exact Below.refl _ _) | (with_reducible refine Below.drew ?_) | (with_reducible refine balloc ?_ _)))).2 _ rfl ?_; intro g cap2 wz hown2 hgrow hat _; have sN := app_same (by repeat (first | (with_reducible exact Below.refl _ _) | (with_reducible refine Below.drew ?_) | (with_reducible refine balloc ?_ _))) hgrow oB ol; have sR := app_same (by repeat (first | (with_reducible exact Below.refl _ _) | (with_reducible refine Below.drew ?_) | (with_reducible refine balloc ?_ _))) hgrow oR rl; have h4z := (World.cell?_of_block (a := ⟨b', 4, none⟩) (w := W1) sN).trans k4; have z4z := (app_frz (j := 4) sN).trans zk; have r1z := (World.cell?_of_block (a := ⟨rb, 1, none⟩) (w := W1) sR).trans r1; have r2z := (World.cell?_of_block (a := ⟨rb, 2, none⟩) (w := W1) sR).trans r2; have zrz := (app_frz (j := 2) sR).trans zr; have RES := HR.out _ wz g cap2 (by repeat (first | (with_reducible exact Below.refl _ _) | (with_reducible refine Below.drew ?_) | (with_reducible refine balloc ?_ _))) hgrow hown2 hat; clear hown2 hgrow hat sN sR)
    all_goals go_wp2
    all_goals exact bodyPost_end (v := .tuple #[]) (by simp [results, Tryz.results89, go_sem]) rfl ⟨rfl, RES⟩
  · obtain ⟨O, I, Co, Io, x1, x2⟩ := HM.out true
    have B := HHB.out true
    have HW := HHW.out true
    clear HM HHB HHW HCo q1 z1 n5 hl hl' hlo
    generalize ((w.setCell ⟨rb, 1, none⟩ (.pointer (some ⟨b', 0, none⟩))).alloc (.cells #[.bool true] 4)).drew = W1 at *
    obtain ⟨pw, cw, rfl⟩ := row_form I.ww
    obtain ⟨ys, I5, I6⟩ := I.kk
    obtain ⟨pk, ck, rfl⟩ := row_form I5
    obtain ⟨po, co, hvo⟩ := row_form x1
    subst hvo
    clear I5 I6 ys
    have HT : Hid (∀ (W2 wz : World) (g cap2 : Nat), Below W1.heap.size W1 W2 → W2.grownBy wz (Value.ownBlock (.slice po fo.kids.length co)) →
        wz.ownsRow base 25 5 (.slice (some ⟨g, 0, none⟩) (fo.kids.length + 1) cap2) (fo.kids.length + 1) (xs ++ [.string ⟨#[]⟩, .int .i64 0, .slice none 0 0, .bool false, .slice none 0 0]) → (Value.ownBlock (.slice po fo.kids.length co) = some g ∨ g = W2.heap.size) →
        g ≠ b' ∧ g ≠ rb ∧ RdRes base S rb tb (.ok (shut top (f :: st))) w (.returned (.int .i64 0)) ((((((((wz.setCell ⟨b', 4, none⟩ (.slice (some ⟨g, 0, none⟩) (fo.kids.length + 1) cap2)).setCell ⟨g, fo.kids.length * 5, none⟩ (.string ⟨f.name.toArray⟩)).setCell ⟨g, fo.kids.length * 5 + 1, none⟩ (.int .i64 f.a)).setCell ⟨g, fo.kids.length * 5 + 2, none⟩ (.slice pw f.words.length cw)).setCell ⟨g, fo.kids.length * 5 + 3, none⟩ (.bool f.block)).setCell ⟨g, fo.kids.length * 5 + 4, none⟩ (.slice pk f.kids.length ck))).setCell ⟨rb, 2, none⟩ (fnv false rb))) := by
      refine Lib.hid (fun W2 wz g cap2 hb hgr hown hat => ?_)
      have ol := Io.lt
      have sO := app_same hb hgr on.2.2.1 ol
      have gb : g ≠ b' := by
        rcases hat with q | q
        · exact fun z => on.2.2.1 (z ▸ q)
        · have := hb.size; omega
      have gr : g ≠ rb := by
        rcases hat with q | q
        · exact fun z => on.2.2.2 (z ▸ q)
        · have := hb.size; have := B.lt; omega
      refine ⟨gb, gr, ?_⟩
      have hc : ∀ j, wz.cell? ⟨b', j, none⟩ = W1.cell? ⟨b', j, none⟩ := fun j => World.cell?_of_block (w := W1) sO
      have hz : ∀ j, wz.frozen? ⟨b', j, none⟩ = W1.frozen? ⟨b', j, none⟩ := fun j => app_frz sO
      have hl := (row_end hown).2.2
      obtain ⟨W4, h4⟩ : ∃ W4, W4 = wz.setCell ⟨b', 4, none⟩ (.slice (some ⟨g, 0, none⟩) (fo.kids.length + 1) cap2) := ⟨_, rfl⟩
      obtain ⟨W3, h3⟩ : ∃ W3, W3 = ((((((wz.setCell ⟨b', 4, none⟩ (.slice (some ⟨g, 0, none⟩) (fo.kids.length + 1) cap2)).setCell ⟨g, fo.kids.length * 5, none⟩ (.string ⟨f.name.toArray⟩)).setCell ⟨g, fo.kids.length * 5 + 1, none⟩ (.int .i64 f.a)).setCell ⟨g, fo.kids.length * 5 + 2, none⟩ (.slice pw f.words.length cw)).setCell ⟨g, fo.kids.length * 5 + 3, none⟩ (.bool f.block)).setCell ⟨g, fo.kids.length * 5 + 4, none⟩ (.slice pk f.kids.length ck)) := ⟨_, rfl⟩
      have r4 : W4.ownsRow base 25 5 (.slice (some ⟨g, 0, none⟩) (fo.kids.length + 1) cap2) (fo.kids.length + 1) (xs ++ [.string ⟨#[]⟩, .int .i64 0, .slice none 0 0, .bool false, .slice none 0 0]) := by
        rw [h4]
        exact row_kept hown (gset wz b' 4 _) (fun x q z => by
          have : g = x := by simpa [Value.ownBlock] using q
          cases z
          exact gb this)
      have far : ∀ k, k ≠ g → W3.heap[k]? = W4.heap[k]? := fun k h => by
        rw [h3, h4]
        exact five_far _ g _ k _ _ _ _ _ h
      have hrow : W3.ownsRow base 25 5 (.slice (some ⟨g, 0, none⟩) (fo.kids.length + 1) cap2) (fo.kids.length + 1) (xs ++ [.string ⟨f.name.toArray⟩, .int .i64 f.a, .slice pw f.words.length cw, .bool f.block, .slice pk f.kids.length ck]) := by
        have p := own_put (i := fo.kids.length * 5 + 4) (.slice pk f.kids.length ck) (own_put (i := fo.kids.length * 5 + 3) (.bool f.block) (own_put (i := fo.kids.length * 5 + 2) (.slice pw f.words.length cw) (own_put (i := fo.kids.length * 5 + 1) (.int .i64 f.a) (own_put (i := fo.kids.length * 5) (.string ⟨f.name.toArray⟩) r4))))
        rw [set_five xs (fo.kids.length * 5) hl] at p
        rw [h3, ← h4]
        exact p
      have hsz : W3.heap.size = wz.heap.size := by rw [h3]; simp
      have hos : W3.os = wz.os ∧ W3.tape = wz.tape ∧ W3.output = wz.output := by rw [h3]; simp only [put_os, put_tape, put_out, and_self]
      have sb4 : ∀ j, W4.cell? ⟨b', j, none⟩ = (if j = 4 then some (.slice (some ⟨g, 0, none⟩) (fo.kids.length + 1) cap2) else W1.cell? ⟨b', j, none⟩) := fun j => by
        rw [h4]
        by_cases j4 : j = 4
        · subst j4
          have := Io.c4
          rw [← hc 4] at this
          simp [go_sem, this]
        · rw [if_neg j4, ← hc j]
          have j4' : ¬ (4 = j) := fun q => j4 q.symm
          simp [go_sem, j4, j4']
      have sz4 : ∀ j, W4.frozen? ⟨b', j, none⟩ = false := fun j => by
        rw [h4]
        have := Io.z j
        rw [← hz j] at this
        simp [go_sem, this]
      have same4 : ∀ y, y ≠ b' → W4.heap[y]? = wz.heap[y]? := fun y h => by rw [h4]; exact Below.heap_setCell _ _ _ _ h
      rw [← h3]
      clear h3 h4 r4 hown
      refine end_fin HW B O I e Co Io eo x1 x2 ⟨?_, ?_, ?_, ?_⟩ (fun y hy h1 h2 => (far y (fun q => ?_)).trans ((same4 y h1).trans (app_same hb hgr h2 hy))) rfl (fun j => ?_) (fun j => ?_) hrow ?_
      · rw [hsz]; exact Nat.le_trans hb.size hgr.size
      · exact hos.1.trans (hgr.os.trans hb.os)
      · exact hos.2.1.trans (hgr.tape.trans hb.tape)
      · exact hos.2.2.trans (hgr.output.trans hb.output)
      · rcases hat with z | z
        · exact h2 (q ▸ z)
        · have := hb.size; omega
      · have := World.cell?_of_block (a := ⟨b', j, none⟩) (w := W4) (far b' (Ne.symm gb))
        exact this.trans (sb4 j)
      · have := app_frz (j := j) (far b' (Ne.symm gb))
        exact this.trans (sz4 j)
      · rcases hat with q | q
        · exact .inl q
        · exact .inr (by rw [q]; exact hb.size)
    have HI : Hid (∀ W, Below W1.heap.size W1 W → W.ownsRow base 25 5 (.slice po fo.kids.length co) fo.kids.length xs ∧ base ≤ W.heap.size) :=
      Lib.hid (fun W h => ⟨row_kept x1 (gbelow h none) (fun _ _ q => by cases q), by have := h.size; have := B.lt; omega⟩)
    have r1 := B.c1
    obtain ⟨kf, r2⟩ : ∃ kf, W1.cell? ⟨rb, 2, none⟩ = some (.func (.func kf) #[.pointer (some ⟨rb, 0, none⟩)] #[]) := ⟨_, B.c2⟩
    have zr := B.z 2
    have n0 := I.c0
    have n1 := I.c1
    have n2 := I.c2
    have n3 := I.c3
    have n4 := I.c4
    have k4 := Io.c4
    have zk := Io.z 4
    have rl := B.lt
    have nl := I.lt
    have ol := Io.lt
    have oB := on.2.2.1
    have oR := on.2.2.2
    have o1 := on.1
    have o2 := on.2.1
    clear B I Io Co O HW x1 x2 on bo bw e eo
    generalize fo.kids.length = n at *
    generalize f.words.length = nw at *
    generalize f.kids.length = nk at *
    obtain ⟨j0, hi, hz0, hz1, hz2⟩ := info_parts infoI
    go_wp2_with fail
    go_region_law (refine step_append_lies _ rfl (.tmp 23) (.tmp 29) 23 rfl base 25 j0 (.agg #[.string ⟨#[]⟩, .int .i64 0, .slice none 0 0, .bool false, .slice none 0 0]) 5 80 underI hi hz0 hz1 hz2 rfl (by decide) _ n xs (by simp [Act.eval, Act.put]) (HI.out _ (by repeat (first | (with_reducible exact Below.refl _ _) | (with_reducible refine Below.drew ?_) | (with_reducible refine balloc ?_ _)))).1 ⟨W1.heap.size, 0, none⟩ 1 1 [.string ⟨#[]⟩, .int .i64 0, .slice none 0 0, .bool false, .slice none 0 0] (by simp [Act.eval, Act.put]) rfl (fun j u hj => by (match j, hj with | 0, hj => simp at hj; subst hj; simp [Addr.add, go_sem] | 1, hj => simp at hj; subst hj; simp [Addr.add, go_sem] | 2, hj => simp at hj; subst hj; simp [Addr.add, go_sem] | 3, hj => simp at hj; subst hj; simp [Addr.add, go_sem] | 4, hj => simp at hj; subst hj; simp [Addr.add, go_sem])) (by intro u hu; simp at hu; rcases hu with rfl | rfl | rfl | rfl | rfl <;> rfl) (by decide) (by unfold maxLen; omega) (by omega) (HI.out _ (by repeat (first | (with_reducible exact Below.refl _ _) | (with_reducible refine Below.drew ?_) | (with_reducible refine balloc ?_ _)))).2 _ rfl ?_; intro g cap2 wz hown2 hgrow hat _; have sN := app_same (by repeat (first | (with_reducible exact Below.refl _ _) | (with_reducible refine Below.drew ?_) | (with_reducible refine balloc ?_ _))) hgrow oB ol; have sR := app_same (by repeat (first | (with_reducible exact Below.refl _ _) | (with_reducible refine Below.drew ?_) | (with_reducible refine balloc ?_ _))) hgrow oR rl; have h4z := (World.cell?_of_block (a := ⟨b', 4, none⟩) (w := W1) sN).trans k4; have z4z := (app_frz (j := 4) sN).trans zk; have r1z := (World.cell?_of_block (a := ⟨rb, 1, none⟩) (w := W1) sR).trans r1; have r2z := (World.cell?_of_block (a := ⟨rb, 2, none⟩) (w := W1) sR).trans r2; have zrz := (app_frz (j := 2) sR).trans zr; obtain ⟨gb, gr, RES⟩ := HT.out _ wz g cap2 (by repeat (first | (with_reducible exact Below.refl _ _) | (with_reducible refine Below.drew ?_) | (with_reducible refine balloc ?_ _))) hgrow hown2 hat; obtain ⟨⟨e0, e1, e2, e3, e4⟩, ef, _⟩ := row_end hown2; clear hown2 hgrow hat sN sR)
    all_goals go_wp2
    all_goals exact bodyPost_end (v := .tuple #[]) (by simp [results, Tryz.results89, go_sem]) rfl ⟨rfl, RES⟩

end Go.Proofs.YtnjmokmlnpehdaaGreatDoor.Yp
