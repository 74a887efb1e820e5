/- The reference's item. -/
import Derived.Test.YtabhbcedldjjjaaGreatDoorYerd
import Derived.Test.YtabhbcedldjjjaaGreatDoorYput
import Derived.Test.YtabhbcedldjjjaaGreatDoorYprd
namespace Go.Proofs.YtabhbcedldjjjaaGreatDoor.Ye
set_option linter.unusedSimpArgs false
set_option linter.unusedVariables false
open Go.RowKit Go.Proofs.YtabhbcedldjjjaaGreatDoor.Bn Go.Proofs.YtabhbcedldjjjaaGreatDoor.Zm Go.Proofs.YtabhbcedldjjjaaGreatDoor.Ym Go.Proofs.YtabhbcedldjjjaaGreatDoor.Zk Go.Proofs.YtabhbcedldjjjaaGreatDoor.Yp
open Go.Proofs.YtabhbcedldjjjaaGreatDoor.Yg (Blk)

set_option maxHeartbeats 4000000

def kOf (W : World) (rb : Nat) : Nat := match W.cell? ⟨rb, 1, none⟩ with | some (.int _ k) => k.toNat | _ => 0
theorem kOf_is {W : World} {rb k n at' er : Nat} {tv : Value} (h : RR W rb tv k n at' er) : kOf W rb = k := by simp [kOf, h.c1]
/-- where the words are read -/
structure JB (A : List Tk) (n : Nat) (tv : Value) (deep k : Nat) (t : Tk) (w : World) (rb at0 b1 b2 : Nat) (wr : World) (kk k1 : Nat) (ws : List Wd) (vw : Value) : Prop where
  R : RR wr rb tv kk n at0 0
  g : G w wr rb
  B2 : Blk wr b2 50 #[.string ⟨t.s.toArray⟩, .int .i64 t.a, vw, .bool false, .slice none 0 0]
  B1 : Blk wr b1 50 #[.string ⟨#[]⟩, .int .i64 0, .slice none 0 0, .bool false, .slice none 0 0]
  row : wr.ownsRow w.heap.size 64 4 vw ws.length (wcells ws)
  hk : k ≤ k1
  h8 : ws.length ≤ 8
  J : Hid (JMid A deep k (fr0 t) ws k1)
theorem own_ne {W : World} {base z m b : Nat} {E T : TypeId} {v : Value} {xs : List Value} {c : Array Value} (h : W.ownsRow base E z v m xs) (B : Blk W b T c) (ne : ¬ T = E) : v.ownBlock ≠ some b := by
  intro e
  rcases h.2 with ⟨q, _⟩ | ⟨g, cap, cur, hv, _, hg, _⟩
  · rw [q] at e; cases e
  · rw [hv] at e
    have e : g = b := by simpa [Value.ownBlock] using e
    subst e
    rw [show W.heap[g]? = _ from B] at hg
    injection hg with hg
    injection hg with _ hg _
    exact ne hg
theorem blk_far {W W' : World} {b : Nat} {T : TypeId} {c : Array Value} {row : Option Nat} (h : Blk W b T c) (g : W.grownBy W' row) (ne : row ≠ some b) : Blk W' b T c := (g.block b h.lt (fun q => ne q.symm)).trans h
section
variable {A : List Tk} {n deep k : Nat} {tv : Value} {t : Tk} {w : World} {rb at0 b1 b2 : Nat} {wr W : World} {kk k1 : Nat} {ws : List Wd} {vw : Value}
theorem JB.on (h : JB A n tv deep k t w rb at0 b1 b2 wr kk k1 ws vw) (B : Below wr.heap.size wr W) : JB A n tv deep k t w rb at0 b1 b2 W kk k1 ws vw :=
  ⟨h.R.kept (gbelow B none) (by simp), h.g.trans (gbelow B _), h.B2.kept B, h.B1.kept B, row_kept h.row (gbelow B none) (fun _ _ q => by cases q), h.hk, h.h8, h.J⟩
theorem JB.next (h : JB A n tv deep k t w rb at0 b1 b2 wr kk k1 ws vw) (hrb : rb < w.heap.size) (h1 : w.heap.size ≤ b1) (h2 : w.heap.size ≤ b2) (k' : Nat) : JB A n tv deep k t w rb at0 b1 b2 (wr.setCell ⟨rb, 1, none⟩ (.int .i64 k')) k' k1 ws vw :=
  ⟨h.R.next k', h.g.trans (gset wr rb 1 _), blk_far h.B2 (gset wr rb 1 _) (fun q => by cases q; omega), blk_far h.B1 (gset wr rb 1 _) (fun q => by cases q; omega),
    row_kept h.row (gset wr rb 1 _) (fun x q e => by cases e; have := (row_in h.row q).1; omega), h.hk, h.h8, h.J⟩
/-- the world with an item's cells stored -/
def set5 (W : World) (b : Nat) (v0 v1 v2 v3 v4 : Value) : World := ((((W.setCell ⟨b, 0, none⟩ v0).setCell ⟨b, 1, none⟩ v1).setCell ⟨b, 2, none⟩ v2).setCell ⟨b, 3, none⟩ v3).setCell ⟨b, 4, none⟩ v4
theorem set5_by (W : World) (b : Nat) (v0 v1 v2 v3 v4 : Value) : W.grownBy (set5 W b v0 v1 v2 v3 v4) (some b) :=
  ((((gset W b 0 v0).trans (gset _ b 1 v1)).trans (gset _ b 2 v2)).trans (gset _ b 3 v3)).trans (gset _ b 4 v4)
theorem set5_size (W : World) (b : Nat) (v0 v1 v2 v3 v4 : Value) : (set5 W b v0 v1 v2 v3 v4).heap.size = W.heap.size := by simp [set5]
/-- a world grows all the same where what it made itself is written -/
theorem G.own {w W W' : World} {rb b : Nat} (h : G w W rb) (g : W.grownBy W' (some b)) (hb : w.heap.size ≤ b) : G w W' rb :=
  ⟨g.os.trans h.os, g.tape.trans h.tape, g.output.trans h.output, Nat.le_trans h.size g.size, fun i hi ne => (g.block i (Nat.lt_of_lt_of_le hi h.size) (fun q => by cases q; omega)).trans (h.block i hi ne)⟩
/-- an item is told -/
theorem item_fin {vk : Value} {bl : Bool} {out : List Nd} {S : Nat → Prop} {k' at' er' : Nat} {c : Array Value} (hW : G w W rb) (R : RR W rb tv k' n at' er') (hrb : rb < w.heap.size) (h1 : w.heap.size ≤ b1) (Bk : Blk W b1 50 c)
    (row : W.ownsRow w.heap.size 64 4 vw ws.length (wcells ws)) (hK : NdsV S W vk out) (hS : ∀ b, S b → w.heap.size ≤ b ∧ b < W.heap.size ∧ b ≠ b1) (hk : k ≤ k') (hk2 : k' ≤ A.length + (7 - deep)) (J : JSaid A n deep k (fr0 t) (.mk t.s t.a ws bl out) k' at' er') :
    ItemP A n rb tv deep k (fr0 t) w (.returned (.agg #[.string ⟨t.s.toArray⟩, .int .i64 t.a, vw, .bool bl, vk])) (set5 W b1 (.string ⟨t.s.toArray⟩) (.int .i64 t.a) vw (.bool bl) vk) := by
  have g := set5_by W b1 (.string ⟨t.s.toArray⟩) (.int .i64 t.a) vw (.bool bl) vk
  have z := set5_size W b1 (.string ⟨t.s.toArray⟩) (.int .i64 t.a) vw (.bool bl) vk
  have ne := own_ne row Bk (by decide)
  have row2 := row_kept row g (fun x q e => by cases e; exact ne q)
  refine ⟨[.string ⟨t.s.toArray⟩, .int .i64 t.a, vw, .bool bl, vk], .mk t.s t.a ws bl out, fun b => S b ∨ vw.ownBlock = some b, k', at', er', rfl, ⟨vw, vk, rfl, row_words row2 (fun x q => .inr q), (hK.kept (fun b hb => g.block b (hS b hb).2.1 (fun q => by cases q; exact (hS _ hb).2.2 rfl))).mono (fun b h => .inl h)⟩, ?_, hW.own g h1, R.kept g (fun q => by cases q; omega), hk, hk2, J⟩
  rintro b (h | h)
  · rw [z]; exact ⟨(hS b h).1, (hS b h).2.1⟩
  · have := row_in row h
    rw [z]; exact this
end

theorem blk_set {W : World} {b j : Nat} {T : TypeId} {c : Array Value} (h : Blk W b T c) (v : Value) : Blk (W.setCell ⟨b, j, none⟩ v) b T (c.setIfInBounds j v) := by
  obtain ⟨hlt, hk⟩ := Array.getElem?_eq_some_iff.1 (show W.heap[b]? = _ from h)
  show (W.heap.modify b _)[b]? = _
  rw [Array.getElem?_eq_getElem (by rw [Array.size_modify]; exact hlt), Array.getElem_modify_self, hk]
  rfl
theorem G.row {w W W' : World} {rb : Nat} {row : Option Nat} (h : G w W rb) (g : W.grownBy W' row) (hb : ∀ x, row = some x → w.heap.size ≤ x) : G w W' rb :=
  ⟨g.os.trans h.os, g.tape.trans h.tape, g.output.trans h.output, Nat.le_trans h.size g.size, fun i hi ne => (g.block i (Nat.lt_of_lt_of_le hi h.size) (fun q => by have := hb i q.symm; omega)).trans (h.block i hi ne)⟩
/-- a word more -/
theorem JB.word {A : List Tk} {n deep k : Nat} {tv : Value} {t : Tk} {w : World} {rb at0 b1 b2 : Nat} {W w5 : World} {kk k1 k1' g5 cap5 : Nat} {ws : List Wd} {vw : Value} {x : Wd} {o : Obj} (h : JB A n tv deep k t w rb at0 b1 b2 W kk k1 ws vw) (hrb : rb < w.heap.size) (h1 : w.heap.size ≤ b1) (h2 : w.heap.size ≤ b2) (h12 : ¬ b1 = b2)
    (grow : (W.alloc o).grownBy w5 vw.ownBlock) (own5 : w5.ownsRow w.heap.size 64 4 (.slice (some ⟨g5, 0, none⟩) (ws.length + 1) cap5) (ws.length + 1) (wcells ws ++ wcell x)) (h8 : ws.length < 8) (hk : k ≤ k1') (J : Hid (JMid A deep k (fr0 t) (ws ++ [x]) k1')) :
    JB A n tv deep k t w rb at0 b1 b2 (w5.setCell ⟨b2, 2, none⟩ (.slice (some ⟨g5, 0, none⟩) (ws.length + 1) cap5)) kk k1' (ws ++ [x]) (.slice (some ⟨g5, 0, none⟩) (ws.length + 1) cap5) := by
  have h0 := h.on (balloc (Below.refl _ _) o)
  have hin : ∀ y, vw.ownBlock = some y → w.heap.size ≤ y := fun y q => (row_in h.row q).1
  have B2 := blk_far h0.B2 grow (own_ne h0.row h0.B2 (by decide))
  have B1 := blk_far h0.B1 grow (own_ne h0.row h0.B1 (by decide))
  have gs := gset w5 b2 2 (.slice (some ⟨g5, 0, none⟩) (ws.length + 1) cap5)
  refine ⟨(h0.R.kept grow (fun q => by have := hin rb q; omega)).kept gs (fun q => by cases q; omega), (h0.g.row grow hin).own gs h2, blk_set B2 _, blk_far B1 gs (fun q => by cases q; exact h12 rfl), ?_, hk, by simp; omega, J⟩
  have := row_kept own5 gs (fun y q e => by cases e; exact own_ne own5 B2 (by decide) q)
  rw [wcells_snoc, List.length_append]
  exact this

/-- all that may follow -/
theorem jalls {A : List Tk} (n : Nat) {deep k k1 : Nat} {t : Tk} {ws : List Wd} (H : Hid (JMid A deep k (fr0 t) ws k1)) (hk : k1 < A.length) (at0 : Nat) :
    (A[k1].k = 5 → JSaid A n deep k (fr0 t) (.mk t.s t.a ws false []) (k1 + 1) at0 0) ∧ ((A[k1].k = 1 ∨ A[k1].k = 2) → ws.length = 8 → ∀ nd k', JSaid A n deep k (fr0 t) nd k' A[k1].a 6) ∧
    ((A[k1].k = 1 ∨ A[k1].k = 2) → ¬ ws.length = 8 → JMid A deep k (fr0 t) (ws ++ [wd A[k1]]) (k1 + 1)) ∧ (A[k1].k = 3 → deep = 6 → ∀ nd k', JSaid A n deep k (fr0 t) nd k' A[k1].a 7) ∧
    (A[k1].k = 3 → deep < 6 → ∀ out k' at' er', ISaid A n (deep + 1) (k1 + 1) out k' at' er' → JSaid A n deep k (fr0 t) (.mk t.s t.a ws true out) (k' + 1) at' er') ∧ (A[k1].k = 4 → ∀ nd k', JSaid A n deep k (fr0 t) nd k' A[k1].a 5) :=
  ⟨fun h => jmid_end H.out hk h, fun h h8 nd k' => jmid_full H.out hk h h8 nd k', fun h h8 => jmid_word H.out hk h h8, fun h hd nd k' => jmid_deep H.out hk h hd nd k', fun h hd out k' at' er' hI => jmid_block H.out hk h hd hI,
    fun h nd k' => jmid_bad H.out hk (by omega) (by omega) (by omega) (by omega) h nd k'⟩

set_option maxRecDepth 100000 in
theorem item_any (A : List Tk) (n : Nat) (tv : Value) (deep : Nat) (hd : deep ≤ 6) (hA : A.length ≤ 8192) (hF : Hid (∀ t ∈ A, Fine t)) (ci : Hid (deep < 6 → ItemsC A n tv (deep + 1))) (w : World) (rb k at0 : Nat) (t : Tk) (T : TokR w rb tv A) (R : RR w rb tv k n at0 0) (hk : k ≤ A.length) :
    Calls Tryz.prog 52 #[.pointer (some ⟨rb, 0, none⟩), tokv t, .int .i64 deep] w (ItemP A n rb tv deep k (fr0 t) w) := by
  have B0 : Below w.heap.size w (((w.alloc (.cells #[.int .i64 t.k, .int .i64 t.a, .int .i64 t.n, .string ⟨t.s.toArray⟩] 72)).alloc (.cells #[.string ⟨#[]⟩, .int .i64 0, .slice none 0 0, .bool false, .slice none 0 0] 50)).alloc (.cells #[.string ⟨t.s.toArray⟩, .int .i64 t.a, .slice none 0 0, .bool false, .slice none 0 0] 50)) := balloc (balloc (balloc (Below.refl _ _) _) _) _
  have start : JB A n tv deep k t w rb at0 (w.heap.size + 1) (w.heap.size + 1 + 1) (((w.alloc (.cells #[.int .i64 t.k, .int .i64 t.a, .int .i64 t.n, .string ⟨t.s.toArray⟩] 72)).alloc (.cells #[.string ⟨#[]⟩, .int .i64 0, .slice none 0 0, .bool false, .slice none 0 0] 50)).alloc (.cells #[.string ⟨t.s.toArray⟩, .int .i64 t.a, .slice none 0 0, .bool false, .slice none 0 0] 50)) k k [] (.slice none 0 0) :=
    ⟨R.kept (G.of (rb := rb + 1) B0) (by simp), G.of B0, Yg.Blk.at_ (by simp), (Yg.Blk.at_ (by simp)).kept (balloc (Below.refl _ _) _), World.ownsRow_nil _ _ _ _, Nat.le_refl _, by simp, Lib.hid (jmid_start A deep k t hk)⟩
  have HT := Lib.hid T
  have hsz := R.lt
  have HJ0 := Lib.hid start
  have hb1 : w.heap.size ≤ w.heap.size + 1 := by omega
  have hb2 : w.heap.size ≤ w.heap.size + 1 + 1 := by omega
  have hb12 : ¬ w.heap.size + 1 = w.heap.size + 1 + 1 := by omega
  clear start R T B0
  unfold tokv
  go_enter Tryz.func52, Tryz.ntmps52
  go_wp2_with fail
  generalize w.heap.size + 1 + 1 = b2 at *
  generalize w.heap.size + 1 = b1 at *
  go_loopw [8] (fun _ wr => ∃ (k1 : Nat) (ws : List Wd) (vw : Value), JB A n tv deep k t w rb at0 b1 b2 wr k1 k1 ws vw) (fun _ wr => A.length + 1 - kOf wr rb)
  case atStart => exact ⟨_, _, _, HJ0.out⟩
  case round =>
    clear HJ0
    obtain ⟨k1, ws, vw, J⟩ := hrel
    have q0 := J.R.c0
    have q1 := J.R.c1
    have q2 := J.R.c2
    have z1 := J.R.z 1
    have rl := J.R.lt
    have HJ := Lib.hid J
    have HKO : Hid (kOf wr rb = k1) := Lib.hid (kOf_is J.R)
    obtain ⟨ptr, cap, rfl, hT⟩ := HT.out.kept J.g
    have hk1 := J.J.out.1
    have hkk := J.hk
    by_cases hlt : k1 < A.length
    · have dl : decide ((k1 : Int) < (A.length : Int)) = true := decide_eq_true (by omega)
      have dl2 : decide (k1 < A.length) = true := decide_eq_true hlt
      obtain ⟨g, o, rfl, hg, hgr, hc⟩ := hT.resolve_left (by omega)
      obtain ⟨c0, c1, c2, c3⟩ := hc k1 hlt
      have hfine : Fine A[k1] := hF.out _ (List.getElem_mem _)
      have HALL := Lib.hid (jalls n J.J hlt at0)
      clear hT hc J
      go_upto_region 2 with fail
      go_quiet (fail)
      have BD := bdrewN (Below.refl wr.heap.size wr) nq
      have HJ1 := Lib.hid (HJ.out.on BD)
      clear q0 q1 q2 z1 rl HJ
      have q0 := HJ1.out.R.c0
      have q1 := HJ1.out.R.c1
      have z1 := HJ1.out.R.z 1
      have rl := HJ1.out.R.lt
      replace c0 := (BD.cell (p := ⟨g, _, none⟩) hg).trans c0
      replace c1 := (BD.cell (p := ⟨g, _, none⟩) hg).trans c1
      replace c2 := (BD.cell (p := ⟨g, _, none⟩) hg).trans c2
      replace c3 := (BD.cell (p := ⟨g, _, none⟩) hg).trans c3
      replace hg := Nat.lt_of_lt_of_le hg BD.size
      clear BD
      generalize wr.drewN nq = W1 at *
      go_upto_region 3 with fail
      go_region
      have BE : Below W1.heap.size W1 (W1.alloc (.cells #[.int .i64 A[k1].k, .int .i64 A[k1].a, .int .i64 A[k1].n, .string ⟨A[k1].s.toArray⟩] 72)).drew := (balloc (Below.refl _ _) _).drew
      have HJ2 := Lib.hid (HJ1.out.on BE)
      have KT : Blk (W1.alloc (.cells #[.int .i64 A[k1].k, .int .i64 A[k1].a, .int .i64 A[k1].n, .string ⟨A[k1].s.toArray⟩] 72)).drew W1.heap.size 72 #[.int .i64 A[k1].k, .int .i64 A[k1].a, .int .i64 A[k1].n, .string ⟨A[k1].s.toArray⟩] := Yg.Blk.at_ (W := W1) rfl
      have hgW : w.heap.size ≤ W1.heap.size := HJ1.out.g.size
      clear BE HJ1 q0 q1 z1 rl c0 c1 c2 c3 hg
      generalize (W1.alloc (.cells #[.int .i64 A[k1].k, .int .i64 A[k1].a, .int .i64 A[k1].n, .string ⟨A[k1].s.toArray⟩] 72)).drew = W2 at *
      generalize W1.heap.size = b3 at *
      generalize A[k1] = x at *
      have q1 := HJ2.out.R.c1
      have z1 := HJ2.out.R.z 1
      have rl := HJ2.out.R.lt
      have hk2 : ((k1 : Int) + 1) = ((k1 + 1 : Nat) : Int) := by omega
      have HJ3 : Hid (JB A n _ deep k t w rb at0 b1 b2 (W2.setCell ⟨rb, 1, none⟩ (.int .i64 ((k1 : Int) + 1))) (k1 + 1) k1 ws vw) := Lib.hid (by rw [hk2]; exact HJ2.out.next hsz hb1 hb2 (k1 + 1))
      have KT3 := blk_far KT (gset W2 rb 1 (.int .i64 ((k1 : Int) + 1))) (fun q => by cases q; omega)
      clear HJ2 KT hk2
      go_upto_region 5 with fail
      generalize W2.setCell ⟨rb, 1, none⟩ (.int .i64 ((k1 : Int) + 1)) = W3 at *
      obtain ⟨wp, wc, rfl⟩ := row_form HJ3.out.row
      have R3 := HJ3.out.R
      have k0 := KT3.cell 0
      have k1' := KT3.cell 1
      have k2 := KT3.cell 2
      have k3 := KT3.cell 3
      simp at k0 k1' k2 k3
      have e2 := HJ3.out.B2.cell 2
      have e0 := HJ3.out.B2.cell 0
      have e1 := HJ3.out.B2.cell 1
      have e3 := HJ3.out.B2.cell 3
      have e4 := HJ3.out.B2.cell 4
      simp at e0 e1 e2 e3 e4
      have ez := HJ3.out.B2.frz
      have f0 := HJ3.out.B1.cell 0
      have f1 := HJ3.out.B1.cell 1
      have f2 := HJ3.out.B1.cell 2
      have f3 := HJ3.out.B1.cell 3
      have f4 := HJ3.out.B1.cell 4
      simp at f0 f1 f2 f3 f4
      have fz := HJ3.out.B1.frz
      have bl1 := HJ3.out.B1.lt
      have bl2 := HJ3.out.B2.lt
      have bl3 := KT3.lt
      obtain ⟨h5, h8f, h8w, h36, h3b, h4⟩ := HALL.out
      have H5 := Lib.hid h5
      have H8F := Lib.hid h8f
      have H8W := Lib.hid h8w
      have H36 := Lib.hid h36
      have H3B := Lib.hid h3b
      have H4 := Lib.hid h4
      clear h5 h8f h8w h36 h3b h4 HALL
      obtain ⟨xk, xa, xn, xs⟩ := x
      simp only at k0 k1' k2 k3 H5 H8F H8W H36 H3B H4
      by_cases h5 : xk = 5
      · subst h5
        have Y := Lib.hid (item_fin (W := W3) (bl := false) (S := fun _ => False) HJ3.out.g R3 hsz hb1 HJ3.out.B1 HJ3.out.row (vk := .slice none 0 0) (out := []) ⟨none, 0, rfl, .inl rfl⟩ (fun _ h => h.elim) (by omega) (by omega) (H5.out rfl))
        clear H5 H8F H8W H36 H3B H4 R3
        go_wp2_with fail
        refine bodyPost_ret (v := .agg #[.string ⟨t.s.toArray⟩, .int .i64 t.a, .slice wp ws.length wc, .bool false, .slice none 0 0]) (by simp [results, Tryz.results52, go_sem, f0, f1, f2, f3, f4]) rfl Y.out
      by_cases h4 : xk = 4
      · subst h4
        clear H5 H8F H8W H36 H3B
        go_wp2_with fail
        refine (fail_any rb _ (k1 + 1) n at0 0 xa 5 _ R3).mono ?_
        rintro y w4 ⟨rfl, g4, s4, R4⟩
        rw [if_pos rfl, if_pos rfl] at R4
        have K2 := blk_far HJ3.out.B2 g4 (fun q => by cases q; omega)
        have K1 := blk_far HJ3.out.B1 g4 (fun q => by cases q; omega)
        have row4 := row_kept HJ3.out.row g4 (fun x q e => by cases e; have := (row_in HJ3.out.row q).1; omega)
        have Y := Lib.hid (item_fin (W := w4) (bl := false) (S := fun _ => False) (HJ3.out.g.trans g4) R4 hsz hb1 K1 row4 (vk := .slice none 0 0) (out := []) ⟨none, 0, rfl, .inl rfl⟩ (fun _ h => h.elim) (by omega) (by omega) (H4.out (by simp) _ _))
        clear e0 e1 e2 e3 e4 ez f0 f1 f2 f3 f4 fz bl1 bl2 R4 g4 row4 R3
        have e0 := K2.cell 0
        have e1 := K2.cell 1
        have e2 := K2.cell 2
        have e3 := K2.cell 3
        have e4 := K2.cell 4
        simp at e0 e1 e2 e3 e4
        have ez := K2.frz
        have f0 := K1.cell 0
        have f1 := K1.cell 1
        have f2 := K1.cell 2
        have f3 := K1.cell 3
        have f4 := K1.cell 4
        simp at f0 f1 f2 f3 f4
        have fz := K1.frz
        have bl1 := K1.lt
        have bl2 := K2.lt
        clear K1 K2
        go_wp2_with fail
        refine bodyPost_ret (v := .agg #[.string ⟨t.s.toArray⟩, .int .i64 t.a, .slice wp ws.length wc, .bool false, .slice none 0 0]) (by simp [results, Tryz.results52, go_sem, f0, f1, f2, f3, f4]) rfl Y.out
      by_cases h3 : xk = 3
      · subst h3
        clear H5 H8F H8W H4
        by_cases h6 : deep = 6
        · have d6 : ((deep : Int) == 6) = true := beq_iff_eq.2 (by omega)
          clear H3B
          go_wp2_with fail
          refine (fail_any rb _ (k1 + 1) n at0 0 xa 7 _ R3).mono ?_
          rintro y w4 ⟨rfl, g4, s4, R4⟩
          rw [if_pos rfl, if_pos rfl] at R4
          have K2 := blk_far HJ3.out.B2 g4 (fun q => by cases q; omega)
          have K1 := blk_far HJ3.out.B1 g4 (fun q => by cases q; omega)
          have row4 := row_kept HJ3.out.row g4 (fun x q e => by cases e; have := (row_in HJ3.out.row q).1; omega)
          have Y := Lib.hid (item_fin (W := w4) (bl := false) (S := fun _ => False) (HJ3.out.g.trans g4) R4 hsz hb1 K1 row4 (vk := .slice none 0 0) (out := []) ⟨none, 0, rfl, .inl rfl⟩ (fun _ h => h.elim) (by omega) (by omega) (H36.out (by simp) h6 _ _))
          clear e0 e1 e2 e3 e4 ez f0 f1 f2 f3 f4 fz bl1 bl2 R4 g4 row4 R3
          have e0 := K2.cell 0
          have e1 := K2.cell 1
          have e2 := K2.cell 2
          have e3 := K2.cell 3
          have e4 := K2.cell 4
          simp at e0 e1 e2 e3 e4
          have ez := K2.frz
          have f0 := K1.cell 0
          have f1 := K1.cell 1
          have f2 := K1.cell 2
          have f3 := K1.cell 3
          have f4 := K1.cell 4
          simp at f0 f1 f2 f3 f4
          have fz := K1.frz
          have bl1 := K1.lt
          have bl2 := K2.lt
          clear K1 K2
          go_wp2_with fail
          refine bodyPost_ret (v := .agg #[.string ⟨t.s.toArray⟩, .int .i64 t.a, .slice wp ws.length wc, .bool false, .slice none 0 0]) (by simp [results, Tryz.results52, go_sem, f0, f1, f2, f3, f4]) rfl Y.out
        · have d6 : ((deep : Int) == 6) = false := beq_eq_false_iff_ne.2 (by omega)
          have hd6 : deep < 6 := by omega
          clear H36
          have gs3 := gset W3 b2 3 (.bool true)
          have nrb2 : ¬ rb = b2 := by omega
          have R3' := R3.kept gs3 (fun q => by cases q; omega)
          have T3' := HT.out.kept (HJ3.out.g.own gs3 hb2)
          have ck : Calls Tryz.prog 32 #[.pointer (some ⟨rb, 0, none⟩), .int .i64 ((deep : Int) + 1)] (W3.setCell ⟨b2, 3, none⟩ (.bool true)) (ItemsP A n rb _ (deep + 1) (k1 + 1) (W3.setCell ⟨b2, 3, none⟩ (.bool true))) := ci.out hd6 _ rb (k1 + 1) at0 T3' R3' (by omega)
          have C2 := blk_set (j := 3) HJ3.out.B2 (.bool true)
          have C1 := blk_far HJ3.out.B1 gs3 (fun q => by cases q; exact hb12 rfl)
          have rowC := row_kept HJ3.out.row gs3 (fun y q e => by cases e; exact own_ne HJ3.out.row HJ3.out.B2 (by decide) q)
          have gC : G w (W3.setCell ⟨b2, 3, none⟩ (.bool true)) rb := HJ3.out.g.own gs3 hb2
          have HC := Lib.hid (And.intro C2 (And.intro C1 (And.intro rowC gC)))
          have HCK := Lib.hid ck
          have lC1 := C1.lt
          have lC2 := C2.lt
          have lR := R3'.lt
          have zC := hsz
          clear R3 gs3 T3' ck C2 C1 rowC gC HT ci R3'
          go_wp2_with fail
          refine HCK.out.mono ?_
          rintro y w4 ⟨v, out, S, k', at', er', rfl, hN, hS, g4, R4, hk1', hk2', hI⟩
          obtain ⟨D2, D1, rowD, gD⟩ := HC.out
          clear HCK HC e0 e1 e2 e3 e4 ez f0 f1 f2 f3 f4 fz bl1 bl2
          obtain ⟨W4, hW4⟩ : ∃ W4, W4 = W3.setCell ⟨b2, 3, none⟩ (.bool true) := ⟨_, rfl⟩
          rw [← hW4] at D2 D1 rowD gD hS g4 lC1 lC2 lR
          clear hW4
          have E2 := blk_far D2 g4 (fun q => by cases q; omega)
          have E1 := blk_far D1 g4 (fun q => by cases q; omega)
          have rowE := row_kept rowD g4 (fun x q e => by cases e; have := (row_in rowD q).1; omega)
          have gE : G w w4 rb := gD.trans g4
          obtain ⟨vp, vc, rfl, hN'⟩ := hN
          have hN : NdsV S w4 (.slice vp out.length vc) out := ⟨vp, vc, rfl, hN'⟩
          have gs4 := gset w4 b2 4 (.slice vp out.length vc)
          have gs5 := gset (w4.setCell ⟨b2, 4, none⟩ (.slice vp out.length vc)) rb 1 (.int .i64 ((k' : Int) + 1))
          have F2 := blk_far (blk_set (j := 4) E2 (.slice vp out.length vc)) gs5 (fun q => by cases q; omega)
          have F1 := blk_far (blk_far E1 gs4 (fun q => by cases q; exact hb12 rfl)) gs5 (fun q => by cases q; omega)
          have rowF := row_kept (row_kept rowE gs4 (fun y q e => by cases e; exact own_ne rowE E2 (by decide) q)) gs5 (fun x q e => by cases e; have := (row_in rowE q).1; omega)
          have gF : G w ((w4.setCell ⟨b2, 4, none⟩ (.slice vp out.length vc)).setCell ⟨rb, 1, none⟩ (.int .i64 ((k' : Int) + 1))) rb := (gE.own gs4 hb2).trans gs5
          have hk' : ((k' : Int) + 1) = ((k' + 1 : Nat) : Int) := by omega
          have RF : RR ((w4.setCell ⟨b2, 4, none⟩ (.slice vp out.length vc)).setCell ⟨rb, 1, none⟩ (.int .i64 ((k' : Int) + 1))) rb (.slice (some ⟨g, o, none⟩) A.length cap) (k' + 1) n at' er' := by rw [hk']; exact (R4.kept gs4 (fun q => by cases q; omega)).next (k' + 1)
          have sz6 : ((w4.setCell ⟨b2, 4, none⟩ (.slice vp out.length vc)).setCell ⟨rb, 1, none⟩ (.int .i64 ((k' : Int) + 1))).heap.size = w4.heap.size := by simp
          have hW4s := gD.size
          have NF : NdsV S ((w4.setCell ⟨b2, 4, none⟩ (.slice vp out.length vc)).setCell ⟨rb, 1, none⟩ (.int .i64 ((k' : Int) + 1))) (.slice vp out.length vc) out := (hN.kept (fun b hb => gs4.block b (hS b hb).2 (fun q => by cases q; have := (hS _ hb).1; omega))).kept (fun b hb => gs5.block b (by have := (hS b hb).2; simp; exact this) (fun q => by cases q; have := (hS _ hb).1; omega))
          have Y := Lib.hid (item_fin (bl := true) (S := S) gF RF hsz hb1 F1 rowF NF (fun b hb => by
            have := hS b hb
            exact ⟨by omega, by rw [sz6]; exact this.2, by omega⟩) (by omega) (by omega) (H3B.out (by simp) hd6 out k' at' er' hI))
          have r1 := R4.c1
          have r1z := R4.z 1
          have r1l := R4.lt
          have e4' := E2.cell 4
          have e4z := E2.frz
          have e4l := E2.lt
          simp at e4'
          have hF2 := Lib.hid F2
          have hF1 := Lib.hid F1
          clear hN hN' hS g4 R4 hI D2 D1 rowD gD E2 E1 rowE gE gs4 gs5 F2 F1 rowF gF RF NF sz6 hW4s H3B k0 k1' k2 k3 KT3
          have hkb : k' ≤ 9000 := by omega
          clear hk'
          go_upto_region 23 with fail
          generalize (w4.setCell ⟨b2, 4, none⟩ (.slice vp out.length vc)).setCell ⟨rb, 1, none⟩ (.int .i64 ((k' : Int) + 1)) = w6 at *
          have G2 := hF2.out
          have G1 := hF1.out
          have e0 := G2.cell 0
          have e1 := G2.cell 1
          have e2 := G2.cell 2
          have e3 := G2.cell 3
          have e4 := G2.cell 4
          simp at e0 e1 e2 e3 e4
          have ez := G2.frz
          have f0 := G1.cell 0
          have f1 := G1.cell 1
          have f2 := G1.cell 2
          have f3 := G1.cell 3
          have f4 := G1.cell 4
          simp at f0 f1 f2 f3 f4
          have fz := G1.frz
          have bl1 := G1.lt
          have bl2 := G2.lt
          clear G1 G2 hF1 hF2
          go_wp2_with fail
          refine bodyPost_ret (v := .agg #[.string ⟨t.s.toArray⟩, .int .i64 t.a, .slice wp ws.length wc, .bool true, .slice vp out.length vc]) (by simp [results, Tryz.results52, go_sem, f0, f1, f2, f3, f4]) rfl Y.out
      have h12 : xk = 1 ∨ xk = 2 := by
        rcases hfine with ⟨h, _⟩ | ⟨h, _⟩ | ⟨h, _⟩
        · exact .inl h
        · exact .inr h
        · simp only at h; omega
      have d5 : ((xk : Int) == 5) = false := beq_eq_false_iff_ne.2 (by omega)
      have d3 : ((xk : Int) == 3) = false := beq_eq_false_iff_ne.2 (by omega)
      clear H5 H36 H3B H4
      by_cases h8 : ws.length = 8
      · have d8 : ((ws.length : Int) == 8) = true := beq_iff_eq.2 (by omega)
        have HH8 := Lib.hid h8
        clear H8W h8
        rcases h12 with rfl | rfl
        · go_wp2_with fail
          refine (fail_any rb _ (k1 + 1) n at0 0 xa 6 _ R3).mono ?_
          rintro y w4 ⟨rfl, g4, s4, R4⟩
          rw [if_pos rfl, if_pos rfl] at R4
          have K2 := blk_far HJ3.out.B2 g4 (fun q => by cases q; omega)
          have K1 := blk_far HJ3.out.B1 g4 (fun q => by cases q; omega)
          have row4 := row_kept HJ3.out.row g4 (fun x q e => by cases e; have := (row_in HJ3.out.row q).1; omega)
          have Y := Lib.hid (item_fin (W := w4) (bl := false) (S := fun _ => False) (HJ3.out.g.trans g4) R4 hsz hb1 K1 row4 (vk := .slice none 0 0) (out := []) ⟨none, 0, rfl, .inl rfl⟩ (fun _ h => h.elim) (by omega) (by omega) (H8F.out (by simp) HH8.out _ _))
          clear e0 e1 e2 e3 e4 ez f0 f1 f2 f3 f4 fz bl1 bl2 R4 g4 row4 R3
          have e0 := K2.cell 0
          have e1 := K2.cell 1
          have e2 := K2.cell 2
          have e3 := K2.cell 3
          have e4 := K2.cell 4
          simp at e0 e1 e2 e3 e4
          have ez := K2.frz
          have f0 := K1.cell 0
          have f1 := K1.cell 1
          have f2 := K1.cell 2
          have f3 := K1.cell 3
          have f4 := K1.cell 4
          simp at f0 f1 f2 f3 f4
          have fz := K1.frz
          have bl1 := K1.lt
          have bl2 := K2.lt
          clear K1 K2
          go_wp2_with fail
          refine bodyPost_ret (v := .agg #[.string ⟨t.s.toArray⟩, .int .i64 t.a, .slice wp ws.length wc, .bool false, .slice none 0 0]) (by simp [results, Tryz.results52, go_sem, f0, f1, f2, f3, f4]) rfl Y.out
        · go_wp2_with fail
          refine (fail_any rb _ (k1 + 1) n at0 0 xa 6 _ R3).mono ?_
          rintro y w4 ⟨rfl, g4, s4, R4⟩
          rw [if_pos rfl, if_pos rfl] at R4
          have K2 := blk_far HJ3.out.B2 g4 (fun q => by cases q; omega)
          have K1 := blk_far HJ3.out.B1 g4 (fun q => by cases q; omega)
          have row4 := row_kept HJ3.out.row g4 (fun x q e => by cases e; have := (row_in HJ3.out.row q).1; omega)
          have Y := Lib.hid (item_fin (W := w4) (bl := false) (S := fun _ => False) (HJ3.out.g.trans g4) R4 hsz hb1 K1 row4 (vk := .slice none 0 0) (out := []) ⟨none, 0, rfl, .inl rfl⟩ (fun _ h => h.elim) (by omega) (by omega) (H8F.out (by simp) HH8.out _ _))
          clear e0 e1 e2 e3 e4 ez f0 f1 f2 f3 f4 fz bl1 bl2 R4 g4 row4 R3
          have e0 := K2.cell 0
          have e1 := K2.cell 1
          have e2 := K2.cell 2
          have e3 := K2.cell 3
          have e4 := K2.cell 4
          simp at e0 e1 e2 e3 e4
          have ez := K2.frz
          have f0 := K1.cell 0
          have f1 := K1.cell 1
          have f2 := K1.cell 2
          have f3 := K1.cell 3
          have f4 := K1.cell 4
          simp at f0 f1 f2 f3 f4
          have fz := K1.frz
          have bl1 := K1.lt
          have bl2 := K2.lt
          clear K1 K2
          go_wp2_with fail
          refine bodyPost_ret (v := .agg #[.string ⟨t.s.toArray⟩, .int .i64 t.a, .slice wp ws.length wc, .bool false, .slice none 0 0]) (by simp [results, Tryz.results52, go_sem, f0, f1, f2, f3, f4]) rfl Y.out
      · have d8 : ((ws.length : Int) == 8) = false := beq_eq_false_iff_ne.2 (by omega)
        have h8' : ws.length < 8 := by
          have := HJ3.out.h8
          omega
        have hkb : ((xk : Int) == 2) = (xk == 2) := by rcases h12 with rfl | rfl <;> rfl
        have HJM := Lib.hid (H8W.out h12 h8)
        clear H8F H8W h8
        have LAY : ∀ o, (W3.alloc o).ownsRow w.heap.size 64 4 (.slice wp ws.length wc) ws.length (wcells ws) := fun o => HJ3.out.row.alloc o
        have hbw : w.heap.size ≤ W3.heap.size := HJ3.out.g.size
        obtain ⟨i0, hi, hz0, hz1, hz2⟩ := info_parts infoW
        rcases h12 with rfl | rfl
        · go_wp2_with (first | (at_builtin; refine wpList_append_lies _ rfl _ _ 48 rfl w.heap.size 64 i0 (.agg #[.bool false, .int .i64 0, .string ⟨#[]⟩, .int .i64 0]) 4 40 underW hi hz0 hz1 hz2 rfl (by decide) _ ws.length (wcells ws) rfl (LAY _) ⟨W3.heap.size, 0, none⟩ 1 1 [.bool false, .int .i64 xn, .string ⟨xs.toArray⟩, .int .i64 xa] rfl rfl (fun j u hj => by (match j, hj with | 0, hj => simp at hj; subst hj; simp [Addr.add, go_sem] | 1, hj => simp at hj; subst hj; simp [Addr.add, go_sem] | 2, hj => simp at hj; subst hj; simp [Addr.add, go_sem] | 3, hj => simp at hj; subst hj; simp [Addr.add, go_sem])) (by intro u hu; simp at hu; rcases hu with rfl | rfl | rfl | rfl <;> rfl) (by decide) (by unfold maxLen; omega) (by omega) (by simp; omega) _ rfl ?_))
          intro g5 cap5 w5 own5 grow5 hat5 lt5
          have HJ5 := Lib.hid (HJ3.out.word hsz hb1 hb2 hb12 grow5 own5 h8' (by omega) HJM)
          have B5 : Blk w5 b2 50 #[.string ⟨t.s.toArray⟩, .int .i64 t.a, .slice wp ws.length wc, .bool false, .slice none 0 0] := blk_far (HJ3.out.B2.kept (balloc (Below.refl _ _) _)) grow5 (own_ne HJ3.out.row HJ3.out.B2 (by decide))
          have g2 := B5.cell 2
          simp at g2
          have g2z := B5.frz 2
          have g2l := B5.lt
          clear own5 grow5 hat5 HJ3 HJM LAY e0 e1 e2 e3 e4 ez f0 f1 f2 f3 f4 fz k0 k1' k2 k3 KT3 B5 HT ci
          go_wp2_with fail
          go_roundw
          case rel => exact ⟨_, _, _, HJ5.out⟩
          case measure =>
            rw [kOf_is HJ5.out.R, HKO.out]
            omega
        · go_wp2_with (first | (at_builtin; refine wpList_append_lies _ rfl _ _ 48 rfl w.heap.size 64 i0 (.agg #[.bool false, .int .i64 0, .string ⟨#[]⟩, .int .i64 0]) 4 40 underW hi hz0 hz1 hz2 rfl (by decide) _ ws.length (wcells ws) rfl (LAY _) ⟨W3.heap.size, 0, none⟩ 1 1 [.bool true, .int .i64 xn, .string ⟨xs.toArray⟩, .int .i64 xa] rfl rfl (fun j u hj => by (match j, hj with | 0, hj => simp at hj; subst hj; simp [Addr.add, go_sem] | 1, hj => simp at hj; subst hj; simp [Addr.add, go_sem] | 2, hj => simp at hj; subst hj; simp [Addr.add, go_sem] | 3, hj => simp at hj; subst hj; simp [Addr.add, go_sem])) (by intro u hu; simp at hu; rcases hu with rfl | rfl | rfl | rfl <;> rfl) (by decide) (by unfold maxLen; omega) (by omega) (by simp; omega) _ rfl ?_))
          intro g5 cap5 w5 own5 grow5 hat5 lt5
          have HJ5 := Lib.hid (HJ3.out.word hsz hb1 hb2 hb12 grow5 own5 h8' (by omega) HJM)
          have B5 : Blk w5 b2 50 #[.string ⟨t.s.toArray⟩, .int .i64 t.a, .slice wp ws.length wc, .bool false, .slice none 0 0] := blk_far (HJ3.out.B2.kept (balloc (Below.refl _ _) _)) grow5 (own_ne HJ3.out.row HJ3.out.B2 (by decide))
          have g2 := B5.cell 2
          simp at g2
          have g2z := B5.frz 2
          have g2l := B5.lt
          clear own5 grow5 hat5 HJ3 HJM LAY e0 e1 e2 e3 e4 ez f0 f1 f2 f3 f4 fz k0 k1' k2 k3 KT3 B5 HT ci
          go_wp2_with fail
          go_roundw
          case rel => exact ⟨_, _, _, HJ5.out⟩
          case measure =>
            rw [kOf_is HJ5.out.R, HKO.out]
            omega
    · have hkA : k1 = A.length := by omega
      have dl : decide ((k1 : Int) < (A.length : Int)) = false := decide_eq_false (by omega)
      have dl2 : decide (k1 < A.length) = false := decide_eq_false (by omega)
      have HP := Lib.hid (fun nd k' => jmid_past (n := n) J.J.out (by omega : A.length ≤ k1) nd k')
      clear hT J
      go_upto_region 2 with fail
      go_quiet (fail)
      have BD := bdrewN (Below.refl wr.heap.size wr) nq
      have HJ1 := Lib.hid (HJ.out.on BD)
      clear q0 q1 q2 z1 rl HJ BD
      generalize wr.drewN nq = W1 at *
      have q2 := HJ1.out.R.c2
      have rl := HJ1.out.R.lt
      go_wp2_with fail
      refine (fail_any rb _ k1 n at0 0 n 5 _ HJ1.out.R).mono ?_
      rintro y w4 ⟨rfl, g4, s4, R4⟩
      rw [if_pos rfl, if_pos rfl] at R4
      obtain ⟨wp, wc, rfl⟩ := row_form HJ1.out.row
      have K2 := blk_far HJ1.out.B2 g4 (fun q => by cases q; omega)
      have K1 := blk_far HJ1.out.B1 g4 (fun q => by cases q; omega)
      have row4 := row_kept HJ1.out.row g4 (fun x q e => by cases e; have := (row_in HJ1.out.row q).1; omega)
      have Y := Lib.hid (item_fin (W := w4) (bl := false) (S := fun _ => False) (HJ1.out.g.trans g4) R4 hsz hb1 K1 row4 (vk := .slice none 0 0) (out := []) ⟨none, 0, rfl, .inl rfl⟩ (fun _ h => h.elim) (by omega) (by omega) (HP.out _ _))
      clear R4 g4 row4 q2 rl HJ1 HP
      have e0 := K2.cell 0
      have e1 := K2.cell 1
      have e2 := K2.cell 2
      have e3 := K2.cell 3
      have e4 := K2.cell 4
      simp at e0 e1 e2 e3 e4
      have ez := K2.frz
      have f0 := K1.cell 0
      have f1 := K1.cell 1
      have f2 := K1.cell 2
      have f3 := K1.cell 3
      have f4 := K1.cell 4
      simp at f0 f1 f2 f3 f4
      have fz := K1.frz
      have bl1 := K1.lt
      have bl2 := K2.lt
      clear K1 K2
      go_wp2_with fail
      refine bodyPost_ret (v := .agg #[.string ⟨t.s.toArray⟩, .int .i64 t.a, .slice wp ws.length wc, .bool false, .slice none 0 0]) (by simp [results, Tryz.results52, go_sem, f0, f1, f2, f3, f4]) rfl Y.out

end Go.Proofs.YtabhbcedldjjjaaGreatDoor.Ye
