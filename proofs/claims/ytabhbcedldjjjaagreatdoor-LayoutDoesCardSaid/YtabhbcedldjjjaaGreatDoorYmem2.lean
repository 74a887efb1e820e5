/- The steps of the reader of items, in memory: an item begins, is made a block, gets a word, ends. -/
import Derived.Test.YtabhbcedldjjjaaGreatDoorYmem
namespace Go.Proofs.YtabhbcedldjjjaaGreatDoor.Ym
set_option linter.unusedSimpArgs false
set_option linter.unusedVariables false
open Go Go.RowKit Go.Proofs.YtabhbcedldjjjaaGreatDoor.Zm

theorem gset (W : World) (b i : Nat) (v : Value) : W.grownBy (W.setCell ⟨b, i, none⟩ v) (some b) :=
  ⟨rfl, rfl, rfl, by simp [World.setCell], fun k _ hk => Below.heap_setCell _ _ _ k (fun e => hk (by rw [e]))⟩
theorem gdrew (W : World) (row : Option Nat) : W.grownBy W.drew row := ⟨rfl, rfl, rfl, Nat.le_refl _, fun _ _ _ => rfl⟩
theorem gbelow {W W' : World} (h : Below W.heap.size W W') (row : Option Nat) : W.grownBy W' row := ⟨h.os, h.tape, h.output, h.size, fun k hk _ => h.block k hk⟩

/-- the reader's block: f: what its function value is -/
structure RdB (W : World) (rb tb nb : Nat) (f : Value) : Prop where
  lt : rb < W.heap.size
  c0 : W.cell? ⟨rb, 0, none⟩ = some (.pointer (some ⟨tb, 0, none⟩))
  c1 : W.cell? ⟨rb, 1, none⟩ = some (.pointer (some ⟨nb, 0, none⟩))
  c2 : W.cell? ⟨rb, 2, none⟩ = some f
  z : ∀ j, W.frozen? ⟨rb, j, none⟩ = false
section
variable {W W' : World} {rb tb nb : Nat} {f : Value}
theorem RdB.kept {row : Option Nat} (h : RdB W rb tb nb f) (g : W.grownBy W' row) (hr : row ≠ some rb) : RdB W' rb tb nb f := by
  have e := g.block rb h.lt (fun q => hr q.symm)
  have hc : ∀ j, W'.cell? ⟨rb, j, none⟩ = W.cell? ⟨rb, j, none⟩ := fun j => World.cell?_of_block (w := W) e
  have hz : ∀ j, W'.frozen? ⟨rb, j, none⟩ = W.frozen? ⟨rb, j, none⟩ := fun j => by simp only [World.frozen?, e]
  exact ⟨Nat.lt_of_lt_of_le h.lt g.size, (hc 0).trans h.c0, (hc 1).trans h.c1, (hc 2).trans h.c2, fun j => (hz j).trans (h.z j)⟩
theorem RdB.now (h : RdB W rb tb nb f) (n : Nat) : RdB (W.setCell ⟨rb, 1, none⟩ (.pointer (some ⟨n, 0, none⟩))) rb tb n f :=
  ⟨by simp; exact h.lt, by simp [go_sem, h.c0], by simp [go_sem, h.c1], by simp [go_sem, h.c2], fun j => by simp [go_sem, h.z j]⟩
theorem RdB.take (h : RdB W rb tb nb f) (f' : Value) : RdB (W.setCell ⟨rb, 2, none⟩ f') rb tb nb f' :=
  ⟨by simp; exact h.lt, by simp [go_sem, h.c0], by simp [go_sem, h.c1], by simp [go_sem, h.c2], fun j => by simp [go_sem, h.z j]⟩
end

/-- the reader as a whole; S holds what is finished, own what is still written in -/
structure RdO (W : World) (base : Nat) (EW EN : TypeId) (S : Nat → Prop) (rb tb nb : Nat) (own : List Nat) (r : Rd) : Prop where
  ch : Ch S W base EW EN tb r.top r.st nb own
  nd : own.Nodup
  rn : rb ∉ own
  rS : ¬ S rb
  rb_ : base ≤ rb ∧ rb < W.heap.size
  ob_ : ∀ x, x ∈ own → base ≤ x ∧ x < W.heap.size ∧ ¬ S x
  sb : ∀ x, S x → base ≤ x ∧ x < W.heap.size
section
variable {W W1 W2 W' : World} {base rb tb nb : Nat} {EW EN : TypeId} {S : Nat → Prop} {own : List Nat} {top : List Nd} {st : List Fr} {go : Bool}
theorem RdO.kept {row : Option Nat} (h : RdO W base EW EN S rb tb nb own ⟨go, top, st⟩) (g : W.grownBy W' row) (hr : ∀ x, row = some x → x ∉ own ∧ ¬ S x) (go' : Bool) : RdO W' base EW EN S rb tb nb own ⟨go', top, st⟩ :=
  ⟨h.ch.kept g (fun x hx => (h.sb x hx).2) (fun x q => (hr x q).2) (fun x q => (hr x q).1), h.nd, h.rn, h.rS, ⟨h.rb_.1, Nat.lt_of_lt_of_le h.rb_.2 g.size⟩,
    fun x hx => ⟨(h.ob_ x hx).1, Nat.lt_of_lt_of_le (h.ob_ x hx).2.1 g.size, (h.ob_ x hx).2.2⟩, fun x hx => ⟨(h.sb x hx).1, Nat.lt_of_lt_of_le (h.sb x hx).2 g.size⟩⟩
/-- a block as it is laid -/
theorem itb_new {b : Nat} {s : List UInt8} {a d : Nat} {out : Value} {T : TypeId} (hb : W.heap[b]? = some (.cells #[.string ⟨s.toArray⟩, .int .i64 a, .slice none 0 0, .bool false, .slice none 0 0, out, .int .i64 d] T (0, 0))) :
    ItB S W base EW EN b ⟨s, a, [], false, []⟩ (.slice none 0 0) (.slice none 0 0) out d := by
  obtain ⟨hlt, hk⟩ := Array.getElem?_eq_some_iff.1 hb
  refine ⟨hlt, ?_, ?_, ?_, ?_, ?_, ?_, ?_, fun j => ?_, World.ownsRow_nil _ _ _ _, [], World.ownsRow_nil _ _ _ _, rfl⟩
  all_goals simp [World.cell?, World.frozen?, hb]
/-- an item begins -/
theorem RdO.push {b : Nat} {t : Tk} {T : TypeId} (h : RdO W base EW EN S rb tb nb own ⟨go, top, st⟩) (g : W.grownBy W' (some rb)) (hb : W'.heap[b]? = some (.cells #[.string ⟨t.s.toArray⟩, .int .i64 t.a, .slice none 0 0, .bool false, .slice none 0 0, .pointer (some ⟨nb, 0, none⟩), .int .i64 ((st.length : Int) + 1)] T (0, 0)))
    (hn : W.heap.size ≤ b) (go' : Bool) : RdO W' base EW EN S rb tb b (b :: own) ⟨go', top, ⟨t.s, t.a, [], false, []⟩ :: st⟩ := by
  have k := h.kept g (fun x q => by cases q; exact ⟨h.rn, h.rS⟩) go'
  have bl := (Array.getElem?_eq_some_iff.1 hb).1
  have e : ((st.length : Int) + 1) = ((st.length + 1 : Nat) : Int) := by omega
  rw [e] at hb
  refine ⟨⟨_, _, nb, own, itb_new hb, k.ch, by simp [ob, Value.ownBlock]⟩, List.nodup_cons.2 ⟨fun q => ?_, h.nd⟩, ?_, h.rS, k.rb_, fun x hx => ?_, k.sb⟩
  · have := (h.ob_ b q).2.1; omega
  · intro q
    rcases List.mem_cons.1 q with q | q
    · have := h.rb_.2; omega
    · exact h.rn q
  · rcases List.mem_cons.1 hx with rfl | hx
    · exact ⟨by have := h.rb_; omega, bl, fun s => by have := (h.sb x s).2; omega⟩
    · exact k.ob_ x hx
/-- the innermost item's parts -/
theorem RdO.head {f : Fr} (h : RdO W base EW EN S rb tb nb own ⟨go, top, f :: st⟩) : ∃ vw vk b' own', ItB S W base EW EN nb f vw vk (.pointer (some ⟨b', 0, none⟩)) (st.length + 1) ∧ Ch S W base EW EN tb top st b' own' ∧ own = nb :: (ob vw ++ ob vk ++ own') := h.ch
/-- .. one of its cells is written: it is made a block -/
theorem RdO.block {f : Fr} (h : RdO W base EW EN S rb tb nb own ⟨go, top, f :: st⟩) (go' : Bool) : RdO (W.setCell ⟨nb, 3, none⟩ (.bool true)) base EW EN S rb tb nb own ⟨go', top, { f with block := true } :: st⟩ := by
  obtain ⟨vw, vk, b', own', I, C, e⟩ := h.head
  have g := gset W nb 3 (.bool true)
  have nS : ¬ S nb := (h.ob_ nb (by rw [e]; simp)).2.2
  have nd := h.nd
  rw [e] at nd
  simp only [List.nodup_cons, List.mem_append, not_or] at nd
  obtain ⟨xs, k1, k2⟩ := I.kk
  have sy : Stay S W (W.setCell ⟨nb, 3, none⟩ (.bool true)) := fun x hx => g.block x (h.sb x hx).2 (fun q => by cases q; exact nS hx)
  refine ⟨⟨vw, vk, b', own', ⟨by simp; exact I.lt, by simp [go_sem, I.c0], by simp [go_sem, I.c1], by simp [go_sem, I.c2], by simp [go_sem, I.c3], by simp [go_sem, I.c4], by simp [go_sem, I.c5], by simp [go_sem, I.c6], fun j => by simp [go_sem, I.z j], ?_, xs, ?_, k2.kept sy⟩, ?_, e⟩, h.nd, h.rn, h.rS, ?_, ?_, ?_⟩
  · exact row_kept I.ww g (fun x q z => by cases z; exact nd.1.1.1 (mem_ob.2 q))
  · exact row_kept k1 g (fun x q z => by cases z; exact nd.1.1.2 (mem_ob.2 q))
  · exact C.kept g (fun x hx => (h.sb x hx).2) (fun x q => by cases q; exact nS) (fun x q => by cases q; exact nd.1.2)
  · exact ⟨h.rb_.1, by simp; exact h.rb_.2⟩
  · exact fun x hx => ⟨(h.ob_ x hx).1, by simp; exact (h.ob_ x hx).2.1, (h.ob_ x hx).2.2⟩
  · exact fun x hx => ⟨(h.sb x hx).1, by simp; exact (h.sb x hx).2⟩

/-! what stays where blocks are the same -/
theorem row_same {E : TypeId} {size n : Nat} {v : Value} {xs : List Value} (h : W.ownsRow base E size v n xs) (k : ∀ x, v.ownBlock = some x → W'.heap[x]? = W.heap[x]?) : W'.ownsRow base E size v n xs := by
  refine ⟨h.1, ?_⟩
  rcases h.2 with q | ⟨g, cap, cur, hv, hb, hg, r⟩
  · exact .inl q
  · exact .inr ⟨g, cap, cur, hv, hb, (k g (by rw [hv]; rfl)).trans hg, r⟩
theorem itb_same {b d : Nat} {f : Fr} {vw vk out : Value} (h : ItB S W base EW EN b f vw vk out d) (e : W'.heap[b]? = W.heap[b]?) (hw : ∀ x, x ∈ ob vw → W'.heap[x]? = W.heap[x]?) (hk : ∀ x, x ∈ ob vk → W'.heap[x]? = W.heap[x]?) (sy : Stay S W W') :
    ItB S W' base EW EN b f vw vk out d := by
  have hc : ∀ j, W'.cell? ⟨b, j, none⟩ = W.cell? ⟨b, j, none⟩ := fun j => World.cell?_of_block (w := W) e
  have hz : ∀ j, W'.frozen? ⟨b, j, none⟩ = W.frozen? ⟨b, j, none⟩ := fun j => by simp only [World.frozen?, e]
  obtain ⟨xs, h1, h2⟩ := h.kk
  have lt : b < W'.heap.size := by
    rcases Nat.lt_or_ge b W'.heap.size with q | q
    · exact q
    · rw [Array.getElem?_eq_none q] at e
      have := h.lt
      rw [Array.getElem?_eq_getElem this] at e
      cases e
  exact ⟨lt, (hc 0).trans h.c0, (hc 1).trans h.c1, (hc 2).trans h.c2, (hc 3).trans h.c3, (hc 4).trans h.c4, (hc 5).trans h.c5, (hc 6).trans h.c6, fun j => (hz j).trans (h.z j),
    row_same h.ww (fun x q => hw x (mem_ob.2 q)), xs, row_same h1 (fun x q => hk x (mem_ob.2 q)), h2.kept sy⟩
theorem ch_same (sy : Stay S W W') : ∀ {st : List Fr} {b : Nat} {own : List Nat}, Ch S W base EW EN tb top st b own → (∀ x, x ∈ own → W'.heap[x]? = W.heap[x]?) → Ch S W' base EW EN tb top st b own
  | [], b, own, h, ho => by
    obtain ⟨e, vw, vk, h, e2⟩ := h
    refine ⟨e, vw, vk, itb_same h (ho b (by rw [e2]; simp)) (fun x q => ho x ?_) (fun x q => ho x ?_) sy, e2⟩
    · rw [e2]; simp [q]
    · rw [e2]; simp [q]
  | f :: st, b, own, h, ho => by
    obtain ⟨vw, vk, b', own', h, hc, e2⟩ := h
    refine ⟨vw, vk, b', own', itb_same h (ho b (by rw [e2]; simp)) (fun x q => ho x ?_) (fun x q => ho x ?_) sy, ch_same sy hc (fun x q => ho x ?_), e2⟩
    · rw [e2]; simp [q]
    · rw [e2]; simp [q]
    · rw [e2]; simp [q]

/-- a word is put behind: W1 is W but for what is new; v', in block g, is the longer row -/
theorem RdO.word {f : Fr} {x : Wd} {vw vk : Value} {b' g n cap : Nat} {own' : List Nat} {v' : Value} (h : RdO W base EW EN S rb tb nb own ⟨go, top, f :: st⟩)
    (I : ItB S W base EW EN nb f vw vk (.pointer (some ⟨b', 0, none⟩)) (st.length + 1)) (C : Ch S W base EW EN tb top st b' own') (e : own = nb :: (ob vw ++ ob vk ++ own'))
    (hs : W.heap.size ≤ W2.heap.size) (hsame : ∀ y, y < W.heap.size → vw.ownBlock ≠ some y → W2.heap[y]? = W.heap[y]?) (hv : v' = .slice (some ⟨g, 0, none⟩) n cap)
    (hw : W2.ownsRow base EW 4 v' (f.words.length + 1) (wcells f.words ++ wcell x)) (hat : vw.ownBlock = some g ∨ W.heap.size ≤ g) (go' : Bool) :
    ∃ own2, RdO (W2.setCell ⟨nb, 2, none⟩ v') base EW EN S rb tb nb own2 ⟨go', top, { f with words := f.words ++ [x] } :: st⟩ := by
  have nd := h.nd
  rw [e] at nd
  simp only [List.nodup_cons, List.mem_append, not_or, List.nodup_append] at nd
  have obx : ∀ y, y ∈ own → y < W.heap.size ∧ ¬ S y ∧ base ≤ y := fun y hy => ⟨(h.ob_ y hy).2.1, (h.ob_ y hy).2.2, (h.ob_ y hy).1⟩
  rw [e] at obx
  simp only [List.mem_cons, List.mem_append] at obx
  have g_new : g ≠ nb ∧ g ∉ ob vk ∧ g ∉ own' ∧ g ≠ rb ∧ ¬ S g := by
    rcases hat with q | q
    · have q' := mem_ob.2 q
      have rn := h.rn
      rw [e] at rn
      simp only [List.mem_cons, List.mem_append, not_or] at rn
      exact ⟨fun z => nd.1.1.1 (z ▸ q'), fun z => nd.2.1.2.2 g q' g z rfl, fun z => nd.2.2.2 g (.inl q') g z rfl, fun z => rn.2.1.1 (z ▸ q'), (obx g (.inr (.inl (.inl q')))).2.1⟩
    · exact ⟨fun z => by have := (obx nb (.inl rfl)).1; omega, fun z => by have := (obx g (.inr (.inl (.inr z)))).1; omega, fun z => by have := (obx g (.inr (.inr z))).1; omega, fun z => by have := h.rb_; omega, fun z => by have := (h.sb g z).2; omega⟩
  have s1 : ∀ y, y < W.heap.size → y ≠ nb → vw.ownBlock ≠ some y → (W2.setCell ⟨nb, 2, none⟩ v').heap[y]? = W.heap[y]? := fun y hy ne q => ((gset W2 nb 2 v').block y (by omega) (fun z => ne (by cases z; rfl))).trans (hsame y hy q)
  have nw : vw.ownBlock ≠ some nb := fun q => nd.1.1.1 (mem_ob.2 q)
  have sy : Stay S W (W2.setCell ⟨nb, 2, none⟩ v') := fun y hy => s1 y (h.sb y hy).2 (fun z => (obx nb (.inl rfl)).2.1 (z ▸ hy)) (fun q => (obx y (.inr (.inl (.inl (mem_ob.2 q))))).2.1 hy)
  obtain ⟨xs, k1, k2⟩ := I.kk
  have hc : ∀ j, W2.cell? ⟨nb, j, none⟩ = W.cell? ⟨nb, j, none⟩ := fun j => World.cell?_of_block (w := W) (hsame nb I.lt nw)
  have hz : ∀ j, W2.frozen? ⟨nb, j, none⟩ = W.frozen? ⟨nb, j, none⟩ := fun j => by simp only [World.frozen?, hsame nb I.lt nw]
  have og : ob v' = [g] := by rw [hv]; rfl
  have gl : base ≤ g ∧ g < W2.heap.size := row_in hw (x := g) (by rw [hv]; rfl)
  refine ⟨nb :: (ob v' ++ ob vk ++ own'), ⟨v', vk, b', own', ⟨by simp; exact Nat.lt_of_lt_of_le I.lt hs, by simp [go_sem, hc, I.c0], by simp [go_sem, hc, I.c1], by simp [go_sem, hc, I.c2], by simp [go_sem, hc, I.c3], by simp [go_sem, hc, I.c4], by simp [go_sem, hc, I.c5], by simp [go_sem, hc, I.c6], fun j => by simp [go_sem, hz, I.z j], ?_, xs, ?_, k2.kept sy⟩, ?_, rfl⟩, ?_, ?_, h.rS, ?_, ?_, ?_⟩
  · show World.ownsRow _ base EW 4 v' (f.words ++ [x]).length (wcells (f.words ++ [x]))
    rw [List.length_append, wcells_snoc]
    exact row_kept hw (gset W2 nb 2 v') (fun y q z => by rw [hv] at q; have : g = y := by simpa [Value.ownBlock] using q
                                                         cases z; exact g_new.1 this)
  · exact row_same k1 (fun y q => s1 y (obx y (.inr (.inl (.inr (mem_ob.2 q))))).1 (fun z => nd.1.1.2 (z ▸ mem_ob.2 q)) (fun q2 => nd.2.1.2.2 y (mem_ob.2 q2) y (mem_ob.2 q) rfl))
  · exact ch_same sy C (fun y hy => s1 y (obx y (.inr (.inr hy))).1 (fun z => nd.1.2 (z ▸ hy)) (fun q2 => nd.2.2.2 y (.inl (mem_ob.2 q2)) y hy rfl))
  · rw [og]
    simp only [List.nodup_cons, List.mem_append, not_or, List.nodup_append, List.mem_cons, List.not_mem_nil, or_false]
    refine ⟨⟨⟨fun z => g_new.1 z.symm, nd.1.1.2⟩, nd.1.2⟩, ⟨⟨by simp, nd.2.1.2.1, fun y hy z hz q => ?_⟩, nd.2.2.1, fun y hy z hz q => ?_⟩⟩
    · subst q; subst hy; exact g_new.2.1 hz
    · subst q
      rcases hy with hy | hy
      · subst hy; exact g_new.2.2.1 hz
      · exact nd.2.2.2 y (.inr hy) y hz rfl
  · rw [og]
    have rn := h.rn
    rw [e] at rn
    simp only [List.mem_cons, List.mem_append, not_or, List.not_mem_nil, or_false] at rn ⊢
    exact ⟨rn.1, ⟨fun z => g_new.2.2.2.1 z.symm, rn.2.1.2⟩, rn.2.2⟩
  · exact ⟨h.rb_.1, by simp; exact Nat.lt_of_lt_of_le h.rb_.2 hs⟩
  · rw [og]
    intro y hy
    simp only [List.mem_cons, List.mem_append, List.not_mem_nil, or_false] at hy
    simp only [World.size_setCell]
    rcases hy with rfl | (rfl | hy) | hy
    · exact ⟨(obx _ (.inl rfl)).2.2, Nat.lt_of_lt_of_le (obx _ (.inl rfl)).1 hs, (obx _ (.inl rfl)).2.1⟩
    · exact ⟨gl.1, gl.2, g_new.2.2.2.2⟩
    · have o := obx y (.inr (.inl (.inr hy))); exact ⟨o.2.2, Nat.lt_of_lt_of_le o.1 hs, o.2.1⟩
    · have o := obx y (.inr (.inr hy)); exact ⟨o.2.2, Nat.lt_of_lt_of_le o.1 hs, o.2.1⟩
  · exact fun y hy => ⟨(h.sb y hy).1, by simp; exact Nat.lt_of_lt_of_le (h.sb y hy).2 hs⟩

/-- an item, and what stands around it -/
def Out (S : Nat → Prop) (W : World) (base : Nat) (EW EN : TypeId) (tb : Nat) (top : List Nd) (st : List Fr) (b : Nat) (fo : Fr) (out : Value) (own1 : List Nat) : Prop :=
  (st = [] ∧ b = tb ∧ fo = tf top ∧ out = .pointer none ∧ own1 = []) ∨ ∃ r b'', st = fo :: r ∧ out = .pointer (some ⟨b'', 0, none⟩) ∧ Ch S W base EW EN tb top r b'' own1
/-- the item in which another one stands -/
theorem Ch.outer {b : Nat} (h : Ch S W base EW EN tb top st b own) : ∃ fo vw vk out own1 xs, ItB S W base EW EN b fo vw vk out st.length ∧ own = b :: (ob vw ++ ob vk ++ own1) ∧ W.ownsRow base EN 5 vk fo.kids.length xs ∧ NCells S W xs fo.kids ∧ Out S W base EW EN tb top st b fo out own1 := by
  cases st with
  | nil =>
    obtain ⟨e, vw, vk, I, e2⟩ := h
    obtain ⟨xs, k1, k2⟩ := I.kk
    exact ⟨_, vw, vk, _, [], xs, I, by rw [e2]; simp, k1, k2, .inl ⟨rfl, e, rfl, rfl, rfl⟩⟩
  | cons f st =>
    obtain ⟨vw, vk, b', own', I, hc, e2⟩ := h
    obtain ⟨xs, k1, k2⟩ := I.kk
    exact ⟨_, vw, vk, _, own', xs, I, e2, k1, k2, .inr ⟨st, b', rfl, rfl, hc⟩⟩
/-- an item ends: its cells are put behind the kids of the one in which it stands -/
theorem RdO.shut {W3 : World} {f fo : Fr} {vw vk vwo vko outo : Value} {b' g n cap : Nat} {own' own1 : List Nat} {v' : Value} {xs : List Value} (h : RdO W base EW EN S rb tb nb own ⟨go, top, f :: st⟩)
    (I : ItB S W base EW EN nb f vw vk (.pointer (some ⟨b', 0, none⟩)) (st.length + 1)) (e : own = nb :: (ob vw ++ ob vk ++ own')) (Co : Out S W base EW EN tb top st b' fo outo own1)
    (Io : ItB S W base EW EN b' fo vwo vko outo st.length) (eo : own' = b' :: (ob vwo ++ ob vko ++ own1)) (x1 : W.ownsRow base EN 5 vko fo.kids.length xs) (x2 : NCells S W xs fo.kids)
    (hs : W.heap.size ≤ W3.heap.size) (hsame : ∀ y, y < W.heap.size → y ≠ rb → y ≠ b' → vko.ownBlock ≠ some y → W3.heap[y]? = W.heap[y]?) (hv : v' = .slice (some ⟨g, 0, none⟩) n cap)
    (hcell : ∀ j, W3.cell? ⟨b', j, none⟩ = if j = 4 then some v' else W.cell? ⟨b', j, none⟩) (hz : ∀ j, W3.frozen? ⟨b', j, none⟩ = false)
    (hw : W3.ownsRow base EN 5 v' (fo.kids.length + 1) (xs ++ [.string ⟨f.name.toArray⟩, .int .i64 f.a, vw, .bool f.block, vk])) (hat : vko.ownBlock = some g ∨ W.heap.size ≤ g) :
    ∃ (S2 : Nat → Prop) (own2 : List Nat), (∀ y, S y → S2 y) ∧ RdO W3 base EW EN S2 rb tb b' own2 (shut top (f :: st)) := by
  have nd := h.nd
  rw [e, eo] at nd
  simp only [List.nodup_cons, List.mem_append, not_or, List.nodup_append, List.mem_cons] at nd
  have obx : ∀ y, y ∈ own → y < W.heap.size ∧ ¬ S y ∧ base ≤ y := fun y hy => ⟨(h.ob_ y hy).2.1, (h.ob_ y hy).2.2, (h.ob_ y hy).1⟩
  have rn := h.rn
  rw [e, eo] at obx rn
  simp only [List.mem_cons, List.mem_append, not_or] at obx rn
  obtain ⟨⟨⟨n1, n2⟩, n3, ⟨n4, n5⟩, n6⟩, ⟨⟨p1, p2, p3⟩, ⟨⟨⟨q1, q2⟩, q3⟩, ⟨⟨r1, r2, r3⟩, r4, r5⟩⟩, p4⟩⟩ := nd
  have g_new : g ≠ nb ∧ g ≠ b' ∧ g ∉ ob vw ∧ g ∉ ob vk ∧ g ∉ ob vwo ∧ g ∉ own1 ∧ g ≠ rb ∧ ¬ S g := by
    rcases hat with q | q
    · have q' := mem_ob.2 q
      exact ⟨fun z => n5 (z ▸ q'), fun z => q2 (z ▸ q'), fun z => p4 g (.inl z) g (.inr (.inl (.inr q'))) rfl, fun z => p4 g (.inr z) g (.inr (.inl (.inr q'))) rfl, fun z => r3 g z g q' rfl, fun z => r5 g (.inr q') g z rfl, fun z => rn.2.2.2.1.2 (z ▸ q'), (obx g (.inr (.inr (.inr (.inl (.inr q')))))).2.1⟩
    · exact ⟨fun z => by have := (obx nb (.inl rfl)).1; omega, fun z => by have := (obx b' (.inr (.inr (.inl rfl)))).1; omega, fun z => by have := (obx g (.inr (.inl (.inl z)))).1; omega, fun z => by have := (obx g (.inr (.inl (.inr z)))).1; omega,
        fun z => by have := (obx g (.inr (.inr (.inr (.inl (.inl z)))))).1; omega, fun z => by have := (obx g (.inr (.inr (.inr (.inr z))))).1; omega, fun z => by have := h.rb_; omega, fun z => by have := (h.sb g z).2; omega⟩
  have sy : Stay S W W3 := fun y hy => hsame y (h.sb y hy).2 (fun z => h.rS (z ▸ hy)) (fun z => (obx b' (.inr (.inr (.inl rfl)))).2.1 (z ▸ hy)) (fun q => (obx y (.inr (.inr (.inr (.inl (.inr (mem_ob.2 q))))))).2.1 hy)
  -- the finished item
  have kw : ∀ y, vw.ownBlock = some y → W3.heap[y]? = W.heap[y]? := fun y q => by
    have m := mem_ob.2 q
    exact hsame y (obx y (.inr (.inl (.inl m)))).1 (fun z => rn.2.1.1 (z ▸ m)) (fun z => p4 y (.inl m) b' (.inl rfl) z) (fun q2 => p4 y (.inl m) y (.inr (.inl (.inr (mem_ob.2 q2)))) rfl)
  have kk : ∀ y, vk.ownBlock = some y → W3.heap[y]? = W.heap[y]? := fun y q => by
    have m := mem_ob.2 q
    exact hsame y (obx y (.inr (.inl (.inr m)))).1 (fun z => rn.2.1.2 (z ▸ m)) (fun z => p4 y (.inr m) b' (.inl rfl) z) (fun q2 => p4 y (.inr m) y (.inr (.inl (.inr (mem_ob.2 q2)))) rfl)
  obtain ⟨ys, y1, y2⟩ := I.kk
  let S2 : Nat → Prop := fun y => S y ∨ vw.ownBlock = some y ∨ vk.ownBlock = some y
  have mono : ∀ y, S y → S2 y := fun y hy => .inl hy
  have node : NCell S2 W3 [.string ⟨f.name.toArray⟩, .int .i64 f.a, vw, .bool f.block, vk] f.nd :=
    ⟨vw, vk, rfl, row_words (row_same I.ww kw) (fun y q => .inr (.inl q)), row_kids (row_same y1 kk) ((y2.kept sy).mono mono) (fun y q => .inr (.inr q))⟩
  have og : ob v' = [g] := by rw [hv]; rfl
  have gl : base ≤ g ∧ g < W3.heap.size := row_in hw (x := g) (by rw [hv]; rfl)
  have kwo : ∀ y, vwo.ownBlock = some y → W3.heap[y]? = W.heap[y]? := fun y q => by
    have m := mem_ob.2 q
    exact hsame y (obx y (.inr (.inr (.inr (.inl (.inl m)))))).1 (fun z => rn.2.2.2.1.1 (z ▸ m)) (fun z => q1 (z ▸ m)) (fun q2 => r3 y m y (mem_ob.2 q2) rfl)
  have k1 : ∀ y, y ∈ own1 → W3.heap[y]? = W.heap[y]? := fun y m => hsame y (obx y (.inr (.inr (.inr (.inr m))))).1 (fun z => rn.2.2.2.2 (z ▸ m)) (fun z => q3 (z ▸ m)) (fun q2 => r5 y (.inr (mem_ob.2 q2)) y m rfl)
  have In : ItB S2 W3 base EW EN b' { fo with kids := fo.kids ++ [f.nd] } vwo v' outo st.length := by
    refine ⟨Nat.lt_of_lt_of_le Io.lt hs, by rw [hcell]; simp; exact Io.c0, by rw [hcell]; simp; exact Io.c1, by rw [hcell]; simp; exact Io.c2, by rw [hcell]; simp; exact Io.c3, by rw [hcell]; simp, by rw [hcell]; simp; exact Io.c5, by rw [hcell]; simp; exact Io.c6, hz, row_same Io.ww kwo, _, ?_, ((x2.kept sy).mono mono).snoc node⟩
    rw [List.length_append]
    exact hw
  refine ⟨S2, b' :: (ob vwo ++ ob v' ++ own1), mono, ?_⟩
  have chn : Ch S2 W3 base EW EN tb (Go.Proofs.YtabhbcedldjjjaaGreatDoor.Ym.shut top (f :: st)).top (Go.Proofs.YtabhbcedldjjjaaGreatDoor.Ym.shut top (f :: st)).st b' (b' :: (ob vwo ++ ob v' ++ own1)) := by
    rcases Co with ⟨rfl, eb, rfl, rfl, rfl⟩ | ⟨r, b'', rfl, rfl, Cr⟩
    · exact ⟨eb, vwo, v', In, by simp⟩
    · exact ⟨vwo, v', b'', own1, In, (ch_same sy Cr k1).mono mono, rfl⟩
  have goF : (Go.Proofs.YtabhbcedldjjjaaGreatDoor.Ym.shut top (f :: st)) = ⟨(Go.Proofs.YtabhbcedldjjjaaGreatDoor.Ym.shut top (f :: st)).go, (Go.Proofs.YtabhbcedldjjjaaGreatDoor.Ym.shut top (f :: st)).top, (Go.Proofs.YtabhbcedldjjjaaGreatDoor.Ym.shut top (f :: st)).st⟩ := rfl
  refine ⟨chn, ?_, ?_, ?_, ⟨h.rb_.1, Nat.lt_of_lt_of_le h.rb_.2 hs⟩, ?_, ?_⟩
  · rw [og]
    simp only [List.nodup_cons, List.mem_append, not_or, List.nodup_append, List.mem_cons, List.not_mem_nil, or_false]
    refine ⟨⟨⟨q1, fun z => g_new.2.1 z.symm⟩, q3⟩, ⟨r1, by simp, fun y hy z hz q => ?_⟩, r4, fun y hy z hz q => ?_⟩
    · subst q; subst hz; exact g_new.2.2.2.2.1 hy
    · subst q
      rcases hy with hy | hy
      · exact r5 y (.inl hy) y hz rfl
      · subst hy; exact g_new.2.2.2.2.2.1 hz
  · rw [og]
    simp only [List.mem_cons, List.mem_append, not_or, List.not_mem_nil, or_false]
    exact ⟨rn.2.2.1, ⟨rn.2.2.2.1.1, fun z => g_new.2.2.2.2.2.2.1 z.symm⟩, rn.2.2.2.2⟩
  · rintro (s | s | s)
    · exact h.rS s
    · exact rn.2.1.1 (mem_ob.2 s)
    · exact rn.2.1.2 (mem_ob.2 s)
  · rw [og]
    intro y hy
    simp only [List.mem_cons, List.mem_append, List.not_mem_nil, or_false] at hy
    have key : ∀ y, (y = b' ∨ y ∈ ob vwo ∨ y ∈ own1) → base ≤ y ∧ y < W3.heap.size ∧ ¬ S2 y := fun y hy => by
      have m : y = nb ∨ ((y ∈ ob vw ∨ y ∈ ob vk) ∨ (y = b' ∨ ((y ∈ ob vwo ∨ y ∈ ob vko) ∨ y ∈ own1))) := by
        rcases hy with q | q | q
        · exact .inr (.inr (.inl q))
        · exact .inr (.inr (.inr (.inl (.inl q))))
        · exact .inr (.inr (.inr (.inr q)))
      have o := obx y m
      refine ⟨o.2.2, Nat.lt_of_lt_of_le o.1 hs, ?_⟩
      have d : ∀ z, (z ∈ ob vw ∨ z ∈ ob vk) → z ≠ y := fun z hz q => by
        refine p4 z hz y ?_ q
        rcases hy with q | q | q
        · exact .inl q
        · exact .inr (.inl (.inl q))
        · exact .inr (.inr q)
      rintro (s | s | s)
      · exact o.2.1 s
      · exact d y (.inl (mem_ob.2 s)) rfl
      · exact d y (.inr (mem_ob.2 s)) rfl
    rcases hy with hy | (hy | rfl) | hy
    · exact key y (.inl hy)
    · exact key y (.inr (.inl hy))
    · refine ⟨gl.1, gl.2, ?_⟩
      rintro (s | s | s)
      · exact g_new.2.2.2.2.2.2.2 s
      · exact g_new.2.2.1 (mem_ob.2 s)
      · exact g_new.2.2.2.1 (mem_ob.2 s)
    · exact key y (.inr (.inr hy))
  · rintro y (s | s | s)
    · exact ⟨(h.sb y s).1, Nat.lt_of_lt_of_le (h.sb y s).2 hs⟩
    · have o := obx y (.inr (.inl (.inl (mem_ob.2 s)))); exact ⟨o.2.2, Nat.lt_of_lt_of_le o.1 hs⟩
    · have o := obx y (.inr (.inl (.inr (mem_ob.2 s)))); exact ⟨o.2.2, Nat.lt_of_lt_of_le o.1 hs⟩
end

end Go.Proofs.YtabhbcedldjjjaaGreatDoor.Ym
