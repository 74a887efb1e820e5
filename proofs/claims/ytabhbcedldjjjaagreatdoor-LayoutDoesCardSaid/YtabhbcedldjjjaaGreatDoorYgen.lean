/- Items of any kind in memory (any whole numbers, any texts), what may be of them, and the items that a text is read as among them. -/
import Derived.Test.YtabhbcedldjjjaaGreatDoorYrow
import Derived.Test.YtabhbcedldjjjaaGreatDoorJYa
namespace Go.Proofs.YtabhbcedldjjjaaGreatDoor.Yg
set_option linter.unusedSimpArgs false
set_option linter.unusedVariables false
open Go Go.RowKit Go.Proofs.YtabhbcedldjjjaaGreatDoor.Zm Go.Proofs.YtabhbcedldjjjaaGreatDoor.Ym

structure WI where
  num : Bool
  n : Int
  s : ByteArray
  a : Int
inductive NI where
  | mk (nm : ByteArray) (a : Int) (ws : List WI) (b : Bool) (ks : List NI)

def WI.cells (x : WI) : List Value := [.bool x.num, .int .i64 x.n, .string x.s, .int .i64 x.a]
def WI.val (x : WI) : Value := .agg #[.bool x.num, .int .i64 x.n, .string x.s, .int .i64 x.a]
def WAt (S : Nat → Prop) (W : World) (g o : Nat) (x : WI) : Prop :=
  S g ∧ W.cell? ⟨g, o, none⟩ = some (.bool x.num) ∧ W.cell? ⟨g, o + 1, none⟩ = some (.int .i64 x.n) ∧ W.cell? ⟨g, o + 2, none⟩ = some (.string x.s) ∧ W.cell? ⟨g, o + 3, none⟩ = some (.int .i64 x.a)
def WsFrom (S : Nat → Prop) (W : World) (g : Nat) : Nat → List WI → Prop
  | _, [] => True
  | o, x :: l => WAt S W g o x ∧ WsFrom S W g (o + 4) l
def WsV (S : Nat → Prop) (W : World) (v : Value) (l : List WI) : Prop :=
  ∃ ptr cap, v = .slice ptr l.length cap ∧ (l = [] ∨ ∃ g o, ptr = some ⟨g, o, none⟩ ∧ WsFrom S W g o l)
mutual
def NAt (S : Nat → Prop) (W : World) (g o : Nat) : NI → Prop
  | .mk nm a ws b ks => S g ∧ W.cell? ⟨g, o, none⟩ = some (.string nm) ∧ W.cell? ⟨g, o + 1, none⟩ = some (.int .i64 a) ∧
    (∃ v, W.cell? ⟨g, o + 2, none⟩ = some v ∧ WsV S W v ws) ∧ W.cell? ⟨g, o + 3, none⟩ = some (.bool b) ∧
    ∃ ptr cap, W.cell? ⟨g, o + 4, none⟩ = some (.slice ptr ks.length cap) ∧ (ks = [] ∨ ∃ g' o', ptr = some ⟨g', o', none⟩ ∧ NsFrom S W g' o' ks)
def NsFrom (S : Nat → Prop) (W : World) (g o : Nat) : List NI → Prop
  | [] => True
  | n :: l => NAt S W g o n ∧ NsFrom S W g (o + 5) l
end
def NsV (S : Nat → Prop) (W : World) (v : Value) (l : List NI) : Prop :=
  ∃ ptr cap, v = .slice ptr l.length cap ∧ (l = [] ∨ ∃ g o, ptr = some ⟨g, o, none⟩ ∧ NsFrom S W g o l)
/-- an item as a value -/
def NV (S : Nat → Prop) (W : World) (v : Value) : NI → Prop
  | .mk nm a ws b ks => ∃ vw vk, v = .agg #[.string nm, .int .i64 a, vw, .bool b, vk] ∧ WsV S W vw ws ∧ NsV S W vk ks

section
variable {S T : Nat → Prop} {W W' : World}
theorem WAt.kept {g o : Nat} {x : WI} (h : WAt S W g o x) (k : Stay S W W') : WAt S W' g o x := by
  obtain ⟨h0, h1, h2, h3, h4⟩ := h
  exact ⟨h0, (k.cell h0).trans h1, (k.cell h0).trans h2, (k.cell h0).trans h3, (k.cell h0).trans h4⟩
theorem WsFrom.kept {g o : Nat} {l : List WI} (h : WsFrom S W g o l) (k : Stay S W W') : WsFrom S W' g o l := by
  induction l generalizing o with
  | nil => trivial
  | cons x l ih => exact ⟨h.1.kept k, ih h.2⟩
theorem WsV.kept {v : Value} {l : List WI} (h : WsV S W v l) (k : Stay S W W') : WsV S W' v l := by
  obtain ⟨ptr, cap, e, h⟩ := h
  refine ⟨ptr, cap, e, ?_⟩
  rcases h with h | ⟨g, o, e, h⟩
  · exact .inl h
  · exact .inr ⟨g, o, e, h.kept k⟩
mutual
theorem NAt.kept (k : Stay S W W') : ∀ {g o : Nat} {n : NI}, NAt S W g o n → NAt S W' g o n
  | g, o, .mk nm a ws b ks, h => by
    simp only [NAt] at h ⊢
    obtain ⟨h0, h1, h2, ⟨v, h3, hv⟩, h4, ptr, cap, h5, hk⟩ := h
    refine ⟨h0, (k.cell h0).trans h1, (k.cell h0).trans h2, ⟨v, (k.cell h0).trans h3, hv.kept k⟩, (k.cell h0).trans h4, ptr, cap, (k.cell h0).trans h5, ?_⟩
    rcases hk with hk | ⟨g', o', e, hk⟩
    · exact .inl hk
    · exact .inr ⟨g', o', e, NsFrom.kept k hk⟩
theorem NsFrom.kept (k : Stay S W W') : ∀ {g o : Nat} {l : List NI}, NsFrom S W g o l → NsFrom S W' g o l
  | g, o, [], h => by simp [NsFrom]
  | g, o, n :: l, h => by
    simp only [NsFrom] at h ⊢
    exact ⟨NAt.kept k h.1, NsFrom.kept k h.2⟩
end
theorem NsV.kept {v : Value} {l : List NI} (h : NsV S W v l) (k : Stay S W W') : NsV S W' v l := by
  obtain ⟨ptr, cap, e, h⟩ := h
  refine ⟨ptr, cap, e, ?_⟩
  rcases h with h | ⟨g, o, e, h⟩
  · exact .inl h
  · exact .inr ⟨g, o, e, h.kept k⟩
theorem NV.kept {v : Value} {n : NI} (h : NV S W v n) (k : Stay S W W') : NV S W' v n := by
  cases n with
  | mk nm a ws b ks =>
    obtain ⟨vw, vk, e, h1, h2⟩ := h
    exact ⟨vw, vk, e, h1.kept k, h2.kept k⟩
/-- .. while the world grows -/
theorem NsV.on {v : Value} {l : List NI} (h : NsV S W v l) (hS : ∀ b, S b → b < W.heap.size) (B : Below W.heap.size W W') : NsV S W' v l := h.kept ((Stay.below B).mono hS)
theorem WsV.on {v : Value} {l : List WI} (h : WsV S W v l) (hS : ∀ b, S b → b < W.heap.size) (B : Below W.heap.size W W') : WsV S W' v l := h.kept ((Stay.below B).mono hS)
theorem NV.on {v : Value} {l : NI} (h : NV S W v l) (hS : ∀ b, S b → b < W.heap.size) (B : Below W.heap.size W W') : NV S W' v l := h.kept ((Stay.below B).mono hS)
theorem WsFrom.get {g o : Nat} {l : List WI} (h : WsFrom S W g o l) (i : Nat) (hi : i < l.length) : WAt S W g (o + i * 4) l[i] := by
  induction l generalizing o i with
  | nil => exact absurd hi (by simp)
  | cons n l ih =>
    cases i with
    | zero => simpa using h.1
    | succ i =>
      have := ih h.2 i (by simpa using hi)
      rw [show o + (i + 1) * 4 = o + 4 + i * 4 by omega]
      exact this
theorem NsFrom.get {g o : Nat} {l : List NI} (h : NsFrom S W g o l) (i : Nat) (hi : i < l.length) : NAt S W g (o + i * 5) l[i] := by
  induction l generalizing o i with
  | nil => exact absurd hi (by simp)
  | cons n l ih =>
    simp only [NsFrom] at h
    cases i with
    | zero => simpa using h.1
    | succ i =>
      have := ih h.2 i (by simpa using hi)
      rw [show o + (i + 1) * 5 = o + 5 + i * 5 by omega]
      exact this
/-- an item's cells, and what they hold as a value -/
theorem NAt.un {g o : Nat} {n : NI} (h : NAt S W g o n) : ∃ nm a ws b ks vw vk, n = .mk nm a ws b ks ∧ S g ∧ W.cell? ⟨g, o, none⟩ = some (.string nm) ∧ W.cell? ⟨g, o + 1, none⟩ = some (.int .i64 a) ∧ W.cell? ⟨g, o + 2, none⟩ = some vw ∧ W.cell? ⟨g, o + 3, none⟩ = some (.bool b) ∧ W.cell? ⟨g, o + 4, none⟩ = some vk ∧
    WsV S W vw ws ∧ NsV S W vk ks := by
  cases n with
  | mk nm a ws b ks =>
    simp only [NAt] at h
    obtain ⟨h0, h1, h2, ⟨v, h3, hv⟩, h4, p, c, h5, h6⟩ := h
    exact ⟨nm, a, ws, b, ks, v, _, rfl, h0, h1, h2, h3, h4, h5, hv, p, c, rfl, h6⟩
end

/-! ## how many, how deep -/
mutual
def cntN : NI → Nat
  | .mk _ _ _ _ ks => 1 + cntL ks
def cntL : List NI → Nat
  | [] => 0
  | n :: l => cntN n + cntL l
end
theorem cnt_get (l : List NI) (i : Nat) (hi : i < l.length) : cntN l[i] ≤ cntL l := by
  induction l generalizing i with
  | nil => exact absurd hi (by simp)
  | cons n l ih =>
    simp only [cntL]
    cases i with
    | zero => simp
    | succ i =>
      have := ih i (by simpa using hi)
      simp
      omega
theorem cnt_pos : ∀ n : NI, 1 ≤ cntN n
  | .mk _ _ _ _ ks => by simp only [cntN]; omega
theorem cnt_len (l : List NI) : l.length ≤ cntL l := by
  induction l with
  | nil => simp
  | cons n l ih =>
    simp only [cntL, List.length_cons]
    have := cnt_pos n
    omega

/-- texts are no longer than they may be in memory -/
def WI.Wf (x : WI) : Prop := x.s.size ≤ maxLen
mutual
def WfN : NI → Prop
  | .mk nm _ ws _ ks => nm.size ≤ maxLen ∧ (∀ x ∈ ws, x.Wf) ∧ WfL ks
def WfL : List NI → Prop
  | [] => True
  | n :: l => WfN n ∧ WfL l
end
theorem WfL.get {l : List NI} (h : WfL l) (i : Nat) (hi : i < l.length) : WfN l[i] := by
  induction l generalizing i with
  | nil => exact absurd hi (by simp)
  | cons n l ih =>
    simp only [WfL] at h
    cases i with
    | zero => exact h.1
    | succ i => exact ih h.2 i (by simpa using hi)

/-! ## the items that a text is read as -/
def embW (x : Wd) : WI := ⟨x.num, x.n, ⟨x.s.toArray⟩, x.a⟩
mutual
def embN : Nd → NI
  | .mk nm a ws b ks => .mk ⟨nm.toArray⟩ a (ws.map embW) b (embL ks)
def embL : List Nd → List NI
  | [] => []
  | n :: l => embN n :: embL l
end
theorem embL_map (l : List Nd) : embL l = l.map embN := by
  induction l with
  | nil => rfl
  | cons n l ih => simp [embL, ih]
theorem embL_len (l : List Nd) : (embL l).length = l.length := by rw [embL_map]; simp
section
variable {S : Nat → Prop} {W : World}
theorem ws_emb {g : Nat} : ∀ (l : List Wd) (o : Nat), WdsFrom S W g o l → WsFrom S W g o (l.map embW)
  | [], _, _ => trivial
  | x :: l, o, h => ⟨h.1, ws_emb l (o + 4) h.2⟩
theorem wsV_emb {v : Value} {l : List Wd} (h : WdsV S W v l) : WsV S W v (l.map embW) := by
  obtain ⟨p, c, e, h⟩ := h
  refine ⟨p, c, by simpa using e, ?_⟩
  rcases h with h | ⟨g, o, e, h⟩
  · exact .inl (by simp [h])
  · exact .inr ⟨g, o, e, ws_emb l o h⟩
mutual
theorem nAt_emb : ∀ {g o : Nat} (n : Nd), NdAt S W g o n → NAt S W g o (embN n)
  | g, o, .mk nm a ws b ks, h => by
    simp only [NdAt] at h
    simp only [embN, NAt, embL_len]
    obtain ⟨h0, h1, h2, ⟨v, h3, hv⟩, h4, ptr, cap, h5, hk⟩ := h
    refine ⟨h0, h1, h2, ⟨v, h3, wsV_emb hv⟩, h4, ptr, cap, h5, ?_⟩
    rcases hk with hk | ⟨g', o', e, hk⟩
    · exact .inl (by simp [hk, embL])
    · exact .inr ⟨g', o', e, nsFrom_emb ks hk⟩
theorem nsFrom_emb : ∀ {g o : Nat} (l : List Nd), NdsFrom S W g o l → NsFrom S W g o (embL l)
  | g, o, [], h => by simp [embL, NsFrom]
  | g, o, n :: l, h => by
    simp only [NdsFrom] at h
    simp only [embL, NsFrom]
    exact ⟨nAt_emb n h.1, nsFrom_emb l h.2⟩
end
theorem nsV_emb {v : Value} {l : List Nd} (h : NdsV S W v l) : NsV S W v (embL l) := by
  obtain ⟨p, c, e, h⟩ := h
  refine ⟨p, c, by rw [embL_len]; exact e, ?_⟩
  rcases h with h | ⟨g, o, e, h⟩
  · exact .inl (by simp [h, embL])
  · exact .inr ⟨g, o, e, nsFrom_emb l h⟩
end
mutual
theorem cnt_embN : ∀ n : Nd, cntN (embN n) = countN n
  | .mk _ _ _ _ ks => by simp only [embN, cntN, countN, cnt_embL ks]
theorem cnt_embL : ∀ l : List Nd, cntL (embL l) = countL l
  | [] => rfl
  | n :: l => by simp only [embL, cntL, countL, cnt_embN n, cnt_embL l]
end

/-! ## what may be -/
def FineW (x : WI) : Prop := (x.num = true ∧ x.s = ⟨#[]⟩ ∧ 0 ≤ x.n ∧ x.n ≤ 999999999) ∨ (x.num = false ∧ x.n = 0 ∧ Zm.name x.s.data.toList = true)
def HeadOk (nm : ByteArray) (ws : List WI) : Prop := ws.length ≤ 8 ∧ Zm.name nm.data.toList = true ∧ ∀ x ∈ ws, FineW x
open Classical in
mutual
/-- why an item can not be that stands in d blocks: 0 if it can, 1, or 7 -/
noncomputable def chkN (d : Nat) : NI → Nat
  | .mk nm _ ws b ks => if ¬ HeadOk nm ws ∨ (0 < ks.length ∧ b = false) then 1 else if b = true ∧ d = 6 then 7 else chkL (d + 1) ks
noncomputable def chkL (d : Nat) : List NI → Nat
  | [] => 0
  | n :: l => if chkN d n ≠ 0 then chkN d n else chkL d l
end
theorem chk_take (d : Nat) (l : List NI) (k : Nat) (hk : k < l.length) (h : chkL d (l.take k) = 0) : chkL d (l.take (k + 1)) = chkN d l[k] ∧ (chkN d l[k] ≠ 0 → chkL d l = chkN d l[k]) := by
  induction l generalizing k with
  | nil => exact absurd hk (by simp)
  | cons n l ih =>
    cases k with
    | zero =>
      simp only [List.take_succ_cons, List.take_zero, chkL, List.getElem_cons_zero]
      refine ⟨?_, fun q => by rw [if_pos q]⟩
      split
      · rfl
      · rename_i q; omega
    | succ k =>
      simp only [List.take_succ_cons, chkL, List.getElem_cons_succ] at h ⊢
      split at h
      · contradiction
      · rename_i q
        have := ih k (by simpa using hk) h
        rw [if_neg q, if_neg q]
        exact this
theorem chk_val : ∀ (d : Nat) (n : NI), chkN d n = 0 ∨ chkN d n = 1 ∨ chkN d n = 7 := by
  intro d n
  have key : ∀ (m : Nat), (∀ d n, cntN n ≤ m → chkN d n = 0 ∨ chkN d n = 1 ∨ chkN d n = 7) ∧ (∀ d l, cntL l ≤ m → chkL d l = 0 ∨ chkL d l = 1 ∨ chkL d l = 7) := by
    intro m
    induction m with
    | zero =>
      refine ⟨fun d n h => ?_, fun d l h => ?_⟩
      · have := cnt_pos n; omega
      · cases l with
        | nil => exact .inl (by simp [chkL])
        | cons n l => simp only [cntL] at h; have := cnt_pos n; omega
    | succ m ih =>
      have hN : ∀ d n, cntN n ≤ m + 1 → chkN d n = 0 ∨ chkN d n = 1 ∨ chkN d n = 7 := by
        intro d n h
        cases n with
        | mk nm a ws b ks =>
          simp only [cntN] at h
          simp only [chkN]
          split
          · omega
          · split
            · omega
            · exact ih.2 _ _ (by omega)
      refine ⟨hN, fun d l h => ?_⟩
      induction l with
      | nil => exact .inl (by simp [chkL])
      | cons n l il =>
        simp only [cntL] at h
        simp only [chkL]
        split
        · exact hN d n (by omega)
        · exact il (by omega)
  exact (key (cntN n)).1 d n (Nat.le_refl _)
/-- what is read from a text may be -/
theorem name_emb (s : List UInt8) : (⟨s.toArray⟩ : ByteArray).data.toList = s := by simp
theorem fine_emb {x : Wd} (h : WdFine x) : FineW (embW x) := by
  rcases h with ⟨h1, h2, h3⟩ | ⟨h1, h2, h3⟩
  · exact .inl ⟨h1, by simp [embW, h2], by simp [embW], by simp [embW]; omega⟩
  · exact .inr ⟨h1, by simp [embW, h2], by simp [embW, h3]⟩

mutual
theorem chk_embN : ∀ (d : Nat) (n : Nd), RightN d n → chkN d (embN n) = 0
  | d, .mk nm a ws b ks, h => by
    simp only [RightN] at h
    obtain ⟨h1, h2, h3, h4, h5, h6⟩ := h
    simp only [embN, chkN]
    have H : HeadOk ⟨nm.toArray⟩ (ws.map embW) := ⟨by simpa using h2, by simpa using h1, fun x hx => by
      obtain ⟨y, hy, rfl⟩ := List.mem_map.1 hx
      exact fine_emb (h3 y hy)⟩
    have hq : ¬ (¬ HeadOk ⟨nm.toArray⟩ (ws.map embW) ∨ (0 < (embL ks).length ∧ b = false)) := by
      rintro (q | ⟨q, r⟩)
      · exact q H
      · rw [h4 r] at q; simp [embL] at q
    rw [if_neg hq, if_neg (fun q => by have := h5 q.1; omega)]
    exact chk_embL (d + 1) ks h6
theorem chk_embL : ∀ (d : Nat) (l : List Nd), RightL d l → chkL d (embL l) = 0
  | _, [], _ => by simp [embL, chkL]
  | d, n :: l, h => by
    simp only [RightL] at h
    simp only [embL, chkL]
    rw [if_neg (by rw [chk_embN d n h.1]; decide)]
    exact chk_embL d l h.2
end
mutual
theorem wf_embN : ∀ (d : Nat) (n : Nd), RightN d n → WfN (embN n)
  | d, .mk nm a ws b ks, h => by
    simp only [RightN] at h
    obtain ⟨h1, h2, h3, h4, h5, h6⟩ := h
    have key : ∀ s : List UInt8, Zm.name s = true → (⟨s.toArray⟩ : ByteArray).size ≤ maxLen := fun s hs => by
      have ht := text_len (t := ⟨1, 0, 0, s⟩) (.inl ⟨rfl, rfl, hs⟩)
      simp [text] at ht
      simp [ByteArray.size]
      unfold maxLen
      omega
    refine ⟨key _ h1, fun x hx => ?_, wf_embL (d + 1) ks h6⟩
    obtain ⟨y, hy, rfl⟩ := List.mem_map.1 hx
    rcases h3 y hy with ⟨q1, q2, q3⟩ | ⟨q1, q2, q3⟩
    · simp [WI.Wf, embW, q2, ByteArray.size]
    · exact key _ q3
theorem wf_embL : ∀ (d : Nat) (l : List Nd), RightL d l → WfL (embL l)
  | _, [], _ => trivial
  | d, n :: l, h => by
    simp only [RightL] at h
    exact ⟨wf_embN d n h.1, wf_embL d l h.2⟩
end

end Go.Proofs.YtabhbcedldjjjaaGreatDoor.Yg
