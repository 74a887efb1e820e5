/- Rows of items: the cells of a slice of items, and items put behind one another; what is the same but for places. -/
import Derived.Test.YtabhbcedldjjjaaGreatDoorYput
import Derived.Test.YtabhbcedldjjjaaGreatDoorYsame
namespace Go.Proofs.YtabhbcedldjjjaaGreatDoor.Yg
set_option linter.unusedSimpArgs false
set_option linter.unusedVariables false
open Go Go.RowKit Go.Proofs.YtabhbcedldjjjaaGreatDoor.Zk Go.Proofs.YtabhbcedldjjjaaGreatDoor.Zm Go.Proofs.YtabhbcedldjjjaaGreatDoor.Ym Go.Proofs.YtabhbcedldjjjaaGreatDoor.Bn

/-- these cells are an item -/
def NC (S : Nat → Prop) (W : World) (xs : List Value) : NI → Prop
  | .mk nm a ws b ks => ∃ vw vk, xs = [.string nm, .int .i64 a, vw, .bool b, vk] ∧ WsV S W vw ws ∧ NsV S W vk ks
def NCs (S : Nat → Prop) (W : World) : List Value → List NI → Prop
  | xs, [] => xs = []
  | xs, n :: l => ∃ x ys, xs = x ++ ys ∧ NC S W x n ∧ NCs S W ys l
section
variable {S T : Nat → Prop} {W W' : World}
theorem NC.kept {xs : List Value} {n : NI} (h : NC S W xs n) (k : Stay S W W') : NC S W' xs n := by
  cases n with
  | mk nm a ws b ks =>
    obtain ⟨vw, vk, e, h1, h2⟩ := h
    exact ⟨vw, vk, e, h1.kept k, h2.kept k⟩
theorem NCs.kept {xs : List Value} {l : List NI} (h : NCs S W xs l) (k : Stay S W W') : NCs S W' xs l := by
  induction l generalizing xs with
  | nil => exact h
  | cons n l ih =>
    obtain ⟨x, ys, e, h1, h2⟩ := h
    exact ⟨x, ys, e, h1.kept k, ih h2⟩
theorem WAt.mono {g o : Nat} {x : WI} (h : WAt S W g o x) (k : ∀ b, S b → T b) : WAt T W g o x := ⟨k _ h.1, h.2⟩
theorem WsFrom.mono {g o : Nat} {l : List WI} (h : WsFrom S W g o l) (k : ∀ b, S b → T b) : WsFrom T W g o l := by
  induction l generalizing o with
  | nil => trivial
  | cons x l ih => exact ⟨h.1.mono k, ih h.2⟩
theorem WsV.mono {v : Value} {l : List WI} (h : WsV S W v l) (k : ∀ b, S b → T b) : WsV T W v l := by
  obtain ⟨ptr, cap, e, h⟩ := h
  refine ⟨ptr, cap, e, ?_⟩
  rcases h with h | ⟨g, o, e, h⟩
  · exact .inl h
  · exact .inr ⟨g, o, e, h.mono k⟩
mutual
theorem NAt.mono (k : ∀ b, S b → T b) : ∀ {g o : Nat} {n : NI}, NAt S W g o n → NAt T W g o n
  | g, o, .mk nm a ws b ks, h => by
    simp only [NAt] at h ⊢
    obtain ⟨h0, h1, h2, ⟨v, h3, hv⟩, h4, ptr, cap, h5, hk⟩ := h
    refine ⟨k _ h0, h1, h2, ⟨v, h3, hv.mono k⟩, h4, ptr, cap, h5, ?_⟩
    rcases hk with hk | ⟨g', o', e, hk⟩
    · exact .inl hk
    · exact .inr ⟨g', o', e, NsFrom.mono k hk⟩
theorem NsFrom.mono (k : ∀ b, S b → T b) : ∀ {g o : Nat} {l : List NI}, NsFrom S W g o l → NsFrom T W g o l
  | g, o, [], h => by simp [NsFrom]
  | g, o, n :: l, h => by
    simp only [NsFrom] at h ⊢
    exact ⟨NAt.mono k h.1, NsFrom.mono k h.2⟩
end
theorem NsV.mono {v : Value} {l : List NI} (h : NsV S W v l) (k : ∀ b, S b → T b) : NsV T W v l := by
  obtain ⟨ptr, cap, e, h⟩ := h
  refine ⟨ptr, cap, e, ?_⟩
  rcases h with h | ⟨g, o, e, h⟩
  · exact .inl h
  · exact .inr ⟨g, o, e, h.mono k⟩
theorem NC.mono {xs : List Value} {n : NI} (h : NC S W xs n) (k : ∀ b, S b → T b) : NC T W xs n := by
  cases n with
  | mk nm a ws b ks =>
    obtain ⟨vw, vk, e, h1, h2⟩ := h
    exact ⟨vw, vk, e, h1.mono k, h2.mono k⟩
theorem NCs.mono {xs : List Value} {l : List NI} (h : NCs S W xs l) (k : ∀ b, S b → T b) : NCs T W xs l := by
  induction l generalizing xs with
  | nil => exact h
  | cons n l ih =>
    obtain ⟨x, ys, e, h1, h2⟩ := h
    exact ⟨x, ys, e, h1.mono k, ih h2⟩
theorem NCs.append {xs ys : List Value} {l m : List NI} (h : NCs S W xs l) (h2 : NCs S W ys m) : NCs S W (xs ++ ys) (l ++ m) := by
  induction l generalizing xs with
  | nil =>
    have e : xs = [] := h
    subst e
    exact h2
  | cons n l ih =>
    obtain ⟨x, zs, e, h1, h3⟩ := h
    exact ⟨x, zs ++ ys, by rw [e, List.append_assoc], h1, ih h3⟩
theorem NC.len {xs : List Value} {n : NI} (h : NC S W xs n) : xs.length = 5 := by
  cases n with
  | mk nm a ws b ks =>
    obtain ⟨vw, vk, rfl, _⟩ := h
    rfl
theorem NCs.len {xs : List Value} {l : List NI} (h : NCs S W xs l) : xs.length = l.length * 5 := by
  induction l generalizing xs with
  | nil => have e : xs = [] := h; subst e; rfl
  | cons n l ih =>
    obtain ⟨x, ys, rfl, h1, h2⟩ := h
    have := h1.len
    have := ih h2
    simp; omega
theorem NC.one {xs : List Value} {n : NI} (h : NC S W xs n) : ∀ u ∈ xs, u.oneCell' = true := by
  cases n with
  | mk nm a ws b ks =>
    obtain ⟨vw, vk, rfl, ⟨p, c, rfl, _⟩, p2, c2, rfl, _⟩ := h
    intro u hu
    simp at hu
    rcases hu with rfl | rfl | rfl | rfl | rfl <;> rfl
theorem NCs.one {xs : List Value} {l : List NI} (h : NCs S W xs l) : ∀ u ∈ xs, u.oneCell' = true := by
  induction l generalizing xs with
  | nil => have e : xs = [] := h; subst e; intro u hu; simp at hu
  | cons n l ih =>
    obtain ⟨x, ys, rfl, h1, h2⟩ := h
    intro u hu
    rcases List.mem_append.1 hu with q | q
    · exact h1.one u q
    · exact ih h2 u q
/-- the cells of items that stand in a row -/
theorem NsFrom.cells {g : Nat} : ∀ (l : List NI) (o : Nat), NsFrom S W g o l → ∃ xs, NCs S W xs l ∧ ∀ (j : Nat) (u : Value), xs[j]? = some u → W.cell? ⟨g, o + j, none⟩ = some u
  | [], o, h => ⟨[], rfl, fun j u hj => by simp at hj⟩
  | .mk nm a ws b ks :: l, o, h => by
    simp only [NsFrom] at h
    obtain ⟨h1, h2⟩ := h
    simp only [NAt] at h1
    obtain ⟨h0, c0, c1, ⟨vw, c2, hw⟩, c3, p, c, c4, hk⟩ := h1
    obtain ⟨ys, hy, hc⟩ := NsFrom.cells l (o + 5) h2
    refine ⟨[.string nm, .int .i64 a, vw, .bool b, .slice p ks.length c] ++ ys, ⟨_, ys, rfl, ⟨vw, _, rfl, hw, p, c, rfl, hk⟩, hy⟩, fun j u hj => ?_⟩
    match j, hj with
    | 0, hj => simp at hj; subst hj; exact c0
    | 1, hj => simp at hj; subst hj; exact c1
    | 2, hj => simp at hj; subst hj; exact c2
    | 3, hj => simp at hj; subst hj; exact c3
    | 4, hj => simp at hj; subst hj; exact c4
    | j + 5, hj =>
      have := hc j u (by simpa using hj)
      rw [show o + (j + 5) = o + 5 + j by omega]
      exact this
/-- .. as a list to put behind another one -/
theorem NsV.cells {v : Value} {l : List NI} (h : NsV S W v l) : ∃ xs, Holds W 5 v l.length xs ∧ NCs S W xs l := by
  obtain ⟨p, c, rfl, h⟩ := h
  rcases h with rfl | ⟨g, o, rfl, h⟩
  · cases p with
    | none => exact ⟨[], ⟨none, c, rfl, rfl, fun u hu => by simp at hu, .inl ⟨rfl, rfl⟩⟩, rfl⟩
    | some ad => exact ⟨[], ⟨some ad, c, rfl, rfl, fun u hu => by simp at hu, .inr ⟨ad, rfl, fun j x hj => by simp at hj⟩⟩, rfl⟩
  · obtain ⟨xs, h1, h2⟩ := NsFrom.cells l o h
    refine ⟨xs, ⟨_, c, rfl, h1.len, h1.one, .inr ⟨_, rfl, fun j u hj => ?_⟩⟩, h1⟩
    rw [show (⟨g, o, none⟩ : Addr).add j = ⟨g, o + j, none⟩ by unfold Addr.add; split <;> simp_all]
    exact h2 j u hj
theorem ns_of {g : Nat} (hg : S g) : ∀ (l : List NI) (xs : List Value) (o : Nat), NCs S W xs l → (∀ (j : Nat) (u : Value), xs[j]? = some u → W.cell? ⟨g, o + j, none⟩ = some u) → NsFrom S W g o l
  | [], xs, o, _, _ => by simp [NsFrom]
  | n :: l, xs, o, h, hc => by
    obtain ⟨x, ys, rfl, h1, h2⟩ := h
    have x5 := h1.len
    simp only [NsFrom]
    refine ⟨?_, ns_of hg l ys (o + 5) h2 (fun j u hj => ?_)⟩
    · cases n with
      | mk nm a ws b ks =>
        obtain ⟨vw, vk, rfl, hw, p, c, rfl, hk⟩ := h1
        simp only [NAt]
        exact ⟨hg, hc 0 _ rfl, hc 1 _ rfl, ⟨vw, hc 2 _ rfl, hw⟩, hc 3 _ rfl, p, c, hc 4 _ rfl, hk⟩
    · rw [show o + 5 + j = o + (5 + j) by omega]
      exact hc (5 + j) u (by rw [List.getElem?_append_right (by omega), x5]; simpa using hj)
/-- a row of the call's own is a slice of items -/
theorem OneC.items {w : World} {EL : TypeId} {v : Value} {l : List NI} {xs : List Value} (x : OneC EL 5 w W v l.length xs) (h : NCs S W xs l) : NsV (fun b => S b ∨ v.ownBlock = some b) W v l := by
  rcases x.row.2 with ⟨hv, hn⟩ | ⟨g, cap, cur, hv, _⟩
  · exact ⟨none, 0, by rw [hv, hn], .inl (List.eq_nil_of_length_eq_zero hn)⟩
  · refine ⟨_, cap, hv, .inr ⟨g, 0, rfl, ns_of (.inr (by rw [hv]; rfl)) l xs 0 (h.mono (fun b hb => .inl hb)) (fun j u hj => ?_)⟩⟩
    subst hv
    have jl := (List.getElem?_eq_some_iff.1 hj).1
    rw [h.len] at jl
    rw [Nat.zero_add, x.row.cellAt j jl]
    exact hj
end

/-! ## the same but for places -/
mutual
theorem sameN_refl : ∀ n : NI, SameN n n
  | .mk _ _ _ _ ks => by simp only [SameN]; exact ⟨trivial, trivial, trivial, sameL_refl ks⟩
theorem sameL_refl : ∀ l : List NI, SameL l l
  | [] => by simp [SameL]
  | n :: l => by simp only [SameL]; exact ⟨n, l, rfl, sameN_refl n, sameL_refl l⟩
end
theorem sameL_append {a b c d : List NI} (h : SameL a b) (k : SameL c d) : SameL (a ++ c) (b ++ d) := by
  induction a generalizing b with
  | nil => simp only [SameL] at h; subst h; exact k
  | cons x a ih =>
    simp only [SameL] at h
    obtain ⟨y, e, rfl, h1, h2⟩ := h
    simp only [List.cons_append, SameL]
    exact ⟨y, e ++ d, rfl, h1, ih h2⟩
theorem embL_append (a b : List Nd) : embL (a ++ b) = embL a ++ embL b := by rw [embL_map, embL_map, embL_map, List.map_append]
mutual
theorem ws_embN : ∀ (d : Nat) (n : Nd), RightN d n → WsN 1000000 (embN n)
  | d, .mk nm a ws b ks, h => by
    simp only [RightN] at h
    obtain ⟨h1, h2, h3, h4, h5, h6⟩ := h
    exact ⟨by simp; omega, ws_embL (d + 1) ks h6⟩
theorem ws_embL : ∀ (d : Nat) (l : List Nd), RightL d l → WsL 1000000 (embL l)
  | _, [], _ => trivial
  | d, n :: l, h => by
    simp only [RightL] at h
    exact ⟨ws_embN d n h.1, ws_embL d l h.2⟩
end

end Go.Proofs.YtabhbcedldjjjaaGreatDoor.Yg
