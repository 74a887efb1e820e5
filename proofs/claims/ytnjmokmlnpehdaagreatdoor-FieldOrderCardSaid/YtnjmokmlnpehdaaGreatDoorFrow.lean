/- Rows of keys, as items that Read takes; what is put behind a row. -/
import Derived.Test.YtnjmokmlnpehdaaGreatDoorFblk
import Derived.Test.YtnjmokmlnpehdaaGreatDoorFlive
import Derived.Test.YtnjmokmlnpehdaaGreatDoorFcal
namespace Go.Proofs.YtnjmokmlnpehdaaGreatDoor.Fl
set_option linter.unusedSimpArgs false
set_option linter.unusedVariables false
open Go Go.RowKit Go.Proofs.YtnjmokmlnpehdaaGreatDoor Go.Proofs.YtnjmokmlnpehdaaGreatDoor.Am Go.Proofs.YtnjmokmlnpehdaaGreatDoor.Bn Go.Proofs.YtnjmokmlnpehdaaGreatDoor.Zp Go.Proofs.YtnjmokmlnpehdaaGreatDoor.Zk Go.Proofs.YtnjmokmlnpehdaaGreatDoor.Yg Go.Proofs.YtnjmokmlnpehdaaGreatDoor.Fm Go.Proofs.YtnjmokmlnpehdaaGreatDoor.Fp Go.Proofs.YtnjmokmlnpehdaaGreatDoor.Fn Go.Proofs.YtnjmokmlnpehdaaGreatDoor.Fs

set_option maxHeartbeats 8000000

theorem keysV_split {base : Nat} {W : World} : ∀ (l1 l2 : List NI) (xs : List Value), KeysV base W (l1 ++ l2) xs → KeysV base W l1 (xs.take (l1.length * 5)) ∧ KeysV base W l2 (xs.drop (l1.length * 5)) ∧ xs.length = (l1.length + l2.length) * 5
  | [], [], xs, h => by
    have h : xs = [] := h
    subst h
    exact ⟨rfl, rfl, rfl⟩
  | [], n :: l2, xs, h => by
    obtain ⟨c, ys, rfl, h1, h2⟩ := id h
    obtain ⟨_, _, e⟩ := keysV_split [] l2 ys h2
    refine ⟨rfl, by simpa using h, ?_⟩
    have := h1.five.1
    simp only [List.length_append, List.length_cons, List.length_nil] at e ⊢
    omega
  | n :: l1, l2, xs, h => by
    obtain ⟨c, ys, rfl, h1, h2⟩ := h
    obtain ⟨a1, a2, a3⟩ := keysV_split l1 l2 ys h2
    have h5 := h1.five.1
    have e : (n :: l1).length * 5 = 5 + l1.length * 5 := by simp; omega
    refine ⟨⟨c, ys.take (l1.length * 5), ?_, h1, a1⟩, ?_, ?_⟩
    · rw [e, List.take_append, h5, List.take_of_length_le (by omega)]
      congr 2
      omega
    · rw [e, List.drop_append, h5, List.drop_eq_nil_of_le (by omega), List.nil_append]
      rw [show 5 + l1.length * 5 - 5 = l1.length * 5 by omega]
      exact a2
    · simp only [List.length_append, List.length_cons] at a3 ⊢
      omega
theorem keysV_app {base : Nat} {W : World} : ∀ {l1 l2 : List NI} {x1 x2 : List Value}, KeysV base W l1 x1 → KeysV base W l2 x2 → KeysV base W (l1 ++ l2) (x1 ++ x2)
  | [], l2, x1, x2, h1, h2 => by
    have h1 : x1 = [] := h1
    subst h1
    exact h2
  | n :: l1, l2, x1, x2, h1, h2 => by
    obtain ⟨c, ys, rfl, q1, q2⟩ := h1
    exact ⟨c, ys ++ x2, by rw [List.append_assoc], q1, keysV_app q2 h2⟩
theorem keysV_one {base : Nat} {W : World} : ∀ {l : List NI} {xs : List Value}, KeysV base W l xs → ∀ u ∈ xs, u.oneCell' = true
  | [], xs, h, u, hu => by
    have h : xs = [] := h
    subst h
    cases hu
  | n :: l, xs, h, u, hu => by
    obtain ⟨c, ys, rfl, h1, h2⟩ := h
    rcases List.mem_append.1 hu with hu | hu
    · exact h1.five.2 u hu
    · exact keysV_one h2 u hu
/-- a calendar's block of any keys, as Read asks for it -/
theorem nodeOf_keys {nm : ByteArray} {W : World} {g cap gw : Nat} {l : List NI} {xs : List Value} {a : Int} (hm : nm.size ≤ maxLen) (ha : (Lit.int .i64 a).wf = true) (hl : l.length ≤ 1000) (hwf : WfL l ∧ LenL l) (hg : g < W.heap.size) (hx : ∀ (j : Nat) (u : Value), xs[j]? = some u → W.cell? ⟨g, j, none⟩ = some u) (K0 : KeysV 0 W l xs) (hb : Blk W gw 45 #[.bool false, .int .i64 0, .string nm, .int .i64 0]) :
    NodeOf W calN a (some ⟨gw, 0, none⟩) 1 1 true (some ⟨g, 0, none⟩) l.length cap [wd nm] l := by
  obtain ⟨N1, N2⟩ := keysV_at hg (o := 0) K0 (fun j u hj => by rw [Nat.zero_add]; exact hx j u hj)
  refine ⟨rfl, rfl, by decide, by unfold maxLen; omega, ha, ⟨by decide, fun x hx => ?_, hwf.1⟩, ⟨by simp [maxLen], by unfold maxLen; omega, hwf.2⟩, ⟨some ⟨gw, 0, none⟩, 1, rfl, .inr ⟨gw, 0, rfl, ?_⟩⟩, ⟨some ⟨g, 0, none⟩, cap, rfl, .inr ⟨g, 0, rfl, N1⟩⟩, fun i hi => ?_⟩
  · have hx : x = wd nm := by simpa using hx
    subst hx
    exact hm
  · exact ⟨⟨hb.lt, hb.cell 0, hb.cell 1, hb.cell 2, hb.cell 3⟩, trivial⟩
  · obtain ⟨q, m, c', k1, k2⟩ := N2 i hi
    exact ⟨g, 0, rfl, q, m, c', k1, k2⟩
theorem kids_wf (c : CalZ) (L : List (Int × Nat)) : WfL (L.map (kyA c)) ∧ LenL (L.map (kyA c)) := wfL_all (fun n hn => by
  obtain ⟨p, _, rfl⟩ := List.mem_map.1 hn
  exact kyA_wf c p)
theorem cnt_flat2 : ∀ (l : List NI), (∀ n ∈ l, n.ks = []) → cntL l = l.length
  | [], _ => by simp [cntL]
  | n :: l, h => by
    have hn := h n (by simp)
    obtain ⟨nm, a, ws, b, ks⟩ := n
    simp only [NI.ks] at hn
    subst hn
    simp only [cntL, cntN, List.length_cons, cnt_flat2 l (fun m hm => h m (by simp [hm]))]
    omega
theorem kids_cnt (c : CalZ) (nm : ByteArray) (a : Int) (L : List (Int × Nat)) : cntL [.mk nm a [wd c.nm] true (L.map (kyA c))] = 1 + L.length := by
  have := cnt_flat2 (L.map (kyA c)) (fun n hn => by
    obtain ⟨p, _, rfl⟩ := List.mem_map.1 hn
    rfl)
  simp only [cntL, cntN, this, List.length_map]
  omega
theorem RowB.get {W : World} {g : Nat} {l : List NI} (h : RowB W g l) : ∃ xs, KeysV 0 W l xs ∧ xs.length = l.length * 5 ∧ ∀ (j : Nat) (u : Value), xs[j]? = some u → W.cell? ⟨g, j, none⟩ = some u := by
  obtain ⟨cur, h1, h2, h3⟩ := h
  refine ⟨_, h3, by rw [List.length_take]; simp; omega, fun j u hj => ?_⟩
  rw [h1.cell j, ← Array.getElem?_toList]
  rw [List.getElem?_take] at hj
  split at hj
  · exact hj
  · cases hj
/-- a step of a region that draws: something is put behind a row of the region's own -/
theorem step_one {ops : Array Oper} {o : Oper} {a : Act} {w W : World} {K : Act → World → Prop} {Q : Exit → Act → World → Prop} {E : Prop} (s x : Operand) (hgd : o.guard = none)
    (ho : o.op = .call { callee := .builtin .append, args := #[s, x], argTypes := #[23, 23] })
    {V : Value} {n m : Nat} {xs ys : List Value} {ad : Addr} {cp : Nat} (hs : a.eval s = V) (hx : a.eval x = .slice (some ad) m cp) (X : OneC 25 5 w W V n xs) (hl : ys.length = m * 5) (h1 : ∀ u ∈ ys, u.oneCell' = true) (hc : ∀ (j : Nat) (u : Value), ys[j]? = some u → W.cell? (ad.add j) = some u) (hn : n + m ≤ 1000)
    (h : ∀ v' w', OneC 25 5 w w' v' (n + m) (xs ++ ys) → K (a.put o.dst v') w') : if Region.wanted o (yielded ops a.tmps) = true then Oper.wp Tryz.prog o a W K Q else E := by
  have hw : Region.wanted o (yielded ops a.tmps) = true := by simp [Region.wanted, hgd]
  rw [if_pos hw]
  obtain ⟨i0, hi, hz0, hz1, hz2⟩ := info_parts infoNd
  refine wp_append_own W s x 23 ho w.heap.size 25 i0 _ 5 80 underNd hi hz0 hz1 hz2 rfl (by decide) V n xs hs X.row ad m cp ys hx hl hc h1 (by unfold maxLen; omega) (by omega) X.below.size (fun v' w' h2 h3 _ => ?_)
  exact h v' w' ⟨Rk.below_grown X.below h3 (fun k e => (X.own e).1) (Nat.le_refl _), h2⟩
/-- behind a store of the new row into the block -/
theorem node_after {nm : ByteArray} {W3 wB : World} {nb gw n cB : Nat} {pB : Option Addr} {xs : List Value} {l : List NI} {y : Array Value} {a : Int} (hlt : nb < W3.heap.size) (Y : Blk W3 nb 25 y) (XB : OneC 25 5 W3 wB (.slice pB n cB) n xs) (K : KeysV 0 W3 l xs) (h0 : 0 < n)
    (hl : l.length ≤ 1000) (hwf : WfL l ∧ LenL l) (hm : nm.size ≤ maxLen) (ha : (Lit.int .i64 a).wf = true) (hW : Blk W3 gw 45 #[.bool false, .int .i64 0, .string nm, .int .i64 0]) (v : Value) :
    NodeOf (wB.setCell ⟨nb, 4, none⟩ v) calN a (some ⟨gw, 0, none⟩) 1 1 true pB l.length cB [wd nm] l := by
  rcases XB.row.2 with ⟨_, q⟩ | ⟨g, cap, cur, hv, h1, h2, h3, h4, h5, h6⟩
  · omega
  injection hv with e1 _ e2
  subst e1 e2
  have Y' := Y.kept XB.below
  have G : Blk (wB.setCell ⟨nb, 4, none⟩ v) g 25 cur := blk_set h2 (by omega)
  refine nodeOf_keys hm ha hl hwf G.lt (fun j u hj => ?_) ((K.keep (WKeep.below XB.below)).keep (wk_put Y' _)) (wk_put Y' _ _ _ (hW.kept XB.below))
  rw [G.cell j, ← Array.getElem?_toList]
  have hj2 := (List.getElem?_eq_some_iff.1 hj).1
  rw [XB.row.1] at hj2
  rw [← h6, List.getElem?_take, if_pos hj2] at hj
  exact hj
theorem u8_bd {a : Int} (h : (Lit.int .u8 a).wf = true) : 0 ≤ a ∧ a ≤ 255 := by
  have e1 : IntKind.u8.min = 0 := by decide
  have e2 : IntKind.u8.max = 255 := by decide
  simp [Lit.wf, e1, e2] at h
  omega

end Go.Proofs.YtnjmokmlnpehdaaGreatDoor.Fl
