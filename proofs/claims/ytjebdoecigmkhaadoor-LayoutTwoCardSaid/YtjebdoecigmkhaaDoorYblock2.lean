/- TreeBlock, as mathematics. -/
import Derived.Test.YtjebdoecigmkhaaDoorYblock
namespace Go.Proofs.YtjebdoecigmkhaaDoor.Ym
set_option linter.unusedSimpArgs false
set_option linter.unusedVariables false
open Go.Proofs.YtjebdoecigmkhaaDoor.Zm

/-- a text in a block -/
def blk (s : List UInt8) : List UInt8 := 120 :: 32 :: 55 :: 32 :: 123 :: (s ++ 10 :: [125])

theorem cut_blk (s : List UInt8) (hs : s.length ≤ 200) : cut (blk s) 0 0 = match cut s 0 0 with
    | .error x => .error (x.1, x.2 + 5)
    | .ok T => .ok (⟨1, 0, 0, [120]⟩ :: ⟨2, 2, 7, []⟩ :: ⟨3, 4, 0, []⟩ :: (T.map (mv 5) ++ [⟨4, s.length + 6, 0, []⟩])) := by
  unfold blk
  rw [cut_tok (k := 1) (n := 0) (len := 1) (s := [120]) 0 0 (by rfl), if_neg (by decide)]
  simp only [Nat.sub_self, List.drop_zero]
  rw [cut_blank (by decide), cut_tok (k := 2) (n := 7) (len := 1) (s := []) _ _ (by rfl), if_neg (by decide)]
  simp only [Nat.sub_self, List.drop_zero]
  rw [cut_blank (by decide), cut_tok (k := 3) (n := 0) (len := 1) (s := []) _ _ (by rfl), if_neg (by decide)]
  simp only [Nat.sub_self, List.drop_zero]
  have hm := cut_move 5 _ s 0 3 0 (Nat.le_refl _) (by omega) (by omega)
  cases hc : cut s 0 0 with
  | error x =>
    rw [hc] at hm
    rw [show cut (s ++ 10 :: [125]) (0 + 1 + 1 + 1) (0 + 1 + 1 + 1 + 1 + 1) = .error (x.1, x.2 + 5) from cut_line_error _ hm]
    rfl
  | ok T =>
    rw [hc] at hm
    have hl := (cut_tokens _ _ _ _ _ (Nat.le_refl _) hc).2.1
    rw [show cut (s ++ 10 :: [125]) (0 + 1 + 1 + 1) (0 + 1 + 1 + 1 + 1 + 1) = _ from cut_line_ok [125] hm]
    rw [cut_tok (k := 4) (n := 0) (len := 1) (s := []) _ _ (by rfl), if_neg (by simp; omega)]
    simp only [Nat.sub_self, List.drop_zero, cut_nil]
    simp [Except.map]
    omega

mutual
theorem deepN_mv (d : Nat) : ∀ n : Nd, deepN (mvN d n) = deepN n
  | .mk _ _ _ b ks => by simp [mvN, deepN, deepL_mv d ks]
theorem deepL_mv (d : Nat) : ∀ l : List Nd, deepL (mvL d l) = deepL l
  | [] => rfl
  | n :: l => by simp [mvL, deepL, deepN_mv d n, deepL_mv d l]
end

/-- a fault is told at a token -/
theorem run_place {l : List Tk} {r : Rd} {e q : Nat} (h : run l r = .error (e, q)) : ∃ t ∈ l, t.a = q := by
  induction l generalizing r with
  | nil => cases h
  | cons t l ih =>
    simp only [run] at h
    cases e' : take r t with
    | error y =>
      rw [e'] at h
      injection h with h; injection h with h1 h2
      exact ⟨t, by simp, h2⟩
    | ok r1 =>
      rw [e'] at h
      obtain ⟨u, hu, hq⟩ := ih h
      exact ⟨u, by simp [hu], hq⟩

def xf : Fr := ⟨[120], 0, [⟨true, 7, [], 2⟩], true, []⟩

theorem run_head (T : List Tk) : run (⟨1, 0, 0, [120]⟩ :: ⟨2, 2, 7, []⟩ :: ⟨3, 4, 0, []⟩ :: T) start = run T (under xf start) := rfl

theorem start_dep : dep start = 0 := rfl

/-- TreeBlock: a text that is read -/
theorem parse_block {s : List UInt8} {l : List Nd} (hs : s.length ≤ 200) (hp : parse s = .ok l) :
    deepL l ≤ 6 ∧ (deepL l = 6 → ∃ q, 4 < q ∧ parse (blk s) = .error (7, q)) ∧ (deepL l < 6 → parse (blk s) = .ok [.mk [120] 0 [⟨true, 7, [], 2⟩] true (mvL 5 l)]) := by
  unfold parse at hp
  cases hc : cut s 0 0 with
  | error x => rw [hc] at hp; cases hp
  | ok T =>
    rw [hc] at hp
    simp only at hp
    cases hr : run T start with
    | error x => rw [hr] at hp; cases hp
    | ok r =>
      rw [hr] at hp
      simp only at hp
      split at hp
      · rename_i hst
        injection hp with hp
        have hT := (cut_tokens _ _ _ _ _ (Nat.le_refl _) hc).1
        have hR := run_right start_ok (fun t ht => (hT t ht).1) (⟨trivial, trivial⟩ : RightR start) hr
        have hd : dep r = deepL l := by simp [dep, hst, depSt, hp]
        have hm := run_move 5 T start
        rw [hr] at hm
        have hm' : run (T.map (mv 5)) start = .ok (mvR 5 r) := hm
        have hdm : dep (mvR 5 r) = dep r := by
          have key : ∀ L : List Nd, deepL (mvL 5 L) = deepL L := fun L => deepL_mv 5 L
          simp [dep, mvR, hst, depSt, key]
        have hu := run_under xf start_ok (by rw [start_dep]; decide) hm'
        rw [hdm, hd] at hu
        have h6 := deepL_right (d := 0) (by decide) hR.1
        rw [hp] at h6
        refine ⟨by omega, fun e => ?_, fun e => ?_⟩
        · obtain ⟨t, ht, he⟩ := hu.2 (by omega)
          obtain ⟨u, hu', rfl⟩ := List.mem_map.1 ht
          refine ⟨u.a + 5, by omega, ?_⟩
          unfold parse
          rw [cut_blk s hs, hc]
          simp only
          rw [run_head, run_append, he]
          rfl
        · unfold parse
          rw [cut_blk s hs, hc]
          simp only
          rw [run_head, run_append, hu.1 e]
          have hg : r.go = false := by
            have := run_ok start_ok hr
            obtain ⟨go, top, st⟩ := r
            simp only at hst
            subst hst
            cases go with
            | false => rfl
            | true => exact this.elim
          simp [run, take, under, mvR, hg, hst, shut, Fr.nd, xf, hp]
      · cases hp

/-- TreeBlock: a text that is not read, and told at its end, is not in a block either -/
theorem parse_block_bad {s : List UInt8} {e q : Nat} (hs : s.length ≤ 200) (hp : parse s = .error (e, q)) : q < s.length ∨ ∃ x, parse (blk s) = .error x := by
  unfold parse at hp
  cases hc : cut s 0 0 with
  | error x =>
    rw [hc] at hp
    injection hp with hp
    subst hp
    obtain ⟨j, hj, h1, _⟩ := cut_ahead _ _ _ _ _ _ (Nat.le_refl _) hc
    exact .inl (by omega)
  | ok T =>
    rw [hc] at hp
    simp only at hp
    cases hr : run T start with
    | error x =>
      rw [hr] at hp
      injection hp with hp
      subst hp
      left
      obtain ⟨t, ht, rfl⟩ := run_place hr
      obtain ⟨a1, a2, rfl⟩ := List.append_of_mem ht
      obtain ⟨j, hj, ha, _⟩ := cut_upto _ _ _ _ _ _ _ (Nat.le_refl _) hc
      omega
    | ok r =>
      rw [hr] at hp
      simp only at hp
      split at hp
      · cases hp
      · rename_i hst
        right
        unfold parse
        rw [cut_blk s hs, hc]
        simp only
        rw [run_head, run_append]
        have hm := run_move 5 T start
        rw [hr] at hm
        have hm' : run (T.map (mv 5)) start = .ok (mvR 5 r) := hm
        have hu := run_under xf start_ok (by rw [start_dep]; decide) hm'
        rcases Nat.lt_or_ge (dep (mvR 5 r)) 6 with h6 | h6
        · rw [hu.1 h6]
          obtain ⟨go, top, st⟩ := r
          cases go with
          | true =>
            cases st with
            | nil => exact absurd rfl hst
            | cons f st => simp [run, take, under, mvR]
          | false =>
            match st, hst with
            | f :: [], _ => simp [run, take, under, mvR, shut]
            | f :: g :: st, _ => simp [run, take, under, mvR, shut]
        · obtain ⟨t, ht, he⟩ := hu.2 h6
          rw [he]
          exact ⟨_, rfl⟩

end Go.Proofs.YtjebdoecigmkhaaDoor.Ym
