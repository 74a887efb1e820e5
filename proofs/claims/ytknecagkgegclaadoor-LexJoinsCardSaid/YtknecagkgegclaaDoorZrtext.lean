/- What text of the reference of layer 8 comes to. -/
import Derived.Test.YtknecagkgegclaaDoorZrjoin
import Derived.Deep.RegionHeld3
import Derived.BigQuiet
namespace Go.Proofs.YtknecagkgegclaaDoor.Zr
set_option linter.unusedSimpArgs false
set_option linter.unusedVariables false
open Go.RowKit Go.Proofs.YtknecagkgegclaaDoor.Zm Go.Proofs.YtknecagkgegclaaDoor.Zk Go.Proofs.YtknecagkgegclaaDoor.Zp Go.Proofs.YtknecagkgegclaaDoor.Zl Go.Proofs.YtknecagkgegclaaDoor.Bn

set_option maxHeartbeats 2000000

theorem unwanted_go {c : Prop} [Decidable c] {A B : Prop} (h : ¬ c) (b : B) : if c then A else B := by rw [if_neg h]; exact b

/-- a token's text, and whether it is one -/
def RtextRes (t : TkI) (v : Bool) (w : World) (e : Ending) (w' : World) : Prop :=
  ∃ T : ByteArray, e = .returned (.tuple #[.string T, .bool v]) ∧ (v = true → T = ⟨(text (tokN t)).toArray⟩) ∧ Below w.heap.size w w'

set_option maxRecDepth 100000 in
theorem rtext_any (k a n : Int) (s : ByteArray) (v : Bool) (w : World) (hm : s.size ≤ maxLen) (hn : n ≤ 9223372036854775807) (hv : Hid (v = true ↔ FineI ⟨k, a, n, s⟩)) :
    Calls Tryd.prog 55 #[.agg #[.int .i64 k, .int .i64 a, .int .i64 n, .string s]] w fun e w' => RtextRes ⟨k, a, n, s⟩ v w e w' := by
  have BX := (Box.new w #[.int .i64 k, .int .i64 a, .int .i64 n, .string s] 34)
  obtain ⟨z, b0, b1, b2, b3, _⟩ := id BX.four
  have hB : Below w.heap.size w (w.alloc (.cells #[.int .i64 k, .int .i64 a, .int .i64 n, .string s] 34)) := balloc (Below.refl _ _) _
  by_cases h1 : k = 1
  · subst h1
    obtain ⟨nv, hnv⟩ : ∃ nv, name (by_ s) = nv := ⟨_, rfl⟩
    have cn := fun w => rName_same s w hm
    rw [hnv] at cn
    have HV : Hid (v = (nv && (n == 0))) := Lib.hid (by
      rw [Bool.eq_iff_iff, hv.out, ← hnv]
      simp [FineI]
      exact And.comm)
    have HT : Hid (s = ⟨(text (tokN ⟨1, a, n, s⟩)).toArray⟩) := Lib.hid (by simp [text, tokN, by_])
    clear hv hnv
    have cq : ∀ W, Calls Tryd.prog 20 #[.string s] W fun e w' => e = .returned (.bool nv) ∧ w' = W := fun W => (cn W).mono (fun e w' h => ⟨h.1, h.2.symm⟩)
    clear cn
    cases nv with
    | true =>
      go_enter Tryd.func55, Tryd.ntmps55
      go_wp2_with fail
      go_quiet ((go_at_call 20; exact Calls.quiet_of_same (cq _)))
      go_wp2_with fail
      go_ret2
      exact ⟨s, by rw [HV.out]; rfl, fun _ => HT.out, bdrewN hB _⟩
    | false =>
      go_enter Tryd.func55, Tryd.ntmps55
      go_wp2_with fail
      go_quiet ((go_at_call 20; exact Calls.quiet_of_same (cq _)))
      go_wp2_with fail
      go_ret2
      exact ⟨s, by rw [HV.out]; rfl, fun _ => HT.out, bdrewN hB _⟩
  have e1 : (k == 1) = false := beq_eq_false_iff_ne.2 h1
  by_cases h2 : k = 2
  · subst h2
    obtain ⟨xs, hxs⟩ : ∃ xs : Bool, s.toList.isEmpty = xs := ⟨_, rfl⟩
    obtain ⟨x0, hx0⟩ : ∃ x : Bool, decide ((0 : Int) ≤ n) = x := ⟨_, rfl⟩
    obtain ⟨x9, hx9⟩ : ∃ x : Bool, decide (n ≤ 999999999) = x := ⟨_, rfl⟩
    have hse : s = ⟨#[]⟩ ↔ xs = true := by
      rw [← hxs]
      constructor
      · rintro rfl
        rw [ByteArray.toList_eq]; rfl
      · intro h
        apply ByteArray.ext
        have := List.isEmpty_iff.1 h
        rw [ByteArray.toList_eq] at this
        exact Array.toList_inj.1 this
    have HV : Hid (v = (xs && (x0 && x9))) := Lib.hid (by
      rw [Bool.eq_iff_iff, hv.out]
      simp [FineI, hse, ← hx0, ← hx9])
    have HT : Hid (v = true → (⟨(Lib.decDigits (max n 0).toNat).toArray⟩ : ByteArray) = ⟨(text (tokN ⟨2, a, n, s⟩)).toArray⟩) := Lib.hid (fun h => by
      rw [HV.out] at h
      simp only [Bool.and_eq_true] at h
      have := of_decide_eq_true (hx0.trans h.2.1)
      rw [show (max n 0).toNat = n.toNat by omega]
      simp [text, tokN])
    have cd := fun w => rDecimal (max n 0).toNat w (by omega)
    rw [show (((max n 0).toNat : Nat) : Int) = max n 0 by omega] at cd
    clear hv hse
    clear BX
    cases xs with
    | false =>
      have tE : ¬ s.toList = [] := fun h => by rw [h] at hxs; cases hxs
      go_enter Tryd.func55, Tryd.ntmps55
      go_wp2_with fail
      generalize w.alloc (.cells #[.int .i64 2, .int .i64 a, .int .i64 n, .string s] 34) = W1 at *
      have H : Hid (∀ W, Below W1.heap.size W1 W → Below W1.heap.size W1 W ∧ W.cell? ⟨w.heap.size, 2, none⟩ = some (.int .i64 n) ∧ W.cell? ⟨w.heap.size, 3, none⟩ = some (.string s)) := Lib.hid (fun W h => ⟨h, (h.cell (p := ⟨_, _, none⟩) z).trans b2, (h.cell (p := ⟨_, _, none⟩) z).trans b3⟩)
      first
        | go_region_with (first
            | (go_at_call 70; (with_reducible refine (cd _).mono ?_); rintro e w4 ⟨rfl, hb4⟩; have hB4 := bthen (w := W1) (by repeat (first | (with_reducible assumption) | (with_reducible exact Below.refl _ _) | (with_reducible refine bdrewN ?_ _) | (with_reducible refine Below.drew ?_))) hb4; obtain ⟨_, q2, q3⟩ := H.out _ hB4))
        | fail
      all_goals go_wp2_with fail
      all_goals go_ret2
      all_goals exact ⟨_, by rw [HV.out]; first | rfl | simp [Act.put], HT.out, bthen hB hB4⟩
    | true =>
      have tE : s.toList = [] := List.isEmpty_iff.1 hxs
      cases x0 with
      | false =>
        go_enter Tryd.func55, Tryd.ntmps55
        go_wp2_with fail
        generalize w.alloc (.cells #[.int .i64 2, .int .i64 a, .int .i64 n, .string s] 34) = W1 at *
        have H : Hid (∀ W, Below W1.heap.size W1 W → Below W1.heap.size W1 W ∧ W.cell? ⟨w.heap.size, 2, none⟩ = some (.int .i64 n) ∧ W.cell? ⟨w.heap.size, 3, none⟩ = some (.string s)) := Lib.hid (fun W h => ⟨h, (h.cell (p := ⟨_, _, none⟩) z).trans b2, (h.cell (p := ⟨_, _, none⟩) z).trans b3⟩)
        first
          | go_region_with (first
              | (go_at_call 70; (with_reducible refine (cd _).mono ?_); rintro e w4 ⟨rfl, hb4⟩; have hB4 := bthen (w := W1) (by repeat (first | (with_reducible assumption) | (with_reducible exact Below.refl _ _) | (with_reducible refine bdrewN ?_ _) | (with_reducible refine Below.drew ?_))) hb4; obtain ⟨_, q2, q3⟩ := H.out _ hB4))
          | fail
        all_goals go_wp2_with fail
        all_goals go_ret2
        all_goals exact ⟨_, by rw [HV.out]; first | rfl | simp [Act.put], HT.out, bthen hB hB4⟩
      | true =>
        go_enter Tryd.func55, Tryd.ntmps55
        go_wp2_with fail
        generalize w.alloc (.cells #[.int .i64 2, .int .i64 a, .int .i64 n, .string s] 34) = W1 at *
        have H : Hid (∀ W, Below W1.heap.size W1 W → Below W1.heap.size W1 W ∧ W.cell? ⟨w.heap.size, 2, none⟩ = some (.int .i64 n) ∧ W.cell? ⟨w.heap.size, 3, none⟩ = some (.string s)) := Lib.hid (fun W h => ⟨h, (h.cell (p := ⟨_, _, none⟩) z).trans b2, (h.cell (p := ⟨_, _, none⟩) z).trans b3⟩)
        first
          | go_region_with (first
              | (go_at_call 70; (with_reducible refine (cd _).mono ?_); rintro e w4 ⟨rfl, hb4⟩; have hB4 := bthen (w := W1) (by repeat (first | (with_reducible assumption) | (with_reducible exact Below.refl _ _) | (with_reducible refine bdrewN ?_ _) | (with_reducible refine Below.drew ?_))) hb4; obtain ⟨_, q2, q3⟩ := H.out _ hB4))
          | fail
        all_goals go_wp2_with fail
        all_goals go_ret2
        all_goals exact ⟨_, by rw [HV.out]; first | rfl | simp [Act.put], HT.out, bthen hB hB4⟩

  have e2 : (k == 2) = false := beq_eq_false_iff_ne.2 h2
  obtain ⟨xs, hxs⟩ : ∃ xs : Bool, s.toList.isEmpty = xs := ⟨_, rfl⟩
  have hse : s = ⟨#[]⟩ ↔ xs = true := by
    rw [← hxs]
    constructor
    · rintro rfl
      rw [ByteArray.toList_eq]; rfl
    · intro h
      apply ByteArray.ext
      have := List.isEmpty_iff.1 h
      rw [ByteArray.toList_eq] at this
      exact Array.toList_inj.1 this
  obtain ⟨xn, hxn⟩ : ∃ xn : Bool, (n == 0) = xn := ⟨_, rfl⟩
  have hne : n = 0 ↔ xn = true := by rw [← hxn, beq_iff_eq]
  by_cases h3 : k = 3
  · subst h3
    have HV : Hid (v = (xs && xn)) := Lib.hid (by
      rw [Bool.eq_iff_iff, hv.out]
      simp [FineI, hse, hne])
    have HT : Hid (v = true → (⟨#[123]⟩ : ByteArray) = ⟨(text (tokN ⟨3, a, n, s⟩)).toArray⟩) := Lib.hid (fun _ => by simp [text, tokN])
    clear hv hse hne
    cases xs with
    | true =>
      have tE : s.toList = [] := List.isEmpty_iff.1 hxs
      go_enter Tryd.func55, Tryd.ntmps55
      go_wp2_with fail
      go_quiet (fail)
      go_wp2_with fail
      go_ret2
      exact ⟨_, by rw [HV.out]; rfl, HT.out, bdrewN hB _⟩
    | false =>
      have tE : ¬ s.toList = [] := fun h => by rw [h] at hxs; cases hxs
      go_enter Tryd.func55, Tryd.ntmps55
      go_wp2_with fail
      go_quiet (fail)
      go_wp2_with fail
      go_ret2
      exact ⟨_, by rw [HV.out]; rfl, HT.out, bdrewN hB _⟩
  have e3 : (k == 3) = false := beq_eq_false_iff_ne.2 h3
  by_cases h4 : k = 4
  · subst h4
    have HV : Hid (v = (xs && xn)) := Lib.hid (by
      rw [Bool.eq_iff_iff, hv.out]
      simp [FineI, hse, hne])
    have HT : Hid (v = true → (⟨#[125]⟩ : ByteArray) = ⟨(text (tokN ⟨4, a, n, s⟩)).toArray⟩) := Lib.hid (fun _ => by simp [text, tokN])
    clear hv hse hne
    cases xs with
    | true =>
      have tE : s.toList = [] := List.isEmpty_iff.1 hxs
      go_enter Tryd.func55, Tryd.ntmps55
      go_wp2_with fail
      go_quiet (fail)
      go_wp2_with fail
      go_ret2
      exact ⟨_, by rw [HV.out]; rfl, HT.out, bdrewN hB _⟩
    | false =>
      have tE : ¬ s.toList = [] := fun h => by rw [h] at hxs; cases hxs
      go_enter Tryd.func55, Tryd.ntmps55
      go_wp2_with fail
      go_quiet (fail)
      go_wp2_with fail
      go_ret2
      exact ⟨_, by rw [HV.out]; rfl, HT.out, bdrewN hB _⟩
  have e4 : (k == 4) = false := beq_eq_false_iff_ne.2 h4
  by_cases h5 : k = 5
  · subst h5
    have HV : Hid (v = (xs && xn)) := Lib.hid (by
      rw [Bool.eq_iff_iff, hv.out]
      simp [FineI, hse, hne])
    have HT : Hid (v = true → (⟨#[59]⟩ : ByteArray) = ⟨(text (tokN ⟨5, a, n, s⟩)).toArray⟩) := Lib.hid (fun _ => by simp [text, tokN])
    clear hv hse hne
    cases xs with
    | true =>
      have tE : s.toList = [] := List.isEmpty_iff.1 hxs
      go_enter Tryd.func55, Tryd.ntmps55
      go_wp2_with fail
      go_quiet (fail)
      go_wp2_with fail
      go_ret2
      exact ⟨_, by rw [HV.out]; rfl, HT.out, bdrewN hB _⟩
    | false =>
      have tE : ¬ s.toList = [] := fun h => by rw [h] at hxs; cases hxs
      go_enter Tryd.func55, Tryd.ntmps55
      go_wp2_with fail
      go_quiet (fail)
      go_wp2_with fail
      go_ret2
      exact ⟨_, by rw [HV.out]; rfl, HT.out, bdrewN hB _⟩
  have e5 : (k == 5) = false := beq_eq_false_iff_ne.2 h5
  have HV : Hid (v = false) := Lib.hid (by
    cases v with
    | false => rfl
    | true => have := hv.out.1 rfl; simp [FineI, h1, h2, h3, h4, h5] at this)
  clear hv hse hne hxs hxn
  go_enter Tryd.func55, Tryd.ntmps55
  go_wp2_with fail
  go_ret2
  exact ⟨_, by rw [HV.out]; rfl, (fun h => by rw [HV.out] at h; cases h), hB⟩

end Go.Proofs.YtknecagkgegclaaDoor.Zr
