/- What Spans of the reference of layer 16 comes to. -/
import Derived.Test.YtjiifmdjhdhabaaGreatDoorHrend
import Derived.Test.YtjiifmdjhdhabaaGreatDoorHquar
import Derived.Test.YtjiifmdjhdhabaaGreatDoorIrm
import Derived.Lib.MinMax
import Derived.Test.YtjiifmdjhdhabaaGreatDoorJD
namespace Go.Proofs.YtjiifmdjhdhabaaGreatDoor.Ir
set_option linter.unusedSimpArgs false
set_option linter.unusedVariables false
open Go.RowKit Go.Maps Go.Proofs.YtjiifmdjhdhabaaGreatDoor.Bn Go.Proofs.YtjiifmdjhdhabaaGreatDoor.Bx Go.Proofs.YtjiifmdjhdhabaaGreatDoor.Cp Go.Proofs.YtjiifmdjhdhabaaGreatDoor.Am Go.Proofs.YtjiifmdjhdhabaaGreatDoor.Fp Go.Proofs.YtjiifmdjhdhabaaGreatDoor.Ap Go.Proofs.YtjiifmdjhdhabaaGreatDoor.Ar Go.Proofs.YtjiifmdjhdhabaaGreatDoor.Cm Go.Proofs.YtjiifmdjhdhabaaGreatDoor.Em Go.Proofs.YtjiifmdjhdhabaaGreatDoor.Ep Go.Proofs.YtjiifmdjhdhabaaGreatDoor.Rk Go.Proofs.YtjiifmdjhdhabaaGreatDoor.Hp Go.Proofs.YtjiifmdjhdhabaaGreatDoor.Hr

set_option maxHeartbeats 8000000

/-- the first k spans of a level -/
def spl (c : CalZ) (y L : Int) : Nat → List (Int × Int)
  | 0 => []
  | k + 1 => spl c y L k ++ [(uend c y L k + 1, uend c y L ((k : Int) + 1))]
theorem spl_len (c : CalZ) (y L : Int) (k : Nat) : (spl c y L k).length = k := by
  induction k with
  | zero => rfl
  | succ n ih => simp [spl, ih]
theorem spl_at (c : CalZ) (y L : Int) (N k : Nat) (h : k < N) : (spl c y L N)[k]? = some (uend c y L k + 1, uend c y L ((k : Int) + 1)) := by
  induction N with
  | zero => omega
  | succ n ih =>
    by_cases e : k = n
    · subst e
      simp [spl, List.getElem?_append_right, spl_len]
    · rw [spl, List.getElem?_append_left (by rw [spl_len]; omega)]
      exact ih (by omega)
/-- v holds these m spans in a block of its own, laid since w -/
structure OneS (EL : TypeId) (w W : World) (v : Value) (m : Nat) (l : List (Int × Int)) : Prop where
  below : Below w.heap.size w W
  a : W.ownsRow w.heap.size EL 2 v m (scells l)
section
variable {EL : TypeId} {w W w1 : World} {v : Value} {m : Nat} {l : List (Int × Int)}
theorem OneS.start (EL : TypeId) (h : Below w.heap.size w W) : OneS EL w W (.slice none 0 0) 0 [] := ⟨h, World.ownsRow_nil _ _ _ _⟩
theorem OneS.kept (x : OneS EL w W v m l) (hb : Below W.heap.size W w1) : OneS EL w w1 v m l := ⟨Go.Proofs.YtjiifmdjhdhabaaGreatDoor.Pr.bthen x.below hb, own_below x.a hb⟩
theorem OneS.next {W2 : World} {o1 : Obj} {v' : Value} {f t : Int} (X : OneS EL w W v m l)
    (h1 : W2.ownsRow w.heap.size EL 2 v' (m + 1) (scells l ++ [.int .i64 f, .int .i64 t])) (r1 : (W.alloc o1).grownBy W2 v.ownBlock) : OneS EL w W2 v' (m + 1) (l ++ [(f, t)]) :=
  ⟨below_grown (Go.Proofs.YtjiifmdjhdhabaaGreatDoor.Pr.balloc X.below o1) r1 (fun x e => (row_lt X.a e).1) (Nat.le_refl _), by rw [scells_app]; exact h1⟩
theorem OneS.out (X : OneS EL w W v m l) (hl : l.length = m) (hn : 0 < m) : ∃ g cap, v = .slice (some ⟨g, 0, none⟩) m cap ∧ Srow W g l ∧ w.heap.size ≤ g ∧ m ≤ cap := by
  obtain ⟨g, cap, rfl, h2, _⟩ := X.a.form hn
  have e := own_cap X.a
  subst hl
  exact ⟨g, cap, rfl, Srow.of_owns X.a hn, h2, e⟩
end
/-- a function's answer: N spans, and no error -/
def SpTo (w : World) (N : Nat) (l : List (Int × Int)) (e : Ending) (w' : World) : Prop :=
  ∃ g cap : Nat, e = .returned (.tuple #[.slice (some ⟨g, 0, none⟩) N cap, .int .i64 0]) ∧ Srow w' g l ∧ w.heap.size ≤ g ∧ Below w.heap.size w w' ∧ N ≤ cap
theorem rinfoS : (Tryz.prog.info? 32).map (fun i => (i.zero, i.size, i.bytes)) = some (some (.agg #[.int .i64 0, .int .i64 0]), 2, 16) := by kernel_rfl
theorem runderS : Tryz.prog.underlying 49 = some (.slice 32) := by kernel_rfl

set_option maxRecDepth 100000 in
theorem rspans_no (c : CalZ) (L y v er : Int) (w : World) (R : CountA c L y v er) (n : er ≠ 0) (K : ChkSays c) (T : FTab w) :
    Calls Tryz.prog 23 #[.agg #[.string c.nm, .int .i64 c.k, .int .i64 c.d, .int .i64 c.m, .int .i64 c.s, .int .i64 c.sh, .int .i64 c.p0, .int .i64 c.p1, .int .i64 c.p2, .int .i64 c.cy, .int .i64 c.ex, .int .i64 c.fi, .int .i64 c.la, .int .i64 c.po], .int .i64 L, .int .i64 y] w fun e w' => e = .returned (.tuple #[.slice none 0 0, .int .i64 er]) ∧ Below w.heap.size w w' := by
  have C := CalIn.new w c 24
  have B := balloc (Below.refl _ w) (.cells #[.string c.nm, .int .i64 c.k, .int .i64 c.d, .int .i64 c.m, .int .i64 c.s, .int .i64 c.sh, .int .i64 c.p0, .int .i64 c.p1, .int .i64 c.p2, .int .i64 c.cy, .int .i64 c.ex, .int .i64 c.fi, .int .i64 c.la, .int .i64 c.po] 24)
  replace T := T.alloc (.cells #[.string c.nm, .int .i64 c.k, .int .i64 c.d, .int .i64 c.m, .int .i64 c.s, .int .i64 c.sh, .int .i64 c.p0, .int .i64 c.p1, .int .i64 c.p2, .int .i64 c.cy, .int .i64 c.ex, .int .i64 c.fi, .int .i64 c.la, .int .i64 c.po] 24)
  rcases R with ⟨_, _, _, _, h⟩ | ⟨ok, l, s, _, rfl⟩ | ⟨ok, l, _, rfl⟩ | ⟨no, _, rfl⟩
  · exact absurd h n
  · have ck := fun w => K 0 w (.inl ⟨ok, rfl⟩)
    have l0 : decide (L < 1) = false := decide_eq_false (by have := l.1; omega)
    have l1 : decide ((5 : Int) < L) = false := decide_eq_false (by have := l.2; omega)
    by_cases h : y < c.fi
    · have f0 : decide (y < c.fi) = true := decide_eq_true h
      clear ok l s n h K
      go_enter Tryz.func23, Tryz.ntmps23
      go_upto_region 1 with fail
      generalize w.alloc (.cells #[.string c.nm, .int .i64 c.k, .int .i64 c.d, .int .i64 c.m, .int .i64 c.s, .int .i64 c.sh, .int .i64 c.p0, .int .i64 c.p1, .int .i64 c.p2, .int .i64 c.cy, .int .i64 c.ex, .int .i64 c.fi, .int .i64 c.la, .int .i64 c.po] 24) = W0 at *
      obtain ⟨_, c0, c1, c2, c3, c4, c5, c6, c7, c8, c9, c10, c11, c12, c13⟩ := id C
      go_wp2_with fail
      refine (ck _).mono ?_
      rintro e w1 ⟨rfl, hb⟩
      replace C := C.kept hb
      replace B := bthen B hb
      replace T := T.kept hb
      clear hb c0 c1 c2 c3 c4 c5 c6 c7 c8 c9 c10 c11 c12 c13 
      obtain ⟨_, c0, c1, c2, c3, c4, c5, c6, c7, c8, c9, c10, c11, c12, c13⟩ := id C
      go_wp2
      go_ret2
      exact ⟨by simp, B⟩
    · have f0 : decide (y < c.fi) = false := decide_eq_false h
      have f1 : decide (c.la < y) = true := decide_eq_true (by unfold Served at s; omega)
      clear ok l s n h K
      go_enter Tryz.func23, Tryz.ntmps23
      go_upto_region 1 with fail
      generalize w.alloc (.cells #[.string c.nm, .int .i64 c.k, .int .i64 c.d, .int .i64 c.m, .int .i64 c.s, .int .i64 c.sh, .int .i64 c.p0, .int .i64 c.p1, .int .i64 c.p2, .int .i64 c.cy, .int .i64 c.ex, .int .i64 c.fi, .int .i64 c.la, .int .i64 c.po] 24) = W0 at *
      obtain ⟨_, c0, c1, c2, c3, c4, c5, c6, c7, c8, c9, c10, c11, c12, c13⟩ := id C
      go_wp2_with fail
      refine (ck _).mono ?_
      rintro e w2 ⟨rfl, hb⟩
      replace C := C.kept hb
      replace B := bthen B hb
      replace T := T.kept hb
      clear hb c0 c1 c2 c3 c4 c5 c6 c7 c8 c9 c10 c11 c12 c13 
      obtain ⟨_, c0, c1, c2, c3, c4, c5, c6, c7, c8, c9, c10, c11, c12, c13⟩ := id C
      go_wp2
      go_ret2
      exact ⟨by simp, B⟩
  · have ck := fun w => K 0 w (.inl ⟨ok, rfl⟩)
    by_cases h : L < 1
    · have l0 : decide (L < 1) = true := decide_eq_true h
      clear ok l n h K
      go_enter Tryz.func23, Tryz.ntmps23
      go_upto_region 1 with fail
      generalize w.alloc (.cells #[.string c.nm, .int .i64 c.k, .int .i64 c.d, .int .i64 c.m, .int .i64 c.s, .int .i64 c.sh, .int .i64 c.p0, .int .i64 c.p1, .int .i64 c.p2, .int .i64 c.cy, .int .i64 c.ex, .int .i64 c.fi, .int .i64 c.la, .int .i64 c.po] 24) = W0 at *
      obtain ⟨_, c0, c1, c2, c3, c4, c5, c6, c7, c8, c9, c10, c11, c12, c13⟩ := id C
      go_wp2_with fail
      refine (ck _).mono ?_
      rintro e w3 ⟨rfl, hb⟩
      replace C := C.kept hb
      replace B := bthen B hb
      replace T := T.kept hb
      clear hb c0 c1 c2 c3 c4 c5 c6 c7 c8 c9 c10 c11 c12 c13 
      obtain ⟨_, c0, c1, c2, c3, c4, c5, c6, c7, c8, c9, c10, c11, c12, c13⟩ := id C
      go_wp2
      go_ret2
      exact ⟨by simp, B⟩
    · have l0 : decide (L < 1) = false := decide_eq_false h
      have l1 : decide ((5 : Int) < L) = true := decide_eq_true (by unfold LevOk at l; omega)
      clear ok l n h K
      go_enter Tryz.func23, Tryz.ntmps23
      go_upto_region 1 with fail
      generalize w.alloc (.cells #[.string c.nm, .int .i64 c.k, .int .i64 c.d, .int .i64 c.m, .int .i64 c.s, .int .i64 c.sh, .int .i64 c.p0, .int .i64 c.p1, .int .i64 c.p2, .int .i64 c.cy, .int .i64 c.ex, .int .i64 c.fi, .int .i64 c.la, .int .i64 c.po] 24) = W0 at *
      obtain ⟨_, c0, c1, c2, c3, c4, c5, c6, c7, c8, c9, c10, c11, c12, c13⟩ := id C
      go_wp2_with fail
      refine (ck _).mono ?_
      rintro e w4 ⟨rfl, hb⟩
      replace C := C.kept hb
      replace B := bthen B hb
      replace T := T.kept hb
      clear hb c0 c1 c2 c3 c4 c5 c6 c7 c8 c9 c10 c11 c12 c13 
      obtain ⟨_, c0, c1, c2, c3, c4, c5, c6, c7, c8, c9, c10, c11, c12, c13⟩ := id C
      go_wp2
      go_ret2
      exact ⟨by simp, B⟩
  · have ck := fun w => K 1 w (.inr ⟨no, rfl⟩)
    clear no n K
    go_enter Tryz.func23, Tryz.ntmps23
    go_upto_region 1 with fail
    generalize w.alloc (.cells #[.string c.nm, .int .i64 c.k, .int .i64 c.d, .int .i64 c.m, .int .i64 c.s, .int .i64 c.sh, .int .i64 c.p0, .int .i64 c.p1, .int .i64 c.p2, .int .i64 c.cy, .int .i64 c.ex, .int .i64 c.fi, .int .i64 c.la, .int .i64 c.po] 24) = W0 at *
    obtain ⟨_, c0, c1, c2, c3, c4, c5, c6, c7, c8, c9, c10, c11, c12, c13⟩ := id C
    go_wp2_with fail
    refine (ck _).mono ?_
    rintro e w5 ⟨rfl, hb⟩
    replace C := C.kept hb
    replace B := bthen B hb
    replace T := T.kept hb
    clear hb c0 c1 c2 c3 c4 c5 c6 c7 c8 c9 c10 c11 c12 c13 
    obtain ⟨_, c0, c1, c2, c3, c4, c5, c6, c7, c8, c9, c10, c11, c12, c13⟩ := id C
    go_wp2
    go_ret2
    exact ⟨by simp, B⟩

set_option maxRecDepth 100000 in
theorem rspans_1 (c : CalZ) (y : Int) (n N : Nat) (w : World) (ok : CalOk c) (sv : Served c y) (hn : (n : Int) = per c) (hN : (N : Int) = ucount c y 1) (K : ChkSays c) (hm : c.nm.size ≤ maxLen) (T : FTab w) :
    Calls Tryz.prog 23 #[.agg #[.string c.nm, .int .i64 c.k, .int .i64 c.d, .int .i64 c.m, .int .i64 c.s, .int .i64 c.sh, .int .i64 c.p0, .int .i64 c.p1, .int .i64 c.p2, .int .i64 c.cy, .int .i64 c.ex, .int .i64 c.fi, .int .i64 c.la, .int .i64 c.po], .int .i64 1, .int .i64 y] w (SpTo w N (spl c y 1 N)) := by
  obtain ⟨i1, hi, hz0, hz1, hz2⟩ := info_parts rinfoS
  have C := CalIn.new w c 24
  have B := balloc (Below.refl _ w) (.cells #[.string c.nm, .int .i64 c.k, .int .i64 c.d, .int .i64 c.m, .int .i64 c.s, .int .i64 c.sh, .int .i64 c.p0, .int .i64 c.p1, .int .i64 c.p2, .int .i64 c.cy, .int .i64 c.ex, .int .i64 c.fi, .int .i64 c.la, .int .i64 c.po] 24)
  replace T := T.alloc (.cells #[.string c.nm, .int .i64 c.k, .int .i64 c.d, .int .i64 c.m, .int .i64 c.s, .int .i64 c.sh, .int .i64 c.p0, .int .i64 c.p1, .int .i64 c.p2, .int .i64 c.cy, .int .i64 c.ex, .int .i64 c.fi, .int .i64 c.la, .int .i64 c.po] 24)
  have st := served_told ok sv
  have ck := fun w => K 0 w (.inl ⟨ok, rfl⟩)
  have cs := fun w => rStart_any c y (uend c y 1 (0 : Nat) + 1) 0 w (.inl ⟨ok, by omega, by omega, by rw [show ((0 : Nat) : Int) = 0 from rfl, uend_zero ok.1 (by omega) (by omega) (by unfold LevOk; omega), pend_zero], rfl⟩) K
  have ce := fun w T => rEnds_ok c y n w ok (by omega) (by omega) hn K hm T
  have cb := ucount_bd (L := 1) (y := y) ok.1 (by omega) (by omega)
  rw [← hN] at cb
  have pb := per_bd ok.1
  rw [← hn] at pb
  have f0 : decide (y < c.fi) = false := decide_eq_false (by unfold Served at sv; omega)
  have f1 : decide (c.la < y) = false := decide_eq_false (by unfold Served at sv; omega)
  have HC : Hid (∀ (p : Int), 1 ≤ p → p ≤ (n : Int) → ∀ w (T : FTab w), Calls Tryz.prog 45 #[.agg #[.string c.nm, .int .i64 c.k, .int .i64 c.d, .int .i64 c.m, .int .i64 c.s, .int .i64 c.sh, .int .i64 c.p0, .int .i64 c.p1, .int .i64 c.p2, .int .i64 c.cy, .int .i64 c.ex, .int .i64 c.fi, .int .i64 c.la, .int .i64 c.po], .int .i64 p] w fun e w' => e = .returned (.tuple #[.int .i64 (quar (n : Int) p), .int .i64 0]) ∧ Below w.heap.size w w') :=
    Lib.hid (fun p p0 p1 w T => Go.Proofs.YtjiifmdjhdhabaaGreatDoor.Hl.rQuarter_any c p (quar n p) 0 w (.inl ⟨ok, p0, by omega, by rw [hn], rfl⟩) hm T)
  have HB : Hid (∀ k : Nat, k < n → 0 ≤ fend c y k ∧ fend c y k ≤ 3068036) :=
    Lib.hid (fun k hk => by
      have b := pend_bd ok.1 (y := y) (p := (k : Int) + 1) (by omega) (by omega) (by omega) (by omega)
      exact ⟨b.1, b.2⟩)
  have HQB : Hid (∀ p : Int, 1 ≤ quar (n : Int) p ∧ quar (n : Int) p ≤ 4) := Lib.hid (fun p => by have := quar_cases (n : Int) p; omega)
  have HM : Hid (∀ k m : Nat, k ≤ n → (m : Int) = spM (n : Int) 1 k → (m : Int) ≤ 60 ∧ 0 ≤ uend c y 1 m + 1 ∧ uend c y 1 m + 1 ≤ 3068037) :=
    Lib.hid (fun k m hk e => by
      have b : (m : Int) ≤ ucount c y 1 := by
        rw [e, hn]
        exact (spm_le ok.1 1 (by omega) (by omega) (by omega)).2
      have b2 := uend_bd (L := 1) (i := m) ok.1 (y := y) (by omega) (by omega) (by unfold LevOk; omega) (by omega) b
      omega)
  have HE : Hid (∀ m : Nat, (m : Int) = spM (n : Int) 1 n → (m : Int) = N) := Lib.hid (fun m e => by rw [e, hN, hn]; exact spm_last ok.1 1 (by omega) (by omega) hn)
  have H0 : Hid (((0 : Nat) : Int) = spM (n : Int) 1 0) := Lib.hid (by rw [hn, spm_zero ok.1]; rfl)
  have HL : Hid (∀ k m : Nat, k < n → (m : Int) = spM (n : Int) 1 k → ((k : Int) + 1 = n ∧ spM n 1 (k + 1) = m + 1 ∧ uend c y 1 ((m : Int) + 1) = fend c y k) ∨ ((k : Int) + 1 < n ∧ spM n 1 (k + 1) = m)) :=
    Lib.hid (fun k m hk hm' => by
      have h := sp_1 (y := y) ok.1 (k := k) (by omega)
      rw [← hn, ← hm'] at h
      exact h)
  have n52 : (n : Int) ≤ 52 := by omega
  have n12 : (12 : Int) ≤ (n : Int) := by omega
  have N1 : 1 ≤ N ∧ N ≤ 60 := by omega
  clear ok sv hn hN K st cb pb
  go_enter Tryz.func23, Tryz.ntmps23
  go_upto_region 1 with fail
  generalize w.alloc (.cells #[.string c.nm, .int .i64 c.k, .int .i64 c.d, .int .i64 c.m, .int .i64 c.s, .int .i64 c.sh, .int .i64 c.p0, .int .i64 c.p1, .int .i64 c.p2, .int .i64 c.cy, .int .i64 c.ex, .int .i64 c.fi, .int .i64 c.la, .int .i64 c.po] 24) = W0 at *
  obtain ⟨_, c0, c1, c2, c3, c4, c5, c6, c7, c8, c9, c10, c11, c12, c13⟩ := id C
  go_wp2_with fail
  refine (ck _).mono ?_
  rintro e w1 ⟨rfl, hb⟩
  replace C := C.kept hb
  replace B := bthen B hb
  replace T := T.kept hb
  clear hb c0 c1 c2 c3 c4 c5 c6 c7 c8 c9 c10 c11 c12 c13 
  obtain ⟨_, c0, c1, c2, c3, c4, c5, c6, c7, c8, c9, c10, c11, c12, c13⟩ := id C
  go_wp2_with fail
  refine (cs _).mono ?_
  rintro e w2 ⟨rfl, hb⟩
  replace C := C.kept hb
  replace B := bthen B hb
  replace T := T.kept hb
  clear hb c0 c1 c2 c3 c4 c5 c6 c7 c8 c9 c10 c11 c12 c13 
  obtain ⟨_, c0, c1, c2, c3, c4, c5, c6, c7, c8, c9, c10, c11, c12, c13⟩ := id C
  go_wp2_with fail
  refine (ce _ T).mono ?_
  rintro e w3 ⟨ge, cape, rfl, R, hge, hb⟩
  replace C := C.kept hb
  replace B := bthen B hb
  replace T := T.kept hb
  clear hb c0 c1 c2 c3 c4 c5 c6 c7 c8 c9 c10 c11 c12 c13 
  obtain ⟨_, c0, c1, c2, c3, c4, c5, c6, c7, c8, c9, c10, c11, c12, c13⟩ := id C
  clear hge
  obtain ⟨_, _, _⟩ := id R
  clear ck cs ce
  clear c0 c1 c2 c3 c4 c5 c6 c7 c8 c9 c10 c11 c12 c13 
  go_wp2
  go_loopw [9, 13, 54] (fun F Z I wr => ∃ k m : Nat, k ≤ n ∧ (m : Int) = spM (n : Int) 1 k ∧ I = .int .i64 (k : Int) ∧ F = .int .i64 (uend c y 1 m + 1) ∧ OneS 32 w3 wr Z m (spl c y 1 m)) (fun _ _ I _ => n - (intOf I).toNat)
  case atStart => exact ⟨0, 0, by omega, H0.out, rfl, rfl, OneS.start _ (Below.refl _ _)⟩
  case round =>
    obtain ⟨k, m, kM, hm', rfl, rfl, X⟩ := hrel
    have C2 := C.kept X.below
    have T2 := T.kept X.below
    have R2 := R.kept X.below
    by_cases hlt : k < n
    · have rk := R2.c k hlt
      have vb := HB.out k hlt
      have c1 := HC.out ((k : Int) + 1) (by omega) (by omega)
      have HS := HL.out k m hlt hm'
      obtain ⟨v, hv⟩ : ∃ v, fend c y k = v := ⟨_, rfl⟩
      rw [hv] at rk vb
      have HV := Lib.hid hv
      obtain ⟨q, hq⟩ : ∃ q, quar (n : Int) ((k : Int) + 1) = q := ⟨_, rfl⟩
      rw [hq] at c1
      have kk : (k : Int) < (n : Int) := by omega
      have m60 : m ≤ 60 := by have := HM.out k m (by omega) hm'; omega
      have HMM := Lib.hid hm'
      have HQ := Lib.hid hq
      obtain ⟨F, hF⟩ : ∃ F, uend c y 1 m + 1 = F := ⟨_, rfl⟩
      have Fb : 0 ≤ F ∧ F ≤ 3068037 := by have := HM.out k m (by omega) hm'; omega
      rw [hF]
      have HF := Lib.hid hF
      clear hv hm' hq R2 hF
      obtain ⟨_, d0, d1, d2, d3, d4, d5, d6, d7, d8, d9, d10, d11, d12, d13⟩ := id C2
      go_wp2_with fail
      refine (c1 _ T2).mono ?_
      rintro e w8 ⟨rfl, hb⟩
      replace X := X.kept hb
      replace C2 := C2.kept hb
      replace T2 := T2.kept hb
      clear hb c1 d0 d1 d2 d3 d4 d5 d6 d7 d8 d9 d10 d11 d12 d13
      by_cases hl : k + 1 < n
      · have kl : (k : Int) + 1 < (n : Int) := by omega
        have kl2 : ((k : Int) + 1 == (n : Int)) = false := beq_eq_false_iff_ne.2 (by omega)
        have c2 := HC.out ((k : Int) + 2) (by omega) (by omega)
        obtain ⟨x, hx⟩ : ∃ x, quar (n : Int) ((k : Int) + 2) = x := ⟨_, rfl⟩
        rw [hx] at c2
        have HX : Hid (qnx (n : Int) k = x) := Lib.hid (by unfold qnx; rw [if_neg (by omega)]; exact hx)
        clear hx
        obtain ⟨_, d0, d1, d2, d3, d4, d5, d6, d7, d8, d9, d10, d11, d12, d13⟩ := id C2
        go_wp2_with fail
        refine (c2 _ T2).mono ?_
        rintro e w9 ⟨rfl, hb⟩
        replace X := X.kept hb
        clear hb c2 d0 d1 d2 d3 d4 d5 d6 d7 d8 d9 d10 d11 d12 d13 C2 T2
        have qb := HQB.out ((k : Int) + 1)
        rw [HQ.out] at qb
        rcases HS with ⟨h0, h2, h3⟩ | ⟨_, h2⟩
        · exact absurd h0 (by omega)
        · have HN := Lib.hid h2
          clear h2
          go_wp2
          go_roundw
          case rel => exact ⟨k + 1, m, by omega, by rw [HN.out], by go_num, by rw [HF.out], X⟩
          case measure => simp [intOf]; omega
      · have kl : ¬ (k : Int) + 1 < (n : Int) := by omega
        have kl2 : ((k : Int) + 1 == (n : Int)) = true := beq_iff_eq.2 (by omega)
        have HX : Hid (qnx (n : Int) k = 5) := Lib.hid (by unfold qnx; rw [if_pos (by omega)])
        clear C2 T2
        have qb := HQB.out ((k : Int) + 1)
        rw [HQ.out] at qb
        rcases HS with ⟨_, h2, h3⟩ | ⟨h0, _⟩
        · have HN := Lib.hid h2
          have HU : Hid (uend c y 1 ((m : Int) + 1) = v) := Lib.hid (h3.trans HV.out)
          clear h2 h3
          go_wp2_with (first
            | (at_builtin; refine wpList_append_own_at _ rfl _ _ 49 rfl w3.heap.size 32 i1 (.agg #[.int .i64 0, .int .i64 0]) 2 16 runderS hi hz0 hz1 hz2 rfl (by decide) _ m (scells (spl c y 1 m)) rfl (X.a.alloc _) ⟨_, 0, none⟩ 1 1 [.int .i64 F, .int .i64 v] rfl rfl ?c1 ?c2 ?c3 ?c4 ?c5 ?m1))
          case c1 =>
            intro j u hj
            match j, hj with
            | 0, hj => simp at hj; subst hj; simp [Addr.add, go_sem]
            | 1, hj => simp at hj; subst hj; simp [Addr.add, go_sem]
          case c2 => intro u hu; simp at hu; rcases hu with rfl | rfl <;> rfl
          case c3 => unfold maxLen; omega
          case c4 => omega
          case c5 => have z1 := X.below.size; simp; omega
          case m1 =>
            intro v3 wz hown3 hg3 _ hat
            have X4 := X.next hown3 hg3
            have X5 : OneS 32 w3 wz v3 (m + 1) (spl c y 1 (m + 1)) := by
              show OneS 32 w3 wz v3 (m + 1) (spl c y 1 m ++ [(uend c y 1 m + 1, uend c y 1 ((m : Int) + 1))])
              rw [HF.out, HU.out]
              exact X4
            clear X4
            go_wp2
            go_roundw
            case rel => exact ⟨k + 1, m + 1, by omega, by have := HN.out; omega, by go_num, by rw [show ((m + 1 : Nat) : Int) = (m : Int) + 1 by omega, HU.out], X5⟩
            case measure => simp [intOf]; omega
        · exact absurd h0 (by omega)
    · obtain rfl : k = n := by omega
      have kk : ¬ (k : Int) < (k : Int) := by omega
      have hmN := HE.out m hm'
      obtain rfl : N = m := by omega
      have QQ := X.out (spl_len _ _ _ _) (by omega)
      obtain ⟨g, cap, rfl, QQ, le, hcap⟩ := QQ
      have bb := bthen B X.below
      have Z : SpTo w N (spl c y 1 N) (.returned (.tuple #[.slice (some ⟨g, 0, none⟩) N cap, .int .i64 0])) wr := ⟨g, cap, rfl, QQ, by omega, bb, hcap⟩
      have HZ := Lib.hid Z
      clear Z QQ X bb
      go_wp2
      exact bodyPost_ret (v := .tuple #[.slice (some ⟨g, 0, none⟩) N cap, .int .i64 0]) (by simp [results, Tryz.results23, go_sem]) rfl HZ.out

set_option maxRecDepth 100000 in
theorem rspans_2 (c : CalZ) (y : Int) (n N : Nat) (w : World) (ok : CalOk c) (sv : Served c y) (hn : (n : Int) = per c) (hN : (N : Int) = ucount c y 2) (K : ChkSays c) (hm : c.nm.size ≤ maxLen) (T : FTab w) :
    Calls Tryz.prog 23 #[.agg #[.string c.nm, .int .i64 c.k, .int .i64 c.d, .int .i64 c.m, .int .i64 c.s, .int .i64 c.sh, .int .i64 c.p0, .int .i64 c.p1, .int .i64 c.p2, .int .i64 c.cy, .int .i64 c.ex, .int .i64 c.fi, .int .i64 c.la, .int .i64 c.po], .int .i64 2, .int .i64 y] w (SpTo w N (spl c y 2 N)) := by
  obtain ⟨i1, hi, hz0, hz1, hz2⟩ := info_parts rinfoS
  have C := CalIn.new w c 24
  have B := balloc (Below.refl _ w) (.cells #[.string c.nm, .int .i64 c.k, .int .i64 c.d, .int .i64 c.m, .int .i64 c.s, .int .i64 c.sh, .int .i64 c.p0, .int .i64 c.p1, .int .i64 c.p2, .int .i64 c.cy, .int .i64 c.ex, .int .i64 c.fi, .int .i64 c.la, .int .i64 c.po] 24)
  replace T := T.alloc (.cells #[.string c.nm, .int .i64 c.k, .int .i64 c.d, .int .i64 c.m, .int .i64 c.s, .int .i64 c.sh, .int .i64 c.p0, .int .i64 c.p1, .int .i64 c.p2, .int .i64 c.cy, .int .i64 c.ex, .int .i64 c.fi, .int .i64 c.la, .int .i64 c.po] 24)
  have st := served_told ok sv
  have ck := fun w => K 0 w (.inl ⟨ok, rfl⟩)
  have cs := fun w => rStart_any c y (uend c y 2 (0 : Nat) + 1) 0 w (.inl ⟨ok, by omega, by omega, by rw [show ((0 : Nat) : Int) = 0 from rfl, uend_zero ok.1 (by omega) (by omega) (by unfold LevOk; omega), pend_zero], rfl⟩) K
  have ce := fun w T => rEnds_ok c y n w ok (by omega) (by omega) hn K hm T
  have cb := ucount_bd (L := 2) (y := y) ok.1 (by omega) (by omega)
  rw [← hN] at cb
  have pb := per_bd ok.1
  rw [← hn] at pb
  have f0 : decide (y < c.fi) = false := decide_eq_false (by unfold Served at sv; omega)
  have f1 : decide (c.la < y) = false := decide_eq_false (by unfold Served at sv; omega)
  have HC : Hid (∀ (p : Int), 1 ≤ p → p ≤ (n : Int) → ∀ w (T : FTab w), Calls Tryz.prog 45 #[.agg #[.string c.nm, .int .i64 c.k, .int .i64 c.d, .int .i64 c.m, .int .i64 c.s, .int .i64 c.sh, .int .i64 c.p0, .int .i64 c.p1, .int .i64 c.p2, .int .i64 c.cy, .int .i64 c.ex, .int .i64 c.fi, .int .i64 c.la, .int .i64 c.po], .int .i64 p] w fun e w' => e = .returned (.tuple #[.int .i64 (quar (n : Int) p), .int .i64 0]) ∧ Below w.heap.size w w') :=
    Lib.hid (fun p p0 p1 w T => Go.Proofs.YtjiifmdjhdhabaaGreatDoor.Hl.rQuarter_any c p (quar n p) 0 w (.inl ⟨ok, p0, by omega, by rw [hn], rfl⟩) hm T)
  have HB : Hid (∀ k : Nat, k < n → 0 ≤ fend c y k ∧ fend c y k ≤ 3068036) :=
    Lib.hid (fun k hk => by
      have b := pend_bd ok.1 (y := y) (p := (k : Int) + 1) (by omega) (by omega) (by omega) (by omega)
      exact ⟨b.1, b.2⟩)
  have HQB : Hid (∀ p : Int, 1 ≤ quar (n : Int) p ∧ quar (n : Int) p ≤ 4) := Lib.hid (fun p => by have := quar_cases (n : Int) p; omega)
  have HM : Hid (∀ k m : Nat, k ≤ n → (m : Int) = spM (n : Int) 2 k → (m : Int) ≤ 60 ∧ 0 ≤ uend c y 2 m + 1 ∧ uend c y 2 m + 1 ≤ 3068037) :=
    Lib.hid (fun k m hk e => by
      have b : (m : Int) ≤ ucount c y 2 := by
        rw [e, hn]
        exact (spm_le ok.1 2 (by omega) (by omega) (by omega)).2
      have b2 := uend_bd (L := 2) (i := m) ok.1 (y := y) (by omega) (by omega) (by unfold LevOk; omega) (by omega) b
      omega)
  have HE : Hid (∀ m : Nat, (m : Int) = spM (n : Int) 2 n → (m : Int) = N) := Lib.hid (fun m e => by rw [e, hN, hn]; exact spm_last ok.1 2 (by omega) (by omega) hn)
  have H0 : Hid (((0 : Nat) : Int) = spM (n : Int) 2 0) := Lib.hid (by rw [hn, spm_zero ok.1]; rfl)
  have HL : Hid (∀ k m : Nat, k < n → (m : Int) = spM (n : Int) 2 k → (quar n ((k : Int) + 1) < qnx n k ∧ quar n ((k : Int) + 1) % 2 = 0 ∧ spM n 2 (k + 1) = m + 1 ∧ uend c y 2 ((m : Int) + 1) = fend c y k) ∨ (¬ (quar n ((k : Int) + 1) < qnx n k ∧ quar n ((k : Int) + 1) % 2 = 0) ∧ (k : Int) + 1 < n ∧ spM n 2 (k + 1) = m)) :=
    Lib.hid (fun k m hk hm' => by
      have h := sp_2 (y := y) ok.1 (k := k) (by omega)
      rw [← hn, ← hm'] at h
      exact h)
  have n52 : (n : Int) ≤ 52 := by omega
  have n12 : (12 : Int) ≤ (n : Int) := by omega
  have N1 : 1 ≤ N ∧ N ≤ 60 := by omega
  clear ok sv hn hN K st cb pb
  go_enter Tryz.func23, Tryz.ntmps23
  go_upto_region 1 with fail
  generalize w.alloc (.cells #[.string c.nm, .int .i64 c.k, .int .i64 c.d, .int .i64 c.m, .int .i64 c.s, .int .i64 c.sh, .int .i64 c.p0, .int .i64 c.p1, .int .i64 c.p2, .int .i64 c.cy, .int .i64 c.ex, .int .i64 c.fi, .int .i64 c.la, .int .i64 c.po] 24) = W0 at *
  obtain ⟨_, c0, c1, c2, c3, c4, c5, c6, c7, c8, c9, c10, c11, c12, c13⟩ := id C
  go_wp2_with fail
  refine (ck _).mono ?_
  rintro e w1 ⟨rfl, hb⟩
  replace C := C.kept hb
  replace B := bthen B hb
  replace T := T.kept hb
  clear hb c0 c1 c2 c3 c4 c5 c6 c7 c8 c9 c10 c11 c12 c13 
  obtain ⟨_, c0, c1, c2, c3, c4, c5, c6, c7, c8, c9, c10, c11, c12, c13⟩ := id C
  go_wp2_with fail
  refine (cs _).mono ?_
  rintro e w2 ⟨rfl, hb⟩
  replace C := C.kept hb
  replace B := bthen B hb
  replace T := T.kept hb
  clear hb c0 c1 c2 c3 c4 c5 c6 c7 c8 c9 c10 c11 c12 c13 
  obtain ⟨_, c0, c1, c2, c3, c4, c5, c6, c7, c8, c9, c10, c11, c12, c13⟩ := id C
  go_wp2_with fail
  refine (ce _ T).mono ?_
  rintro e w3 ⟨ge, cape, rfl, R, hge, hb⟩
  replace C := C.kept hb
  replace B := bthen B hb
  replace T := T.kept hb
  clear hb c0 c1 c2 c3 c4 c5 c6 c7 c8 c9 c10 c11 c12 c13 
  obtain ⟨_, c0, c1, c2, c3, c4, c5, c6, c7, c8, c9, c10, c11, c12, c13⟩ := id C
  clear hge
  obtain ⟨_, _, _⟩ := id R
  clear ck cs ce
  clear c0 c1 c2 c3 c4 c5 c6 c7 c8 c9 c10 c11 c12 c13 
  go_wp2
  go_loopw [9, 13, 54] (fun F Z I wr => ∃ k m : Nat, k ≤ n ∧ (m : Int) = spM (n : Int) 2 k ∧ I = .int .i64 (k : Int) ∧ F = .int .i64 (uend c y 2 m + 1) ∧ OneS 32 w3 wr Z m (spl c y 2 m)) (fun _ _ I _ => n - (intOf I).toNat)
  case atStart => exact ⟨0, 0, by omega, H0.out, rfl, rfl, OneS.start _ (Below.refl _ _)⟩
  case round =>
    obtain ⟨k, m, kM, hm', rfl, rfl, X⟩ := hrel
    have C2 := C.kept X.below
    have T2 := T.kept X.below
    have R2 := R.kept X.below
    by_cases hlt : k < n
    · have rk := R2.c k hlt
      have vb := HB.out k hlt
      have c1 := HC.out ((k : Int) + 1) (by omega) (by omega)
      have HS := HL.out k m hlt hm'
      obtain ⟨v, hv⟩ : ∃ v, fend c y k = v := ⟨_, rfl⟩
      rw [hv] at rk vb
      have HV := Lib.hid hv
      obtain ⟨q, hq⟩ : ∃ q, quar (n : Int) ((k : Int) + 1) = q := ⟨_, rfl⟩
      rw [hq] at c1
      have kk : (k : Int) < (n : Int) := by omega
      have m60 : m ≤ 60 := by have := HM.out k m (by omega) hm'; omega
      have HMM := Lib.hid hm'
      have HQ := Lib.hid hq
      obtain ⟨F, hF⟩ : ∃ F, uend c y 2 m + 1 = F := ⟨_, rfl⟩
      have Fb : 0 ≤ F ∧ F ≤ 3068037 := by have := HM.out k m (by omega) hm'; omega
      rw [hF]
      have HF := Lib.hid hF
      clear hv hm' hq R2 hF
      obtain ⟨_, d0, d1, d2, d3, d4, d5, d6, d7, d8, d9, d10, d11, d12, d13⟩ := id C2
      go_wp2_with fail
      refine (c1 _ T2).mono ?_
      rintro e w8 ⟨rfl, hb⟩
      replace X := X.kept hb
      replace C2 := C2.kept hb
      replace T2 := T2.kept hb
      clear hb c1 d0 d1 d2 d3 d4 d5 d6 d7 d8 d9 d10 d11 d12 d13
      by_cases hl : k + 1 < n
      · have kl : (k : Int) + 1 < (n : Int) := by omega
        have kl2 : ((k : Int) + 1 == (n : Int)) = false := beq_eq_false_iff_ne.2 (by omega)
        have c2 := HC.out ((k : Int) + 2) (by omega) (by omega)
        obtain ⟨x, hx⟩ : ∃ x, quar (n : Int) ((k : Int) + 2) = x := ⟨_, rfl⟩
        rw [hx] at c2
        have HX : Hid (qnx (n : Int) k = x) := Lib.hid (by unfold qnx; rw [if_neg (by omega)]; exact hx)
        clear hx
        obtain ⟨_, d0, d1, d2, d3, d4, d5, d6, d7, d8, d9, d10, d11, d12, d13⟩ := id C2
        go_wp2_with fail
        refine (c2 _ T2).mono ?_
        rintro e w9 ⟨rfl, hb⟩
        replace X := X.kept hb
        clear hb c2 d0 d1 d2 d3 d4 d5 d6 d7 d8 d9 d10 d11 d12 d13 C2 T2
        have qb := HQB.out ((k : Int) + 1)
        rw [HQ.out] at qb
        rw [HQ.out, HX.out] at HS
        rcases HS with ⟨h1, h4, h2, h3⟩ | ⟨h1, _, h2⟩
        · have qm : q.tmod 2 = 0 := by rw [Int.tmod_eq_emod_of_nonneg (by omega)]; exact h4
          clear h4
          have HN := Lib.hid h2
          have HU : Hid (uend c y 2 ((m : Int) + 1) = v) := Lib.hid (h3.trans HV.out)
          clear h2 h3
          go_wp2_with (first
            | (at_builtin; refine wpList_append_own_at _ rfl _ _ 49 rfl w3.heap.size 32 i1 (.agg #[.int .i64 0, .int .i64 0]) 2 16 runderS hi hz0 hz1 hz2 rfl (by decide) _ m (scells (spl c y 2 m)) rfl (X.a.alloc _) ⟨_, 0, none⟩ 1 1 [.int .i64 F, .int .i64 v] rfl rfl ?c1 ?c2 ?c3 ?c4 ?c5 ?m1))
          case c1 =>
            intro j u hj
            match j, hj with
            | 0, hj => simp at hj; subst hj; simp [Addr.add, go_sem]
            | 1, hj => simp at hj; subst hj; simp [Addr.add, go_sem]
          case c2 => intro u hu; simp at hu; rcases hu with rfl | rfl <;> rfl
          case c3 => unfold maxLen; omega
          case c4 => omega
          case c5 => have z1 := X.below.size; simp; omega
          case m1 =>
            intro v3 wz hown3 hg3 _ hat
            have X4 := X.next hown3 hg3
            have X5 : OneS 32 w3 wz v3 (m + 1) (spl c y 2 (m + 1)) := by
              show OneS 32 w3 wz v3 (m + 1) (spl c y 2 m ++ [(uend c y 2 m + 1, uend c y 2 ((m : Int) + 1))])
              rw [HF.out, HU.out]
              exact X4
            clear X4
            go_wp2
            go_roundw
            case rel => exact ⟨k + 1, m + 1, by omega, by have := HN.out; omega, by go_num, by rw [show ((m + 1 : Nat) : Int) = (m : Int) + 1 by omega, HU.out], X5⟩
            case measure => simp [intOf]; omega
        · by_cases hx : q < x
          · have qm : q.tmod 2 = 1 := by
              have z : ¬ q % 2 = 0 := fun z => h1 ⟨hx, z⟩
              rw [Int.tmod_eq_emod_of_nonneg (by omega)]; omega
            clear h1
            have HN := Lib.hid h2
            clear h2
            go_wp2
            go_roundw
            case rel => exact ⟨k + 1, m, by omega, by rw [HN.out], by go_num, by rw [HF.out], X⟩
            case measure => simp [intOf]; omega
          · clear h1
            have HN := Lib.hid h2
            clear h2
            go_wp2
            go_roundw
            case rel => exact ⟨k + 1, m, by omega, by rw [HN.out], by go_num, by rw [HF.out], X⟩
            case measure => simp [intOf]; omega
      · have kl : ¬ (k : Int) + 1 < (n : Int) := by omega
        have kl2 : ((k : Int) + 1 == (n : Int)) = true := beq_iff_eq.2 (by omega)
        have HX : Hid (qnx (n : Int) k = 5) := Lib.hid (by unfold qnx; rw [if_pos (by omega)])
        clear C2 T2
        have qb := HQB.out ((k : Int) + 1)
        rw [HQ.out] at qb
        rw [HQ.out, HX.out] at HS
        rcases HS with ⟨h1, h4, h2, h3⟩ | ⟨_, h0, _⟩
        · have qm : q.tmod 2 = 0 := by rw [Int.tmod_eq_emod_of_nonneg (by omega)]; exact h4
          clear h4
          have HN := Lib.hid h2
          have HU : Hid (uend c y 2 ((m : Int) + 1) = v) := Lib.hid (h3.trans HV.out)
          clear h2 h3
          go_wp2_with (first
            | (at_builtin; refine wpList_append_own_at _ rfl _ _ 49 rfl w3.heap.size 32 i1 (.agg #[.int .i64 0, .int .i64 0]) 2 16 runderS hi hz0 hz1 hz2 rfl (by decide) _ m (scells (spl c y 2 m)) rfl (X.a.alloc _) ⟨_, 0, none⟩ 1 1 [.int .i64 F, .int .i64 v] rfl rfl ?c1 ?c2 ?c3 ?c4 ?c5 ?m1))
          case c1 =>
            intro j u hj
            match j, hj with
            | 0, hj => simp at hj; subst hj; simp [Addr.add, go_sem]
            | 1, hj => simp at hj; subst hj; simp [Addr.add, go_sem]
          case c2 => intro u hu; simp at hu; rcases hu with rfl | rfl <;> rfl
          case c3 => unfold maxLen; omega
          case c4 => omega
          case c5 => have z1 := X.below.size; simp; omega
          case m1 =>
            intro v3 wz hown3 hg3 _ hat
            have X4 := X.next hown3 hg3
            have X5 : OneS 32 w3 wz v3 (m + 1) (spl c y 2 (m + 1)) := by
              show OneS 32 w3 wz v3 (m + 1) (spl c y 2 m ++ [(uend c y 2 m + 1, uend c y 2 ((m : Int) + 1))])
              rw [HF.out, HU.out]
              exact X4
            clear X4
            go_wp2
            go_roundw
            case rel => exact ⟨k + 1, m + 1, by omega, by have := HN.out; omega, by go_num, by rw [show ((m + 1 : Nat) : Int) = (m : Int) + 1 by omega, HU.out], X5⟩
            case measure => simp [intOf]; omega
        · exact absurd h0 (by omega)
    · obtain rfl : k = n := by omega
      have kk : ¬ (k : Int) < (k : Int) := by omega
      have hmN := HE.out m hm'
      obtain rfl : N = m := by omega
      have QQ := X.out (spl_len _ _ _ _) (by omega)
      obtain ⟨g, cap, rfl, QQ, le, hcap⟩ := QQ
      have bb := bthen B X.below
      have Z : SpTo w N (spl c y 2 N) (.returned (.tuple #[.slice (some ⟨g, 0, none⟩) N cap, .int .i64 0])) wr := ⟨g, cap, rfl, QQ, by omega, bb, hcap⟩
      have HZ := Lib.hid Z
      clear Z QQ X bb
      go_wp2
      exact bodyPost_ret (v := .tuple #[.slice (some ⟨g, 0, none⟩) N cap, .int .i64 0]) (by simp [results, Tryz.results23, go_sem]) rfl HZ.out

set_option maxRecDepth 100000 in
theorem rspans_3 (c : CalZ) (y : Int) (n N : Nat) (w : World) (ok : CalOk c) (sv : Served c y) (hn : (n : Int) = per c) (hN : (N : Int) = ucount c y 3) (K : ChkSays c) (hm : c.nm.size ≤ maxLen) (T : FTab w) :
    Calls Tryz.prog 23 #[.agg #[.string c.nm, .int .i64 c.k, .int .i64 c.d, .int .i64 c.m, .int .i64 c.s, .int .i64 c.sh, .int .i64 c.p0, .int .i64 c.p1, .int .i64 c.p2, .int .i64 c.cy, .int .i64 c.ex, .int .i64 c.fi, .int .i64 c.la, .int .i64 c.po], .int .i64 3, .int .i64 y] w (SpTo w N (spl c y 3 N)) := by
  obtain ⟨i1, hi, hz0, hz1, hz2⟩ := info_parts rinfoS
  have C := CalIn.new w c 24
  have B := balloc (Below.refl _ w) (.cells #[.string c.nm, .int .i64 c.k, .int .i64 c.d, .int .i64 c.m, .int .i64 c.s, .int .i64 c.sh, .int .i64 c.p0, .int .i64 c.p1, .int .i64 c.p2, .int .i64 c.cy, .int .i64 c.ex, .int .i64 c.fi, .int .i64 c.la, .int .i64 c.po] 24)
  replace T := T.alloc (.cells #[.string c.nm, .int .i64 c.k, .int .i64 c.d, .int .i64 c.m, .int .i64 c.s, .int .i64 c.sh, .int .i64 c.p0, .int .i64 c.p1, .int .i64 c.p2, .int .i64 c.cy, .int .i64 c.ex, .int .i64 c.fi, .int .i64 c.la, .int .i64 c.po] 24)
  have st := served_told ok sv
  have ck := fun w => K 0 w (.inl ⟨ok, rfl⟩)
  have cs := fun w => rStart_any c y (uend c y 3 (0 : Nat) + 1) 0 w (.inl ⟨ok, by omega, by omega, by rw [show ((0 : Nat) : Int) = 0 from rfl, uend_zero ok.1 (by omega) (by omega) (by unfold LevOk; omega), pend_zero], rfl⟩) K
  have ce := fun w T => rEnds_ok c y n w ok (by omega) (by omega) hn K hm T
  have cb := ucount_bd (L := 3) (y := y) ok.1 (by omega) (by omega)
  rw [← hN] at cb
  have pb := per_bd ok.1
  rw [← hn] at pb
  have f0 : decide (y < c.fi) = false := decide_eq_false (by unfold Served at sv; omega)
  have f1 : decide (c.la < y) = false := decide_eq_false (by unfold Served at sv; omega)
  have HC : Hid (∀ (p : Int), 1 ≤ p → p ≤ (n : Int) → ∀ w (T : FTab w), Calls Tryz.prog 45 #[.agg #[.string c.nm, .int .i64 c.k, .int .i64 c.d, .int .i64 c.m, .int .i64 c.s, .int .i64 c.sh, .int .i64 c.p0, .int .i64 c.p1, .int .i64 c.p2, .int .i64 c.cy, .int .i64 c.ex, .int .i64 c.fi, .int .i64 c.la, .int .i64 c.po], .int .i64 p] w fun e w' => e = .returned (.tuple #[.int .i64 (quar (n : Int) p), .int .i64 0]) ∧ Below w.heap.size w w') :=
    Lib.hid (fun p p0 p1 w T => Go.Proofs.YtjiifmdjhdhabaaGreatDoor.Hl.rQuarter_any c p (quar n p) 0 w (.inl ⟨ok, p0, by omega, by rw [hn], rfl⟩) hm T)
  have HB : Hid (∀ k : Nat, k < n → 0 ≤ fend c y k ∧ fend c y k ≤ 3068036) :=
    Lib.hid (fun k hk => by
      have b := pend_bd ok.1 (y := y) (p := (k : Int) + 1) (by omega) (by omega) (by omega) (by omega)
      exact ⟨b.1, b.2⟩)
  have HQB : Hid (∀ p : Int, 1 ≤ quar (n : Int) p ∧ quar (n : Int) p ≤ 4) := Lib.hid (fun p => by have := quar_cases (n : Int) p; omega)
  have HM : Hid (∀ k m : Nat, k ≤ n → (m : Int) = spM (n : Int) 3 k → (m : Int) ≤ 60 ∧ 0 ≤ uend c y 3 m + 1 ∧ uend c y 3 m + 1 ≤ 3068037) :=
    Lib.hid (fun k m hk e => by
      have b : (m : Int) ≤ ucount c y 3 := by
        rw [e, hn]
        exact (spm_le ok.1 3 (by omega) (by omega) (by omega)).2
      have b2 := uend_bd (L := 3) (i := m) ok.1 (y := y) (by omega) (by omega) (by unfold LevOk; omega) (by omega) b
      omega)
  have HE : Hid (∀ m : Nat, (m : Int) = spM (n : Int) 3 n → (m : Int) = N) := Lib.hid (fun m e => by rw [e, hN, hn]; exact spm_last ok.1 3 (by omega) (by omega) hn)
  have H0 : Hid (((0 : Nat) : Int) = spM (n : Int) 3 0) := Lib.hid (by rw [hn, spm_zero ok.1]; rfl)
  have HL : Hid (∀ k m : Nat, k < n → (m : Int) = spM (n : Int) 3 k → (quar n ((k : Int) + 1) < qnx n k ∧ spM n 3 (k + 1) = m + 1 ∧ uend c y 3 ((m : Int) + 1) = fend c y k) ∨ (¬ quar n ((k : Int) + 1) < qnx n k ∧ (k : Int) + 1 < n ∧ spM n 3 (k + 1) = m)) :=
    Lib.hid (fun k m hk hm' => by
      have h := sp_3 (y := y) ok.1 (k := k) (by omega)
      rw [← hn, ← hm'] at h
      exact h)
  have n52 : (n : Int) ≤ 52 := by omega
  have n12 : (12 : Int) ≤ (n : Int) := by omega
  have N1 : 1 ≤ N ∧ N ≤ 60 := by omega
  clear ok sv hn hN K st cb pb
  go_enter Tryz.func23, Tryz.ntmps23
  go_upto_region 1 with fail
  generalize w.alloc (.cells #[.string c.nm, .int .i64 c.k, .int .i64 c.d, .int .i64 c.m, .int .i64 c.s, .int .i64 c.sh, .int .i64 c.p0, .int .i64 c.p1, .int .i64 c.p2, .int .i64 c.cy, .int .i64 c.ex, .int .i64 c.fi, .int .i64 c.la, .int .i64 c.po] 24) = W0 at *
  obtain ⟨_, c0, c1, c2, c3, c4, c5, c6, c7, c8, c9, c10, c11, c12, c13⟩ := id C
  go_wp2_with fail
  refine (ck _).mono ?_
  rintro e w1 ⟨rfl, hb⟩
  replace C := C.kept hb
  replace B := bthen B hb
  replace T := T.kept hb
  clear hb c0 c1 c2 c3 c4 c5 c6 c7 c8 c9 c10 c11 c12 c13 
  obtain ⟨_, c0, c1, c2, c3, c4, c5, c6, c7, c8, c9, c10, c11, c12, c13⟩ := id C
  go_wp2_with fail
  refine (cs _).mono ?_
  rintro e w2 ⟨rfl, hb⟩
  replace C := C.kept hb
  replace B := bthen B hb
  replace T := T.kept hb
  clear hb c0 c1 c2 c3 c4 c5 c6 c7 c8 c9 c10 c11 c12 c13 
  obtain ⟨_, c0, c1, c2, c3, c4, c5, c6, c7, c8, c9, c10, c11, c12, c13⟩ := id C
  go_wp2_with fail
  refine (ce _ T).mono ?_
  rintro e w3 ⟨ge, cape, rfl, R, hge, hb⟩
  replace C := C.kept hb
  replace B := bthen B hb
  replace T := T.kept hb
  clear hb c0 c1 c2 c3 c4 c5 c6 c7 c8 c9 c10 c11 c12 c13 
  obtain ⟨_, c0, c1, c2, c3, c4, c5, c6, c7, c8, c9, c10, c11, c12, c13⟩ := id C
  clear hge
  obtain ⟨_, _, _⟩ := id R
  clear ck cs ce
  clear c0 c1 c2 c3 c4 c5 c6 c7 c8 c9 c10 c11 c12 c13 
  go_wp2
  go_loopw [9, 13, 54] (fun F Z I wr => ∃ k m : Nat, k ≤ n ∧ (m : Int) = spM (n : Int) 3 k ∧ I = .int .i64 (k : Int) ∧ F = .int .i64 (uend c y 3 m + 1) ∧ OneS 32 w3 wr Z m (spl c y 3 m)) (fun _ _ I _ => n - (intOf I).toNat)
  case atStart => exact ⟨0, 0, by omega, H0.out, rfl, rfl, OneS.start _ (Below.refl _ _)⟩
  case round =>
    obtain ⟨k, m, kM, hm', rfl, rfl, X⟩ := hrel
    have C2 := C.kept X.below
    have T2 := T.kept X.below
    have R2 := R.kept X.below
    by_cases hlt : k < n
    · have rk := R2.c k hlt
      have vb := HB.out k hlt
      have c1 := HC.out ((k : Int) + 1) (by omega) (by omega)
      have HS := HL.out k m hlt hm'
      obtain ⟨v, hv⟩ : ∃ v, fend c y k = v := ⟨_, rfl⟩
      rw [hv] at rk vb
      have HV := Lib.hid hv
      obtain ⟨q, hq⟩ : ∃ q, quar (n : Int) ((k : Int) + 1) = q := ⟨_, rfl⟩
      rw [hq] at c1
      have kk : (k : Int) < (n : Int) := by omega
      have m60 : m ≤ 60 := by have := HM.out k m (by omega) hm'; omega
      have HMM := Lib.hid hm'
      have HQ := Lib.hid hq
      obtain ⟨F, hF⟩ : ∃ F, uend c y 3 m + 1 = F := ⟨_, rfl⟩
      have Fb : 0 ≤ F ∧ F ≤ 3068037 := by have := HM.out k m (by omega) hm'; omega
      rw [hF]
      have HF := Lib.hid hF
      clear hv hm' hq R2 hF
      obtain ⟨_, d0, d1, d2, d3, d4, d5, d6, d7, d8, d9, d10, d11, d12, d13⟩ := id C2
      go_wp2_with fail
      refine (c1 _ T2).mono ?_
      rintro e w8 ⟨rfl, hb⟩
      replace X := X.kept hb
      replace C2 := C2.kept hb
      replace T2 := T2.kept hb
      clear hb c1 d0 d1 d2 d3 d4 d5 d6 d7 d8 d9 d10 d11 d12 d13
      by_cases hl : k + 1 < n
      · have kl : (k : Int) + 1 < (n : Int) := by omega
        have kl2 : ((k : Int) + 1 == (n : Int)) = false := beq_eq_false_iff_ne.2 (by omega)
        have c2 := HC.out ((k : Int) + 2) (by omega) (by omega)
        obtain ⟨x, hx⟩ : ∃ x, quar (n : Int) ((k : Int) + 2) = x := ⟨_, rfl⟩
        rw [hx] at c2
        have HX : Hid (qnx (n : Int) k = x) := Lib.hid (by unfold qnx; rw [if_neg (by omega)]; exact hx)
        clear hx
        obtain ⟨_, d0, d1, d2, d3, d4, d5, d6, d7, d8, d9, d10, d11, d12, d13⟩ := id C2
        go_wp2_with fail
        refine (c2 _ T2).mono ?_
        rintro e w9 ⟨rfl, hb⟩
        replace X := X.kept hb
        clear hb c2 d0 d1 d2 d3 d4 d5 d6 d7 d8 d9 d10 d11 d12 d13 C2 T2
        have qb := HQB.out ((k : Int) + 1)
        rw [HQ.out] at qb
        rw [HQ.out, HX.out] at HS
        rcases HS with ⟨h1, h2, h3⟩ | ⟨h1, _, h2⟩
        · have HN := Lib.hid h2
          have HU : Hid (uend c y 3 ((m : Int) + 1) = v) := Lib.hid (h3.trans HV.out)
          clear h2 h3
          go_wp2_with (first
            | (at_builtin; refine wpList_append_own_at _ rfl _ _ 49 rfl w3.heap.size 32 i1 (.agg #[.int .i64 0, .int .i64 0]) 2 16 runderS hi hz0 hz1 hz2 rfl (by decide) _ m (scells (spl c y 3 m)) rfl (X.a.alloc _) ⟨_, 0, none⟩ 1 1 [.int .i64 F, .int .i64 v] rfl rfl ?c1 ?c2 ?c3 ?c4 ?c5 ?m1))
          case c1 =>
            intro j u hj
            match j, hj with
            | 0, hj => simp at hj; subst hj; simp [Addr.add, go_sem]
            | 1, hj => simp at hj; subst hj; simp [Addr.add, go_sem]
          case c2 => intro u hu; simp at hu; rcases hu with rfl | rfl <;> rfl
          case c3 => unfold maxLen; omega
          case c4 => omega
          case c5 => have z1 := X.below.size; simp; omega
          case m1 =>
            intro v3 wz hown3 hg3 _ hat
            have X4 := X.next hown3 hg3
            have X5 : OneS 32 w3 wz v3 (m + 1) (spl c y 3 (m + 1)) := by
              show OneS 32 w3 wz v3 (m + 1) (spl c y 3 m ++ [(uend c y 3 m + 1, uend c y 3 ((m : Int) + 1))])
              rw [HF.out, HU.out]
              exact X4
            clear X4
            go_wp2
            go_roundw
            case rel => exact ⟨k + 1, m + 1, by omega, by have := HN.out; omega, by go_num, by rw [show ((m + 1 : Nat) : Int) = (m : Int) + 1 by omega, HU.out], X5⟩
            case measure => simp [intOf]; omega
        · have HN := Lib.hid h2
          clear h2
          go_wp2
          go_roundw
          case rel => exact ⟨k + 1, m, by omega, by rw [HN.out], by go_num, by rw [HF.out], X⟩
          case measure => simp [intOf]; omega
      · have kl : ¬ (k : Int) + 1 < (n : Int) := by omega
        have kl2 : ((k : Int) + 1 == (n : Int)) = true := beq_iff_eq.2 (by omega)
        have HX : Hid (qnx (n : Int) k = 5) := Lib.hid (by unfold qnx; rw [if_pos (by omega)])
        clear C2 T2
        have qb := HQB.out ((k : Int) + 1)
        rw [HQ.out] at qb
        rw [HQ.out, HX.out] at HS
        rcases HS with ⟨h1, h2, h3⟩ | ⟨_, h0, _⟩
        · have HN := Lib.hid h2
          have HU : Hid (uend c y 3 ((m : Int) + 1) = v) := Lib.hid (h3.trans HV.out)
          clear h2 h3
          go_wp2_with (first
            | (at_builtin; refine wpList_append_own_at _ rfl _ _ 49 rfl w3.heap.size 32 i1 (.agg #[.int .i64 0, .int .i64 0]) 2 16 runderS hi hz0 hz1 hz2 rfl (by decide) _ m (scells (spl c y 3 m)) rfl (X.a.alloc _) ⟨_, 0, none⟩ 1 1 [.int .i64 F, .int .i64 v] rfl rfl ?c1 ?c2 ?c3 ?c4 ?c5 ?m1))
          case c1 =>
            intro j u hj
            match j, hj with
            | 0, hj => simp at hj; subst hj; simp [Addr.add, go_sem]
            | 1, hj => simp at hj; subst hj; simp [Addr.add, go_sem]
          case c2 => intro u hu; simp at hu; rcases hu with rfl | rfl <;> rfl
          case c3 => unfold maxLen; omega
          case c4 => omega
          case c5 => have z1 := X.below.size; simp; omega
          case m1 =>
            intro v3 wz hown3 hg3 _ hat
            have X4 := X.next hown3 hg3
            have X5 : OneS 32 w3 wz v3 (m + 1) (spl c y 3 (m + 1)) := by
              show OneS 32 w3 wz v3 (m + 1) (spl c y 3 m ++ [(uend c y 3 m + 1, uend c y 3 ((m : Int) + 1))])
              rw [HF.out, HU.out]
              exact X4
            clear X4
            go_wp2
            go_roundw
            case rel => exact ⟨k + 1, m + 1, by omega, by have := HN.out; omega, by go_num, by rw [show ((m + 1 : Nat) : Int) = (m : Int) + 1 by omega, HU.out], X5⟩
            case measure => simp [intOf]; omega
        · exact absurd h0 (by omega)
    · obtain rfl : k = n := by omega
      have kk : ¬ (k : Int) < (k : Int) := by omega
      have hmN := HE.out m hm'
      obtain rfl : N = m := by omega
      have QQ := X.out (spl_len _ _ _ _) (by omega)
      obtain ⟨g, cap, rfl, QQ, le, hcap⟩ := QQ
      have bb := bthen B X.below
      have Z : SpTo w N (spl c y 3 N) (.returned (.tuple #[.slice (some ⟨g, 0, none⟩) N cap, .int .i64 0])) wr := ⟨g, cap, rfl, QQ, by omega, bb, hcap⟩
      have HZ := Lib.hid Z
      clear Z QQ X bb
      go_wp2
      exact bodyPost_ret (v := .tuple #[.slice (some ⟨g, 0, none⟩) N cap, .int .i64 0]) (by simp [results, Tryz.results23, go_sem]) rfl HZ.out

set_option maxRecDepth 100000 in
theorem rspans_4 (c : CalZ) (y : Int) (n N : Nat) (w : World) (ok : CalOk c) (sv : Served c y) (hn : (n : Int) = per c) (hN : (N : Int) = ucount c y 4) (K : ChkSays c) (hm : c.nm.size ≤ maxLen) (T : FTab w) :
    Calls Tryz.prog 23 #[.agg #[.string c.nm, .int .i64 c.k, .int .i64 c.d, .int .i64 c.m, .int .i64 c.s, .int .i64 c.sh, .int .i64 c.p0, .int .i64 c.p1, .int .i64 c.p2, .int .i64 c.cy, .int .i64 c.ex, .int .i64 c.fi, .int .i64 c.la, .int .i64 c.po], .int .i64 4, .int .i64 y] w (SpTo w N (spl c y 4 N)) := by
  obtain ⟨i1, hi, hz0, hz1, hz2⟩ := info_parts rinfoS
  have C := CalIn.new w c 24
  have B := balloc (Below.refl _ w) (.cells #[.string c.nm, .int .i64 c.k, .int .i64 c.d, .int .i64 c.m, .int .i64 c.s, .int .i64 c.sh, .int .i64 c.p0, .int .i64 c.p1, .int .i64 c.p2, .int .i64 c.cy, .int .i64 c.ex, .int .i64 c.fi, .int .i64 c.la, .int .i64 c.po] 24)
  replace T := T.alloc (.cells #[.string c.nm, .int .i64 c.k, .int .i64 c.d, .int .i64 c.m, .int .i64 c.s, .int .i64 c.sh, .int .i64 c.p0, .int .i64 c.p1, .int .i64 c.p2, .int .i64 c.cy, .int .i64 c.ex, .int .i64 c.fi, .int .i64 c.la, .int .i64 c.po] 24)
  have st := served_told ok sv
  have ck := fun w => K 0 w (.inl ⟨ok, rfl⟩)
  have cs := fun w => rStart_any c y (uend c y 4 (0 : Nat) + 1) 0 w (.inl ⟨ok, by omega, by omega, by rw [show ((0 : Nat) : Int) = 0 from rfl, uend_zero ok.1 (by omega) (by omega) (by unfold LevOk; omega), pend_zero], rfl⟩) K
  have ce := fun w T => rEnds_ok c y n w ok (by omega) (by omega) hn K hm T
  have cb := ucount_bd (L := 4) (y := y) ok.1 (by omega) (by omega)
  rw [← hN] at cb
  have pb := per_bd ok.1
  rw [← hn] at pb
  have f0 : decide (y < c.fi) = false := decide_eq_false (by unfold Served at sv; omega)
  have f1 : decide (c.la < y) = false := decide_eq_false (by unfold Served at sv; omega)
  have HC : Hid (∀ (p : Int), 1 ≤ p → p ≤ (n : Int) → ∀ w (T : FTab w), Calls Tryz.prog 45 #[.agg #[.string c.nm, .int .i64 c.k, .int .i64 c.d, .int .i64 c.m, .int .i64 c.s, .int .i64 c.sh, .int .i64 c.p0, .int .i64 c.p1, .int .i64 c.p2, .int .i64 c.cy, .int .i64 c.ex, .int .i64 c.fi, .int .i64 c.la, .int .i64 c.po], .int .i64 p] w fun e w' => e = .returned (.tuple #[.int .i64 (quar (n : Int) p), .int .i64 0]) ∧ Below w.heap.size w w') :=
    Lib.hid (fun p p0 p1 w T => Go.Proofs.YtjiifmdjhdhabaaGreatDoor.Hl.rQuarter_any c p (quar n p) 0 w (.inl ⟨ok, p0, by omega, by rw [hn], rfl⟩) hm T)
  have HB : Hid (∀ k : Nat, k < n → 0 ≤ fend c y k ∧ fend c y k ≤ 3068036) :=
    Lib.hid (fun k hk => by
      have b := pend_bd ok.1 (y := y) (p := (k : Int) + 1) (by omega) (by omega) (by omega) (by omega)
      exact ⟨b.1, b.2⟩)
  have HQB : Hid (∀ p : Int, 1 ≤ quar (n : Int) p ∧ quar (n : Int) p ≤ 4) := Lib.hid (fun p => by have := quar_cases (n : Int) p; omega)
  have HM : Hid (∀ k m : Nat, k ≤ n → (m : Int) = spM (n : Int) 4 k → (m : Int) ≤ 60 ∧ 0 ≤ uend c y 4 m + 1 ∧ uend c y 4 m + 1 ≤ 3068037) :=
    Lib.hid (fun k m hk e => by
      have b : (m : Int) ≤ ucount c y 4 := by
        rw [e, hn]
        exact (spm_le ok.1 4 (by omega) (by omega) (by omega)).2
      have b2 := uend_bd (L := 4) (i := m) ok.1 (y := y) (by omega) (by omega) (by unfold LevOk; omega) (by omega) b
      omega)
  have HE : Hid (∀ m : Nat, (m : Int) = spM (n : Int) 4 n → (m : Int) = N) := Lib.hid (fun m e => by rw [e, hN, hn]; exact spm_last ok.1 4 (by omega) (by omega) hn)
  have H0 : Hid (((0 : Nat) : Int) = spM (n : Int) 4 0) := Lib.hid (by rw [hn, spm_zero ok.1]; rfl)
  have HL : Hid (∀ k m : Nat, k < n → (m : Int) = spM (n : Int) 4 k → spM n 4 (k + 1) = m + 1 ∧ uend c y 4 ((m : Int) + 1) = fend c y k) :=
    Lib.hid (fun k m hk hm' => by
      have h := sp_4 (y := y) (c := c) (k := k) (by omega)
      rw [← hn, ← hm'] at h
      exact h)
  have n52 : (n : Int) ≤ 52 := by omega
  have n12 : (12 : Int) ≤ (n : Int) := by omega
  have N1 : 1 ≤ N ∧ N ≤ 60 := by omega
  clear ok sv hn hN K st cb pb
  go_enter Tryz.func23, Tryz.ntmps23
  go_upto_region 1 with fail
  generalize w.alloc (.cells #[.string c.nm, .int .i64 c.k, .int .i64 c.d, .int .i64 c.m, .int .i64 c.s, .int .i64 c.sh, .int .i64 c.p0, .int .i64 c.p1, .int .i64 c.p2, .int .i64 c.cy, .int .i64 c.ex, .int .i64 c.fi, .int .i64 c.la, .int .i64 c.po] 24) = W0 at *
  obtain ⟨_, c0, c1, c2, c3, c4, c5, c6, c7, c8, c9, c10, c11, c12, c13⟩ := id C
  go_wp2_with fail
  refine (ck _).mono ?_
  rintro e w1 ⟨rfl, hb⟩
  replace C := C.kept hb
  replace B := bthen B hb
  replace T := T.kept hb
  clear hb c0 c1 c2 c3 c4 c5 c6 c7 c8 c9 c10 c11 c12 c13 
  obtain ⟨_, c0, c1, c2, c3, c4, c5, c6, c7, c8, c9, c10, c11, c12, c13⟩ := id C
  go_wp2_with fail
  refine (cs _).mono ?_
  rintro e w2 ⟨rfl, hb⟩
  replace C := C.kept hb
  replace B := bthen B hb
  replace T := T.kept hb
  clear hb c0 c1 c2 c3 c4 c5 c6 c7 c8 c9 c10 c11 c12 c13 
  obtain ⟨_, c0, c1, c2, c3, c4, c5, c6, c7, c8, c9, c10, c11, c12, c13⟩ := id C
  go_wp2_with fail
  refine (ce _ T).mono ?_
  rintro e w3 ⟨ge, cape, rfl, R, hge, hb⟩
  replace C := C.kept hb
  replace B := bthen B hb
  replace T := T.kept hb
  clear hb c0 c1 c2 c3 c4 c5 c6 c7 c8 c9 c10 c11 c12 c13 
  obtain ⟨_, c0, c1, c2, c3, c4, c5, c6, c7, c8, c9, c10, c11, c12, c13⟩ := id C
  clear hge
  obtain ⟨_, _, _⟩ := id R
  clear ck cs ce
  clear c0 c1 c2 c3 c4 c5 c6 c7 c8 c9 c10 c11 c12 c13 
  go_wp2
  go_loopw [9, 13, 54] (fun F Z I wr => ∃ k m : Nat, k ≤ n ∧ (m : Int) = spM (n : Int) 4 k ∧ I = .int .i64 (k : Int) ∧ F = .int .i64 (uend c y 4 m + 1) ∧ OneS 32 w3 wr Z m (spl c y 4 m)) (fun _ _ I _ => n - (intOf I).toNat)
  case atStart => exact ⟨0, 0, by omega, H0.out, rfl, rfl, OneS.start _ (Below.refl _ _)⟩
  case round =>
    obtain ⟨k, m, kM, hm', rfl, rfl, X⟩ := hrel
    have C2 := C.kept X.below
    have T2 := T.kept X.below
    have R2 := R.kept X.below
    by_cases hlt : k < n
    · have rk := R2.c k hlt
      have vb := HB.out k hlt
      have c1 := HC.out ((k : Int) + 1) (by omega) (by omega)
      have HS := HL.out k m hlt hm'
      obtain ⟨v, hv⟩ : ∃ v, fend c y k = v := ⟨_, rfl⟩
      rw [hv] at rk vb
      have HV := Lib.hid hv
      obtain ⟨q, hq⟩ : ∃ q, quar (n : Int) ((k : Int) + 1) = q := ⟨_, rfl⟩
      rw [hq] at c1
      have kk : (k : Int) < (n : Int) := by omega
      have m60 : m ≤ 60 := by have := HM.out k m (by omega) hm'; omega
      have HMM := Lib.hid hm'
      have HQ := Lib.hid hq
      obtain ⟨F, hF⟩ : ∃ F, uend c y 4 m + 1 = F := ⟨_, rfl⟩
      have Fb : 0 ≤ F ∧ F ≤ 3068037 := by have := HM.out k m (by omega) hm'; omega
      rw [hF]
      have HF := Lib.hid hF
      clear hv hm' hq R2 hF
      obtain ⟨_, d0, d1, d2, d3, d4, d5, d6, d7, d8, d9, d10, d11, d12, d13⟩ := id C2
      go_wp2_with fail
      refine (c1 _ T2).mono ?_
      rintro e w8 ⟨rfl, hb⟩
      replace X := X.kept hb
      replace C2 := C2.kept hb
      replace T2 := T2.kept hb
      clear hb c1 d0 d1 d2 d3 d4 d5 d6 d7 d8 d9 d10 d11 d12 d13
      by_cases hl : k + 1 < n
      · have kl : (k : Int) + 1 < (n : Int) := by omega
        have kl2 : ((k : Int) + 1 == (n : Int)) = false := beq_eq_false_iff_ne.2 (by omega)
        have c2 := HC.out ((k : Int) + 2) (by omega) (by omega)
        obtain ⟨x, hx⟩ : ∃ x, quar (n : Int) ((k : Int) + 2) = x := ⟨_, rfl⟩
        rw [hx] at c2
        have HX : Hid (qnx (n : Int) k = x) := Lib.hid (by unfold qnx; rw [if_neg (by omega)]; exact hx)
        clear hx
        obtain ⟨_, d0, d1, d2, d3, d4, d5, d6, d7, d8, d9, d10, d11, d12, d13⟩ := id C2
        go_wp2_with fail
        refine (c2 _ T2).mono ?_
        rintro e w9 ⟨rfl, hb⟩
        replace X := X.kept hb
        clear hb c2 d0 d1 d2 d3 d4 d5 d6 d7 d8 d9 d10 d11 d12 d13 C2 T2
        have qb := HQB.out ((k : Int) + 1)
        rw [HQ.out] at qb
        obtain ⟨h2, h3⟩ := HS
        have HN := Lib.hid h2
        have HU : Hid (uend c y 4 ((m : Int) + 1) = v) := Lib.hid (h3.trans HV.out)
        clear h2 h3
        go_wp2_with (first
          | (at_builtin; refine wpList_append_own_at _ rfl _ _ 49 rfl w3.heap.size 32 i1 (.agg #[.int .i64 0, .int .i64 0]) 2 16 runderS hi hz0 hz1 hz2 rfl (by decide) _ m (scells (spl c y 4 m)) rfl (X.a.alloc _) ⟨_, 0, none⟩ 1 1 [.int .i64 F, .int .i64 v] rfl rfl ?c1 ?c2 ?c3 ?c4 ?c5 ?m1))
        case c1 =>
          intro j u hj
          match j, hj with
          | 0, hj => simp at hj; subst hj; simp [Addr.add, go_sem]
          | 1, hj => simp at hj; subst hj; simp [Addr.add, go_sem]
        case c2 => intro u hu; simp at hu; rcases hu with rfl | rfl <;> rfl
        case c3 => unfold maxLen; omega
        case c4 => omega
        case c5 => have z1 := X.below.size; simp; omega
        case m1 =>
          intro v3 wz hown3 hg3 _ hat
          have X4 := X.next hown3 hg3
          have X5 : OneS 32 w3 wz v3 (m + 1) (spl c y 4 (m + 1)) := by
            show OneS 32 w3 wz v3 (m + 1) (spl c y 4 m ++ [(uend c y 4 m + 1, uend c y 4 ((m : Int) + 1))])
            rw [HF.out, HU.out]
            exact X4
          clear X4
          go_wp2
          go_roundw
          case rel => exact ⟨k + 1, m + 1, by omega, by have := HN.out; omega, by go_num, by rw [show ((m + 1 : Nat) : Int) = (m : Int) + 1 by omega, HU.out], X5⟩
          case measure => simp [intOf]; omega
      · have kl : ¬ (k : Int) + 1 < (n : Int) := by omega
        have kl2 : ((k : Int) + 1 == (n : Int)) = true := beq_iff_eq.2 (by omega)
        have HX : Hid (qnx (n : Int) k = 5) := Lib.hid (by unfold qnx; rw [if_pos (by omega)])
        clear C2 T2
        have qb := HQB.out ((k : Int) + 1)
        rw [HQ.out] at qb
        obtain ⟨h2, h3⟩ := HS
        have HN := Lib.hid h2
        have HU : Hid (uend c y 4 ((m : Int) + 1) = v) := Lib.hid (h3.trans HV.out)
        clear h2 h3
        go_wp2_with (first
          | (at_builtin; refine wpList_append_own_at _ rfl _ _ 49 rfl w3.heap.size 32 i1 (.agg #[.int .i64 0, .int .i64 0]) 2 16 runderS hi hz0 hz1 hz2 rfl (by decide) _ m (scells (spl c y 4 m)) rfl (X.a.alloc _) ⟨_, 0, none⟩ 1 1 [.int .i64 F, .int .i64 v] rfl rfl ?c1 ?c2 ?c3 ?c4 ?c5 ?m1))
        case c1 =>
          intro j u hj
          match j, hj with
          | 0, hj => simp at hj; subst hj; simp [Addr.add, go_sem]
          | 1, hj => simp at hj; subst hj; simp [Addr.add, go_sem]
        case c2 => intro u hu; simp at hu; rcases hu with rfl | rfl <;> rfl
        case c3 => unfold maxLen; omega
        case c4 => omega
        case c5 => have z1 := X.below.size; simp; omega
        case m1 =>
          intro v3 wz hown3 hg3 _ hat
          have X4 := X.next hown3 hg3
          have X5 : OneS 32 w3 wz v3 (m + 1) (spl c y 4 (m + 1)) := by
            show OneS 32 w3 wz v3 (m + 1) (spl c y 4 m ++ [(uend c y 4 m + 1, uend c y 4 ((m : Int) + 1))])
            rw [HF.out, HU.out]
            exact X4
          clear X4
          go_wp2
          go_roundw
          case rel => exact ⟨k + 1, m + 1, by omega, by have := HN.out; omega, by go_num, by rw [show ((m + 1 : Nat) : Int) = (m : Int) + 1 by omega, HU.out], X5⟩
          case measure => simp [intOf]; omega
    · obtain rfl : k = n := by omega
      have kk : ¬ (k : Int) < (k : Int) := by omega
      have hmN := HE.out m hm'
      obtain rfl : N = m := by omega
      have QQ := X.out (spl_len _ _ _ _) (by omega)
      obtain ⟨g, cap, rfl, QQ, le, hcap⟩ := QQ
      have bb := bthen B X.below
      have Z : SpTo w N (spl c y 4 N) (.returned (.tuple #[.slice (some ⟨g, 0, none⟩) N cap, .int .i64 0])) wr := ⟨g, cap, rfl, QQ, by omega, bb, hcap⟩
      have HZ := Lib.hid Z
      clear Z QQ X bb
      go_wp2
      exact bodyPost_ret (v := .tuple #[.slice (some ⟨g, 0, none⟩) N cap, .int .i64 0]) (by simp [results, Tryz.results23, go_sem]) rfl HZ.out

set_option maxRecDepth 100000 in
theorem rspans_5 (c : CalZ) (y : Int) (n N : Nat) (w : World) (ok : CalOk c) (sv : Served c y) (hn : (n : Int) = per c) (hN : (N : Int) = ucount c y 5) (K : ChkSays c) (hm : c.nm.size ≤ maxLen) (T : FTab w) :
    Calls Tryz.prog 23 #[.agg #[.string c.nm, .int .i64 c.k, .int .i64 c.d, .int .i64 c.m, .int .i64 c.s, .int .i64 c.sh, .int .i64 c.p0, .int .i64 c.p1, .int .i64 c.p2, .int .i64 c.cy, .int .i64 c.ex, .int .i64 c.fi, .int .i64 c.la, .int .i64 c.po], .int .i64 5, .int .i64 y] w (SpTo w N (spl c y 5 N)) := by
  obtain ⟨i1, hi, hz0, hz1, hz2⟩ := info_parts rinfoS
  have C := CalIn.new w c 24
  have B := balloc (Below.refl _ w) (.cells #[.string c.nm, .int .i64 c.k, .int .i64 c.d, .int .i64 c.m, .int .i64 c.s, .int .i64 c.sh, .int .i64 c.p0, .int .i64 c.p1, .int .i64 c.p2, .int .i64 c.cy, .int .i64 c.ex, .int .i64 c.fi, .int .i64 c.la, .int .i64 c.po] 24)
  replace T := T.alloc (.cells #[.string c.nm, .int .i64 c.k, .int .i64 c.d, .int .i64 c.m, .int .i64 c.s, .int .i64 c.sh, .int .i64 c.p0, .int .i64 c.p1, .int .i64 c.p2, .int .i64 c.cy, .int .i64 c.ex, .int .i64 c.fi, .int .i64 c.la, .int .i64 c.po] 24)
  have st := served_told ok sv
  have ck := fun w => K 0 w (.inl ⟨ok, rfl⟩)
  have cs := fun w => rStart_any c y (pend c y (0 : Nat) + 1) 0 w (.inl ⟨ok, by omega, by omega, by rw [show ((0 : Nat) : Int) = 0 from rfl, pend_zero], rfl⟩) K
  have ce := fun w T => rEnds_ok c y n w ok (by omega) (by omega) hn K hm T
  have cb := ucount_bd (L := 5) (y := y) ok.1 (by omega) (by omega)
  rw [← hN] at cb
  have pb := per_bd ok.1
  rw [← hn] at pb
  have f0 : decide (y < c.fi) = false := decide_eq_false (by unfold Served at sv; omega)
  have f1 : decide (c.la < y) = false := decide_eq_false (by unfold Served at sv; omega)
  have HC : Hid (∀ (p : Int), 1 ≤ p → p ≤ (n : Int) → ∀ w (T : FTab w), Calls Tryz.prog 45 #[.agg #[.string c.nm, .int .i64 c.k, .int .i64 c.d, .int .i64 c.m, .int .i64 c.s, .int .i64 c.sh, .int .i64 c.p0, .int .i64 c.p1, .int .i64 c.p2, .int .i64 c.cy, .int .i64 c.ex, .int .i64 c.fi, .int .i64 c.la, .int .i64 c.po], .int .i64 p] w fun e w' => e = .returned (.tuple #[.int .i64 (quar (n : Int) p), .int .i64 0]) ∧ Below w.heap.size w w') :=
    Lib.hid (fun p p0 p1 w T => Go.Proofs.YtjiifmdjhdhabaaGreatDoor.Hl.rQuarter_any c p (quar n p) 0 w (.inl ⟨ok, p0, by omega, by rw [hn], rfl⟩) hm T)
  have HB : Hid (∀ k : Nat, k < n → 0 ≤ fend c y k ∧ fend c y k ≤ 3068036) :=
    Lib.hid (fun k hk => by
      have b := pend_bd ok.1 (y := y) (p := (k : Int) + 1) (by omega) (by omega) (by omega) (by omega)
      exact ⟨b.1, b.2⟩)
  have HQB : Hid (∀ p : Int, 1 ≤ quar (n : Int) p ∧ quar (n : Int) p ≤ 4) := Lib.hid (fun p => by have := quar_cases (n : Int) p; omega)
  have pe := perN_is ok.1
  have eN : (N : Int) = wsum c y n := by rw [hN, show n = perN c by omega]; rfl
  have HM : Hid (∀ k m : Nat, k ≤ n → (m : Int) = wsum c y k → (m : Int) ≤ 60 ∧ 0 ≤ pend c y k + 1 ∧ pend c y k + 1 ≤ 3068037) :=
    Lib.hid (fun k m hk e => by
      have s := wsum_step ok.1 (y := y) (by omega) (by omega) hk (by omega)
      have b := pend_bd ok.1 (y := y) (p := (k : Int)) (by omega) (by omega) (by omega) (by omega)
      omega)
  have HE : Hid (∀ m : Nat, (m : Int) = wsum c y n → (m : Int) = N) := Lib.hid (fun m e => by omega)
  have H0 : Hid (((0 : Nat) : Int) = wsum c y 0) := Lib.hid rfl
  have HL : Hid (∀ k m : Nat, k < n → (m : Int) = wsum c y k → ∃ wk : Int, 1 ≤ wk ∧ wk ≤ 6 ∧ (m : Int) + wk ≤ 60 ∧ ∀ j : Nat, (j : Int) ≤ wk → (((j : Int) < wk ∧ pend c y k + 7 * (j : Int) + 1 ≤ fend c y k ∧ uend c y 5 ((m : Int) + j) = pend c y k + 7 * (j : Int) ∧ uend c y 5 ((m : Int) + j + 1) = min (pend c y k + 7 * (j : Int) + 1 + 6) (fend c y k)) ∨ ((j : Int) = wk ∧ ¬ pend c y k + 7 * (j : Int) + 1 ≤ fend c y k ∧ wsum c y (k + 1) = (m : Int) + j))) :=
    Lib.hid (fun k m hk hm' => by
      have wb := wks_bd ok.1 (y := y) (p := (k : Int) + 1) (by omega) (by omega) (by omega) (by omega)
      have s := wsum_step ok.1 (y := y) (by omega) (by omega) (a := k + 1) (b := n) (by omega) (by omega)
      have ws : wsum c y (k + 1) = wsum c y k + wks c y ((k : Int) + 1) := rfl
      refine ⟨_, wb.1, wb.2.1, by omega, fun j hj => ?_⟩
      rw [hm']
      rcases sp_5 ok.1 (y := y) (by omega) (by omega) (k := k) (by omega) (j : Int) (by omega) hj with ⟨h1, h2, h3, h4⟩ | ⟨h1, h2, h3, _⟩
      · exact .inl ⟨h1, h2, h3, h4⟩
      · exact .inr ⟨h1, h2, h3⟩)
  clear pe eN
  have n52 : (n : Int) ≤ 52 := by omega
  have n12 : (12 : Int) ≤ (n : Int) := by omega
  have N1 : 1 ≤ N ∧ N ≤ 60 := by omega
  clear ok sv hn hN K st cb pb
  go_enter Tryz.func23, Tryz.ntmps23
  go_upto_region 1 with fail
  generalize w.alloc (.cells #[.string c.nm, .int .i64 c.k, .int .i64 c.d, .int .i64 c.m, .int .i64 c.s, .int .i64 c.sh, .int .i64 c.p0, .int .i64 c.p1, .int .i64 c.p2, .int .i64 c.cy, .int .i64 c.ex, .int .i64 c.fi, .int .i64 c.la, .int .i64 c.po] 24) = W0 at *
  obtain ⟨_, c0, c1, c2, c3, c4, c5, c6, c7, c8, c9, c10, c11, c12, c13⟩ := id C
  go_wp2_with fail
  refine (ck _).mono ?_
  rintro e w1 ⟨rfl, hb⟩
  replace C := C.kept hb
  replace B := bthen B hb
  replace T := T.kept hb
  clear hb c0 c1 c2 c3 c4 c5 c6 c7 c8 c9 c10 c11 c12 c13 
  obtain ⟨_, c0, c1, c2, c3, c4, c5, c6, c7, c8, c9, c10, c11, c12, c13⟩ := id C
  go_wp2_with fail
  refine (cs _).mono ?_
  rintro e w2 ⟨rfl, hb⟩
  replace C := C.kept hb
  replace B := bthen B hb
  replace T := T.kept hb
  clear hb c0 c1 c2 c3 c4 c5 c6 c7 c8 c9 c10 c11 c12 c13 
  obtain ⟨_, c0, c1, c2, c3, c4, c5, c6, c7, c8, c9, c10, c11, c12, c13⟩ := id C
  go_wp2_with fail
  refine (ce _ T).mono ?_
  rintro e w3 ⟨ge, cape, rfl, R, hge, hb⟩
  replace C := C.kept hb
  replace B := bthen B hb
  replace T := T.kept hb
  clear hb c0 c1 c2 c3 c4 c5 c6 c7 c8 c9 c10 c11 c12 c13 
  obtain ⟨_, c0, c1, c2, c3, c4, c5, c6, c7, c8, c9, c10, c11, c12, c13⟩ := id C
  clear hge
  obtain ⟨_, _, _⟩ := id R
  clear ck cs ce
  clear c0 c1 c2 c3 c4 c5 c6 c7 c8 c9 c10 c11 c12 c13 
  go_wp2
  go_loopw [9, 13, 54] (fun F Z I wr => ∃ k m : Nat, k ≤ n ∧ (m : Int) = wsum c y k ∧ I = .int .i64 (k : Int) ∧ F = .int .i64 (pend c y k + 1) ∧ OneS 32 w3 wr Z m (spl c y 5 m)) (fun _ _ I _ => n - (intOf I).toNat)
  case atStart => exact ⟨0, 0, by omega, H0.out, rfl, rfl, OneS.start _ (Below.refl _ _)⟩
  case round =>
    obtain ⟨k, m, kM, hm', rfl, rfl, X⟩ := hrel
    have C2 := C.kept X.below
    have T2 := T.kept X.below
    have R2 := R.kept X.below
    by_cases hlt : k < n
    · have rk := R2.c k hlt
      have vb := HB.out k hlt
      have c1 := HC.out ((k : Int) + 1) (by omega) (by omega)
      have HS := HL.out k m hlt hm'
      obtain ⟨v, hv⟩ : ∃ v, fend c y k = v := ⟨_, rfl⟩
      rw [hv] at rk vb HS
      have HV := Lib.hid hv
      obtain ⟨q, hq⟩ : ∃ q, quar (n : Int) ((k : Int) + 1) = q := ⟨_, rfl⟩
      rw [hq] at c1
      have kk : (k : Int) < (n : Int) := by omega
      have m60 : m ≤ 60 := by have := HM.out k m (by omega) hm'; omega
      have HMM := Lib.hid hm'
      have HQ := Lib.hid hq
      obtain ⟨P, hP⟩ : ∃ P, pend c y k = P := ⟨_, rfl⟩
      rw [hP] at HS
      rw [hP]
      obtain ⟨F, hF⟩ : ∃ F, P + 1 = F := ⟨_, rfl⟩
      have Fb : 0 ≤ F ∧ F ≤ 3068037 := by have := HM.out k m (by omega) hm'; omega
      have HP := Lib.hid hP
      rw [hF]
      have HF := Lib.hid hF
      clear hv hm' hq R2 hF hP
      obtain ⟨_, d0, d1, d2, d3, d4, d5, d6, d7, d8, d9, d10, d11, d12, d13⟩ := id C2
      go_wp2_with fail
      refine (c1 _ T2).mono ?_
      rintro e w8 ⟨rfl, hb⟩
      replace X := X.kept hb
      replace C2 := C2.kept hb
      replace T2 := T2.kept hb
      clear hb c1 d0 d1 d2 d3 d4 d5 d6 d7 d8 d9 d10 d11 d12 d13
      by_cases hl : k + 1 < n
      · have kl : (k : Int) + 1 < (n : Int) := by omega
        have kl2 : ((k : Int) + 1 == (n : Int)) = false := beq_eq_false_iff_ne.2 (by omega)
        have c2 := HC.out ((k : Int) + 2) (by omega) (by omega)
        obtain ⟨x, hx⟩ : ∃ x, quar (n : Int) ((k : Int) + 2) = x := ⟨_, rfl⟩
        rw [hx] at c2
        have HX : Hid (qnx (n : Int) k = x) := Lib.hid (by unfold qnx; rw [if_neg (by omega)]; exact hx)
        clear hx
        obtain ⟨_, d0, d1, d2, d3, d4, d5, d6, d7, d8, d9, d10, d11, d12, d13⟩ := id C2
        go_wp2_with fail
        refine (c2 _ T2).mono ?_
        rintro e w9 ⟨rfl, hb⟩
        replace X := X.kept hb
        clear hb c2 d0 d1 d2 d3 d4 d5 d6 d7 d8 d9 d10 d11 d12 d13 C2 T2
        obtain ⟨wk, wk0, wk1, mw, HS⟩ := HS
        replace HS := Lib.hid HS
        go_wp2
        go_loopw [9, 13] (fun F Z wr' => ∃ j : Nat, (j : Int) ≤ wk ∧ F = .int .i64 (P + 7 * (j : Int) + 1) ∧ OneS 32 w3 wr' Z (m + j) (spl c y 5 (m + j))) (fun F _ _ => (v + 7 - intOf F).toNat)
        case atStart => exact ⟨0, by omega, by have := HF.out; congr 1; omega, X⟩
        case round =>
          clear X
          obtain ⟨j, jM, rfl, X⟩ := hrel
          obtain ⟨F2, hF2⟩ : ∃ F2, P + 7 * (j : Int) + 1 = F2 := ⟨_, rfl⟩
          have HS2 := HS.out j jM
          rw [hF2] at HS2
          rw [hF2]
          rcases HS2 with ⟨a1, a2, a3, a4⟩ | ⟨b1, b2, b3⟩
          · have F2b : 0 ≤ F2 ∧ F2 ≤ 3068037 := by have := HF.out; omega
            obtain ⟨tt, ht⟩ : ∃ tt, min (F2 + 6) v = tt := ⟨_, rfl⟩
            have tb : 0 ≤ tt ∧ tt ≤ 3068043 := by omega
            rw [ht] at a4
            replace a3 : uend c y 5 ((m : Int) + j) + 1 = P + 7 * (j : Int) + 1 := by omega
            have HA := Lib.hid (And.intro a3 (And.intro a4 hF2))
            clear a3 a4 hF2
            go_wp2_with (first
              | (at_builtin; refine wpList_append_own_at _ rfl _ _ 49 rfl w3.heap.size 32 i1 (.agg #[.int .i64 0, .int .i64 0]) 2 16 runderS hi hz0 hz1 hz2 rfl (by decide) _ (m + j) (scells (spl c y 5 (m + j))) rfl (X.a.alloc _) ⟨_, 0, none⟩ 1 1 [.int .i64 F2, .int .i64 (tt)] rfl rfl ?c1 ?c2 ?c3 ?c4 ?c5 ?m1))
            case c1 =>
              intro j u hj
              match j, hj with
              | 0, hj => simp at hj; subst hj; simp [Addr.add, go_sem]
              | 1, hj => simp at hj; subst hj; simp [Addr.add, go_sem]
            case c2 => intro u hu; simp at hu; rcases hu with rfl | rfl <;> rfl
            case c3 => unfold maxLen; omega
            case c4 => omega
            case c5 => have z1 := X.below.size; simp; omega
            case m1 =>
              intro v3 wz hown3 hg3 _ hat
              have X4 := X.next hown3 hg3
              have X5 : OneS 32 w3 wz v3 (m + (j + 1)) (spl c y 5 (m + (j + 1))) := by
                show OneS 32 w3 wz v3 (m + (j + 1)) (spl c y 5 (m + j) ++ [(uend c y 5 ((m + j : Nat) : Int) + 1, uend c y 5 (((m + j : Nat) : Int) + 1))])
                rw [show ((m + j : Nat) : Int) = (m : Int) + j by omega, HA.out.1, HA.out.2.1, HA.out.2.2]
                exact X4
              clear X4
              go_wp2
              go_roundw
              case rel => exact ⟨j + 1, by omega, by have := HA.out.2.2; congr 1; omega, X5⟩
              case measure => simp [intOf]; omega
          · have HN := Lib.hid b3
            clear b3 hF2
            go_wp2
            go_roundw
            case rel => exact ⟨k + 1, m + j, by omega, by have := HN.out; omega, by go_num, by rw [← HV.out]; rfl, X⟩
            case measure => simp [intOf]; omega
      · have kl : ¬ (k : Int) + 1 < (n : Int) := by omega
        have kl2 : ((k : Int) + 1 == (n : Int)) = true := beq_iff_eq.2 (by omega)
        have HX : Hid (qnx (n : Int) k = 5) := Lib.hid (by unfold qnx; rw [if_pos (by omega)])
        clear C2 T2
        obtain ⟨wk, wk0, wk1, mw, HS⟩ := HS
        replace HS := Lib.hid HS
        go_wp2
        go_loopw [9, 13] (fun F Z wr' => ∃ j : Nat, (j : Int) ≤ wk ∧ F = .int .i64 (P + 7 * (j : Int) + 1) ∧ OneS 32 w3 wr' Z (m + j) (spl c y 5 (m + j))) (fun F _ _ => (v + 7 - intOf F).toNat)
        case atStart => exact ⟨0, by omega, by have := HF.out; congr 1; omega, X⟩
        case round =>
          clear X
          obtain ⟨j, jM, rfl, X⟩ := hrel
          obtain ⟨F2, hF2⟩ : ∃ F2, P + 7 * (j : Int) + 1 = F2 := ⟨_, rfl⟩
          have HS2 := HS.out j jM
          rw [hF2] at HS2
          rw [hF2]
          rcases HS2 with ⟨a1, a2, a3, a4⟩ | ⟨b1, b2, b3⟩
          · have F2b : 0 ≤ F2 ∧ F2 ≤ 3068037 := by have := HF.out; omega
            obtain ⟨tt, ht⟩ : ∃ tt, min (F2 + 6) v = tt := ⟨_, rfl⟩
            have tb : 0 ≤ tt ∧ tt ≤ 3068043 := by omega
            rw [ht] at a4
            replace a3 : uend c y 5 ((m : Int) + j) + 1 = P + 7 * (j : Int) + 1 := by omega
            have HA := Lib.hid (And.intro a3 (And.intro a4 hF2))
            clear a3 a4 hF2
            go_wp2_with (first
              | (at_builtin; refine wpList_append_own_at _ rfl _ _ 49 rfl w3.heap.size 32 i1 (.agg #[.int .i64 0, .int .i64 0]) 2 16 runderS hi hz0 hz1 hz2 rfl (by decide) _ (m + j) (scells (spl c y 5 (m + j))) rfl (X.a.alloc _) ⟨_, 0, none⟩ 1 1 [.int .i64 F2, .int .i64 (tt)] rfl rfl ?c1 ?c2 ?c3 ?c4 ?c5 ?m1))
            case c1 =>
              intro j u hj
              match j, hj with
              | 0, hj => simp at hj; subst hj; simp [Addr.add, go_sem]
              | 1, hj => simp at hj; subst hj; simp [Addr.add, go_sem]
            case c2 => intro u hu; simp at hu; rcases hu with rfl | rfl <;> rfl
            case c3 => unfold maxLen; omega
            case c4 => omega
            case c5 => have z1 := X.below.size; simp; omega
            case m1 =>
              intro v3 wz hown3 hg3 _ hat
              have X4 := X.next hown3 hg3
              have X5 : OneS 32 w3 wz v3 (m + (j + 1)) (spl c y 5 (m + (j + 1))) := by
                show OneS 32 w3 wz v3 (m + (j + 1)) (spl c y 5 (m + j) ++ [(uend c y 5 ((m + j : Nat) : Int) + 1, uend c y 5 (((m + j : Nat) : Int) + 1))])
                rw [show ((m + j : Nat) : Int) = (m : Int) + j by omega, HA.out.1, HA.out.2.1, HA.out.2.2]
                exact X4
              clear X4
              go_wp2
              go_roundw
              case rel => exact ⟨j + 1, by omega, by have := HA.out.2.2; congr 1; omega, X5⟩
              case measure => simp [intOf]; omega
          · have HN := Lib.hid b3
            clear b3 hF2
            go_wp2
            go_roundw
            case rel => exact ⟨k + 1, m + j, by omega, by have := HN.out; omega, by go_num, by rw [← HV.out]; rfl, X⟩
            case measure => simp [intOf]; omega
    · obtain rfl : k = n := by omega
      have kk : ¬ (k : Int) < (k : Int) := by omega
      have hmN := HE.out m hm'
      obtain rfl : N = m := by omega
      have QQ := X.out (spl_len _ _ _ _) (by omega)
      obtain ⟨g, cap, rfl, QQ, le, hcap⟩ := QQ
      have bb := bthen B X.below
      have Z : SpTo w N (spl c y 5 N) (.returned (.tuple #[.slice (some ⟨g, 0, none⟩) N cap, .int .i64 0])) wr := ⟨g, cap, rfl, QQ, by omega, bb, hcap⟩
      have HZ := Lib.hid Z
      clear Z QQ X bb
      go_wp2
      exact bodyPost_ret (v := .tuple #[.slice (some ⟨g, 0, none⟩) N cap, .int .i64 0]) (by simp [results, Tryz.results23, go_sem]) rfl HZ.out

theorem rspans_ok (L : Int) (c : CalZ) (y : Int) (n N : Nat) (w : World) (hL : LevOk L) (ok : CalOk c) (sv : Served c y) (hn : (n : Int) = per c) (hN : (N : Int) = ucount c y L) (K : ChkSays c) (hm : c.nm.size ≤ maxLen) (T : FTab w) :
    Calls Tryz.prog 23 #[.agg #[.string c.nm, .int .i64 c.k, .int .i64 c.d, .int .i64 c.m, .int .i64 c.s, .int .i64 c.sh, .int .i64 c.p0, .int .i64 c.p1, .int .i64 c.p2, .int .i64 c.cy, .int .i64 c.ex, .int .i64 c.fi, .int .i64 c.la, .int .i64 c.po], .int .i64 L, .int .i64 y] w (SpTo w N (spl c y L N)) := by
  have l : L = 1 ∨ L = 2 ∨ L = 3 ∨ L = 4 ∨ L = 5 := by unfold LevOk at hL; omega
  rcases l with rfl | rfl | rfl | rfl | rfl
  · exact rspans_1 c y n N w ok sv hn hN K hm T
  · exact rspans_2 c y n N w ok sv hn hN K hm T
  · exact rspans_3 c y n N w ok sv hn hN K hm T
  · exact rspans_4 c y n N w ok sv hn hN K hm T
  · exact rspans_5 c y n N w ok sv hn hN K hm T

end Go.Proofs.YtjiifmdjhdhabaaGreatDoor.Ir
