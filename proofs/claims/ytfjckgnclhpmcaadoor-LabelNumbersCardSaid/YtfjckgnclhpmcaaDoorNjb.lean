/- Joined: Nrmath, Nrefa, Nnum. -/
import Derived.Test.YtfjckgnclhpmcaaDoorNjc
import Derived.Test.YtfjckgnclhpmcaaDoorNja
import Derived.Deep.DeepCutAuto
/- How the reference of layer 18 adds a text's digits up: plain facts. -/
namespace Go.Proofs.YtfjckgnclhpmcaaDoor.Nm
set_option linter.unusedSimpArgs false
set_option linter.unusedVariables false
open Go.Proofs.YtfjckgnclhpmcaaDoor.Vm (num Bd Fit1 Res1)

def sgv (b : Bool) (x : Int) : Int := if b then -x else x
theorem sgv_cases (b : Bool) (x : Int) : (b = true ∧ sgv b x = -x) ∨ (b = false ∧ sgv b x = x) := by cases b <;> simp [sgv]
/-- the text is the digits of a number (b: a '-' stood ahead) -/
def RdOk (d : ByteArray) (b : Bool) : Prop := 0 < d.size ∧ AllDig d ∧ ¬ (byt d 0 = 48 ∧ (1 < d.size ∨ b = true))
def RA (d : ByteArray) (b : Bool) (v er : Int) : Prop :=
  (RdOk d b ∧ Fit1 (sgv b (val d d.size)) ∧ v = sgv b (val d d.size) ∧ er = 0) ∨ (RdOk d b ∧ ¬ Fit1 (sgv b (val d d.size)) ∧ v = 0 ∧ er = 2) ∨ (¬ RdOk d b ∧ v = 0 ∧ er = 5)
def sgr (s : ByteArray) : Bool := decide (1 < s.size) && (byt s 0 == 45)
def drr (s : ByteArray) : ByteArray := if sgr s then s.extract 1 s.size else s

theorem one_zero {s : ByteArray} (h : s.size = 1) (e : byt s 0 = 48) : s = zeroT := by
  rw [byt_at (by omega)] at e
  obtain ⟨⟨l⟩⟩ := s
  match l, h, e with
  | [a], _, e =>
    have ha : a = 48 := UInt8.toNat_inj.1 (by show a.toNat = 48; have : ((a.toNat : Nat) : Int) = 48 := e; omega)
    subst ha
    rfl

theorem ra_of {s : ByteArray} {v er : Int} (R : AmountA s v er) : RA (drr s) (sgr s) v er := by
  have key : (DecOk s ↔ RdOk (drr s) (sgr s)) ∧ (DecOk s → dval s = sgv (sgr s) (val (drr s) (drr s).size)) := by
    by_cases hn : neg s = true
    · have hn' := hn
      unfold neg at hn'
      simp only [Bool.and_eq_true, decide_eq_true_eq, beq_iff_eq] at hn'
      have hr : rest s = s.extract 1 s.size := by unfold rest; rw [if_pos hn]
      by_cases h1 : 1 < s.size
      · have hs : sgr s = true := by unfold sgr; simp [h1, hn'.2]
        have hd : drr s = rest s := by unfold drr; rw [if_pos hs, hr]
        rw [hd, hs]
        refine ⟨⟨fun ⟨a, b, c⟩ => ⟨a, b, fun q => ?_⟩, fun ⟨a, b, c⟩ => ⟨a, b, fun q => absurd ⟨q, .inr rfl⟩ c⟩⟩, fun _ => ?_⟩
        · have := c q.1
          have := congrArg ByteArray.size this
          have e : zeroT.size = 1 := rfl
          omega
        · unfold dval sgv; simp [hn]
      · have hs : sgr s = false := by unfold sgr; simp [h1]
        have hd : drr s = s := by unfold drr; simp [hs]
        have hz : (rest s).size = 0 := by rw [hr, ByteArray.size_extract]; omega
        have nd : ¬ DecOk s := fun h => by have := h.1; omega
        refine ⟨⟨fun h => absurd h nd, fun h => ?_⟩, fun h => absurd h nd⟩
        rw [hd] at h
        have := h.2.1 0 hn'.1
        unfold IsDig at this
        omega
    · have hf : neg s = false := by simpa using hn
      have hr : rest s = s := by unfold rest; simp [hf]
      have hs : sgr s = false := by
        unfold neg at hf
        unfold sgr
        by_cases h1 : 1 < s.size
        · have h0 : 0 < s.size := by omega
          simp only [h0, decide_true, Bool.true_and] at hf
          simp [hf]
        · simp [h1]
      have hd : drr s = s := by unfold drr; simp [hs]
      rw [hd, hs]
      refine ⟨⟨fun ⟨a, b, c⟩ => ?_, fun ⟨a, b, c⟩ => ?_⟩, fun _ => ?_⟩
      · rw [hr] at a b c
        refine ⟨a, b, fun q => ?_⟩
        have := congrArg ByteArray.size (c q.1)
        have e : zeroT.size = 1 := rfl
        rcases q.2 with q | q
        · omega
        · exact absurd q (by decide)
      · unfold DecOk
        rw [hr]
        refine ⟨a, b, fun q => ?_⟩
        by_cases h1 : 1 < s.size
        · exact absurd ⟨q, .inl h1⟩ c
        · exact one_zero (by omega) q
      · unfold dval sgv; simp [hf, hr]
  unfold AmountA at R
  unfold RA
  by_cases h : DecOk s
  · have h2 := key.1.1 h
    have e := key.2 h
    rw [e] at R
    unfold Fit64 at R
    unfold Fit1
    rcases R with ⟨_, a, b, c⟩ | ⟨_, a, b, c⟩ | ⟨a, _⟩
    · exact .inl ⟨h2, a, b, c⟩
    · exact .inr (.inl ⟨h2, a, b, c⟩)
    · exact absurd h a
  · have h2 : ¬ RdOk (drr s) (sgr s) := fun q => h (key.1.2 q)
    rcases R with ⟨a, _⟩ | ⟨a, _⟩ | ⟨_, b, c⟩
    · exact absurd a h
    · exact absurd a h
    · exact .inr (.inr ⟨h2, b, c⟩)

/-- what the loop has behind k digits -/
def Inv (d : ByteArray) (b : Bool) (k : Nat) (h l : Int) (ov : Bool) : Prop :=
  Bd h l ∧ ((ov = false ∧ num h l = sgv b (val d k)) ∨ (ov = true ∧ ¬ Fit1 (num h l) ∧ ¬ Fit1 (sgv b (val d k))))
theorem inv_start (d : ByteArray) (b : Bool) : Inv d b 0 0 0 false := by
  refine ⟨by unfold Bd; omega, .inl ⟨rfl, ?_⟩⟩
  have : val d 0 = 0 := rfl
  rw [this]; cases b <;> simp [num, sgv]
theorem wide_ex {x : Int} (hx : -1000000000000000000000 ≤ x ∧ x ≤ 1000000000000000000000) : ∃ h l, Bd h l ∧ num h l = x :=
  ⟨x / 18446744073709551616, x % 18446744073709551616, by unfold Bd; omega, by unfold num; omega⟩
theorem inv_step {d : ByteArray} {b : Bool} {k : Nat} {h l : Int} {ov : Bool} (I : Inv d b k h l ov) (hv : 0 ≤ val d k) (hd : IsDig (byt d k)) :
    (¬ Fit1 (num h l) ∧ Inv d b (k + 1) h l true) ∨
    (Fit1 (num h l) ∧ ov = false ∧ ∃ c h1 l1 h2 l2 h3 l3, c = sgv b (byt d k - 48) ∧ Fit1 c ∧ Bd h1 l1 ∧ num h1 l1 = num h l * 10 ∧ Bd h2 l2 ∧ num h2 l2 = c ∧ Bd h3 l3 ∧ num h3 l3 = num h1 l1 + num h2 l2 ∧ Inv d b (k + 1) h3 l3 false) := by
  obtain ⟨bd, I⟩ := I
  have vs := val_succ d k
  unfold IsDig at hd
  have s4 : sgv b (val d (k + 1)) = 10 * sgv b (val d k) + sgv b (byt d k - 48) ∧ (-9 ≤ sgv b (byt d k - 48) ∧ sgv b (byt d k - 48) ≤ 9) ∧ ((0 ≤ sgv b (val d k) ∧ 0 ≤ sgv b (byt d k - 48)) ∨ (sgv b (val d k) ≤ 0 ∧ sgv b (byt d k - 48) ≤ 0)) := by
    rw [vs]
    have e0 : ∀ x, sgv false x = x := fun _ => rfl
    have e1 : ∀ x, sgv true x = -x := fun _ => rfl
    cases b
    · rw [e0, e0, e0]
      exact ⟨rfl, by omega, .inl ⟨by omega, by omega⟩⟩
    · rw [e1, e1, e1]
      exact ⟨by omega, by omega, .inr ⟨by omega, by omega⟩⟩
  obtain ⟨s5, s6, s7⟩ := s4
  by_cases f : Fit1 (num h l)
  · rcases I with ⟨ho, e⟩ | ⟨_, q, _⟩
    · refine .inr ⟨f, ho, ?_⟩
      unfold Fit1 at f
      obtain ⟨h1, l1, b1, e1⟩ := wide_ex (x := num h l * 10) (by omega)
      obtain ⟨h2, l2, b2, e2⟩ := wide_ex (x := sgv b (byt d k - 48)) (by omega)
      obtain ⟨h3, l3, b3, e3⟩ := wide_ex (x := num h1 l1 + num h2 l2) (by omega)
      exact ⟨_, h1, l1, h2, l2, h3, l3, rfl, by unfold Fit1; omega, b1, e1, b2, e2, b3, e3, b3, .inl ⟨rfl, by omega⟩⟩
    · exact absurd f q
  · refine .inl ⟨f, bd, .inr ⟨rfl, f, ?_⟩⟩
    unfold Fit1 at *
    omega
theorem inv_end {d : ByteArray} {b : Bool} {h l : Int} {ov : Bool} {v er : Int} (I : Inv d b d.size h l ov) (K : RdOk d b) (R : RA d b v er) :
    (Fit1 (num h l) ∧ ov = false ∧ v = num h l ∧ er = 0) ∨ (¬ Fit1 (num h l) ∧ v = 0 ∧ er = 2) := by
  obtain ⟨bd, I⟩ := I
  rcases I with ⟨ho, e⟩ | ⟨_, q, q2⟩
  · rw [e]
    rcases R with ⟨_, a, b, c⟩ | ⟨_, a, b, c⟩ | ⟨a, _⟩
    · exact .inl ⟨a, ho, b, c⟩
    · exact .inr ⟨a, b, c⟩
    · exact absurd K a
  · rcases R with ⟨_, a, _⟩ | ⟨_, a, b, c⟩ | ⟨a, _⟩
    · exact absurd a q2
    · exact .inr ⟨q, b, c⟩
    · exact absurd K a

end Go.Proofs.YtfjckgnclhpmcaaDoor.Nm

/- What Amount and Small of the reference of layer 18 come to: digits added up as wide numbers. -/
namespace Go.Proofs.YtfjckgnclhpmcaaDoor.Nr
set_option linter.unusedSimpArgs false
set_option linter.unusedVariables false
open Go.RowKit Go.Proofs.YtfjckgnclhpmcaaDoor.Pr Go.Proofs.YtfjckgnclhpmcaaDoor.Nm Go.Proofs.YtfjckgnclhpmcaaDoor.Wm Go.Proofs.YtfjckgnclhpmcaaDoor.Wc Go.Proofs.YtfjckgnclhpmcaaDoor.Bx Go.Proofs.YtfjckgnclhpmcaaDoor.Fs Go.Proofs.YtfjckgnclhpmcaaDoor.Bn Go.Proofs.YtfjckgnclhpmcaaDoor.Np
open Go.Proofs.YtfjckgnclhpmcaaDoor.Vm (num Bd Fit1 Res1 Res)
attribute [local go_sem ↓] Go.wp_at_zero Go.wp_at_succ
set_option maxHeartbeats 2000000

abbrev CF : Prop := ∀ (h l v er : Int) (w : World) (b1 : Bd h l) (r : Res1 (num h l) v er),
    Calls Tryd.prog 32 #[.agg #[.int .i64 h, .int .u64 l]] w fun e w' => e = .returned (.tuple #[.int .i64 v, .int .i64 er]) ∧ Below w.heap.size w w'
abbrev CM : Prop := ∀ (a b h l : Int) (w : World) (fa : Fit1 a) (fb : Fit1 b) (bd : Bd h l) (hn : num h l = a * b),
    Calls Tryd.prog 34 #[.int .i64 a, .int .i64 b] w fun e w' => e = .returned (.agg #[.int .i64 h, .int .u64 l]) ∧ Below w.heap.size w w'
abbrev CO : Prop := ∀ (a h l : Int) (w : World) (f : Fit1 a) (hn : num h l = a) (bd : Bd h l),
    Calls Tryd.prog 35 #[.int .i64 a] w fun e w' => e = .returned (.agg #[.int .i64 h, .int .u64 l]) ∧ Below w.heap.size w w'
abbrev CA : Prop := ∀ (h1 l1 h2 l2 h l er : Int) (w : World) (b1 : Bd h1 l1) (b2 : Bd h2 l2) (r : Res (num h1 l1 + num h2 l2) h l er),
    Calls Tryd.prog 33 #[.agg #[.int .i64 h1, .int .u64 l1], .agg #[.int .i64 h2, .int .u64 l2]] w fun e w' =>
      e = .returned (.tuple #[.agg #[.int .i64 h, .int .u64 l], .int .i64 er]) ∧ Below w.heap.size w w'

theorem upto_bad (d : ByteArray) : ∃ m, m ≤ d.size ∧ ((m = d.size ∧ AllDig d) ∨ (m < d.size ∧ ¬ AllDig d ∧ ¬ IsDig (byt d m))) ∧ ∀ k, k < m → IsDig (byt d k) := by
  by_cases h : AllDig d
  · exact ⟨d.size, Nat.le_refl _, .inl ⟨rfl, h⟩, h⟩
  · obtain ⟨m, m0, bad, good⟩ := first_bad h
    exact ⟨m, by omega, .inr ⟨m0, h, bad⟩, good⟩
theorem val_up {d : ByteArray} {m : Nat} (h : ∀ k, k < m → IsDig (byt d k)) (k : Nat) (hk : k ≤ m) : 0 ≤ val d k := by
  induction k with
  | zero => simp [val, vl]
  | succ k ih => have := ih (by omega); have := h k (by omega); unfold IsDig at this; rw [val_succ]; omega

set_option maxRecDepth 100000 in
theorem rAmount_to (cf : CF) (cm : CM) (co : CO) (ca : CA) (s : ByteArray) (v er : Int) (w : World) (hm : s.size ≤ 200) (R0 : AmountA s v er) :
    Calls Tryd.prog 17 #[.string s] w fun e w' => e = .returned (.tuple #[.int .i64 v, .int .i64 er]) ∧ Below w.heap.size w w' := by
  have R := ra_of R0
  have C : (sgr s = true ∧ drr s = s.extract 1 s.size ∧ 1 < s.size ∧ byt s 0 = 45) ∨ (sgr s = false ∧ drr s = s ∧ 1 < s.size ∧ byt s 0 ≠ 45) ∨ (sgr s = false ∧ drr s = s ∧ s.size ≤ 1) := by
    by_cases h1 : 1 < s.size
    · by_cases h2 : byt s 0 = 45
      · have e : sgr s = true := by unfold sgr; simp [h1, h2]
        exact .inl ⟨e, by unfold drr; rw [if_pos e], h1, h2⟩
      · have e : sgr s = false := by unfold sgr; simp [h1, h2]
        exact .inr (.inl ⟨e, by unfold drr; simp [e], h1, h2⟩)
    · have e : sgr s = false := by unfold sgr; simp [h1]
      exact .inr (.inr ⟨e, by unfold drr; simp [e], by omega⟩)
  clear R0
  have MAIN : ∀ (d : ByteArray) (sg : Bool), d.size ≤ 200 → RA d sg v er → (d.size = 0 ∧ v = 0 ∧ er = 5) ∨
      (0 < d.size ∧ byt d 0 = 48 ∧ 1 < d.size ∧ v = 0 ∧ er = 5) ∨ (d.size = 1 ∧ byt d 0 = 48 ∧ sg = true ∧ v = 0 ∧ er = 5) ∨
      (d.size = 1 ∧ byt d 0 = 48 ∧ sg = false) ∨ (0 < d.size ∧ byt d 0 ≠ 48) := by
    intro d sg _ R
    have bad : ¬ RdOk d sg → v = 0 ∧ er = 5 := fun h => by
      rcases R with ⟨a, _⟩ | ⟨a, _⟩ | ⟨_, a⟩
      · exact absurd a h
      · exact absurd a h
      · exact a
    by_cases z : 0 < d.size
    · by_cases q : byt d 0 = 48
      · by_cases p : 1 < d.size
        · exact .inr (.inl ⟨z, q, p, bad fun h => h.2.2 ⟨q, .inl p⟩⟩)
        · cases sg
          · exact .inr (.inr (.inr (.inl ⟨by omega, q, rfl⟩)))
          · exact .inr (.inr (.inl ⟨by omega, q, rfl, bad fun h => h.2.2 ⟨q, .inr rfl⟩⟩))
      · exact .inr (.inr (.inr (.inr ⟨z, q⟩)))
    · exact .inl ⟨by omega, bad fun h => z h.1⟩
  rcases C with ⟨es, ed, h1, h2⟩ | ⟨es, ed, h1, h2⟩ | ⟨es, ed, h1⟩
  · rw [es, ed] at R
    rw [byt_at (by omega)] at h2
    have p1 : (1 : Int) < (s.size : Int) := by omega
    have p2 : (((s[0]'(by omega)).toNat : Int) == 45) = true := by rw [h2]; rfl
    have hd : (s.extract 1 s.size).size ≤ 200 := by rw [ByteArray.size_extract]; omega
    replace R := MAIN _ _ hd R |> fun x => And.intro R x
    clear MAIN es ed
    go_enter Tryd.func17, Tryd.ntmps17
    go_upto_region 5 with fail
    generalize s.extract 1 s.size = d at *
    clear h1 h2 p1 p2
    obtain ⟨R, ⟨z, rfl, rfl⟩ | ⟨z, q, p, rfl, rfl⟩ | ⟨z, q, g, rfl, rfl⟩ | ⟨z, q, g⟩ | ⟨z, q⟩⟩ := R
    · have e0 : ((d.size : Int) == 0) = true := by rw [z]; rfl
      clear R hd hm
      go_wp2
      go_ret2
      exact ⟨rfl, Below.refl _ _⟩
    · have e0 : ((d.size : Int) == 0) = false := beq_eq_false_iff_ne.2 (by omega)
      rw [byt_at z] at q
      have e1 : (((d[0]'z).toNat : Int) == 48) = true := by rw [q]; rfl
      have p1 : (1 : Int) < (d.size : Int) := by omega
      have p0 : (0 : Int) < (d.size : Int) := by omega
      clear R hd hm q
      go_wp2
      go_ret2
      exact ⟨rfl, Below.refl _ _⟩
    · have e0 : ((d.size : Int) == 0) = false := beq_eq_false_iff_ne.2 (by omega)
      have z' : 0 < d.size := by omega
      rw [byt_at z'] at q
      have e1 : (((d[0]'z').toNat : Int) == 48) = true := by rw [q]; rfl
      have p1 : (d.size : Int) = 1 := by omega
      have p0 : (0 : Int) < (d.size : Int) := by omega
      clear R hd hm q z
      go_wp2
      go_ret2
      exact ⟨rfl, Below.refl _ _⟩
    · exact absurd g (by decide)
    · have e0 : ((d.size : Int) == 0) = false := beq_eq_false_iff_ne.2 (by omega)
      rw [byt_at z] at q
      have q0 : byt d 0 ≠ 48 := by rw [byt_at z]; exact q
      have e1 : (((d[0]'z).toNat : Int) == 48) = false := beq_eq_false_iff_ne.2 q
      have p0 : (0 : Int) < (d.size : Int) := by omega
      clear q hm
      go_upto_region 7 with fail
      obtain ⟨m, hm2, hM, hG⟩ := upto_bad d
      have KM : Hid (m = d.size → RdOk d true) := Lib.hid (fun e => by
        rcases hM with ⟨_, a⟩ | ⟨a, _⟩
        · exact ⟨by omega, a, by first | exact fun x => q0 x.1 | exact fun x => x.2.elim (by omega) (by decide)⟩
        · omega)
      have KB : Hid (m < d.size → v = 0 ∧ er = 5 ∧ (byt d m < 48 ∨ (48 ≤ byt d m ∧ 57 < byt d m))) := Lib.hid (fun e => by
        rcases hM with ⟨a, _⟩ | ⟨_, a, b⟩
        · omega
        · rcases R with ⟨x, _⟩ | ⟨x, _⟩ | ⟨_, x, y⟩
          · exact absurd x.2.1 a
          · exact absurd x.2.1 a
          · exact ⟨x, y, not_dig b⟩)
      have HG := Lib.hid hG
      replace R := Lib.hid R
      clear hM hG e0 e1
      go_wp2
      go_loopw [7, 8, 9, 10, 11, 12, 46] (fun OV I M EE BY AD X wr => ∃ (k : Nat) (h l : Int) (ov : Bool), k ≤ m ∧ X = .int .i64 (k : Int) ∧ OV = .bool ov ∧ Hid (Inv d true k h l ov) ∧ Two wr w.heap.size (.int .i64 h) (.int .u64 l) ∧ Below w.heap.size w wr) (fun _ _ _ _ _ _ X _ => d.size - (intOf X).toNat)
      case atStart => exact ⟨0, 0, 0, false, by omega, rfl, rfl, Lib.hid (inv_start _ _), Two.new _ _ _ _, balloc (Below.refl _ w) _⟩
      case round =>
        obtain ⟨k, h, l, ov, hk, rfl, rfl, HI, T, B⟩ := hrel
        have pp : (0 : Int) ≤ (k : Int) := by omega
        have vp := val_up HG.out k hk
        by_cases hlt : k < m
        · have ks : k < d.size := by omega
          have bp : (k : Int) < (d.size : Int) := by omega
          have dg := HG.out k hlt
          obtain ⟨y, hy⟩ : ∃ y : Int, y = byt d k - 48 := ⟨_, rfl⟩
          rcases inv_step HI.out vp dg with ⟨nf, I2⟩ | ⟨f, rfl, c, h1, l1, h2, l2, h3, l3, hc, fc, b1, n1, b2, n2, b3, n3, I2⟩
          · have c1 := fun w => cf h l 0 2 w HI.out.1 (.inr ⟨rfl, rfl, nf⟩)
            unfold IsDig at dg
            rw [byt_at ks] at dg hy
            have ec : ((d[k]'ks).toNat : Int) = 48 + y := by omega
            have y0 : 0 ≤ y := by omega
            have y1 : y ≤ 9 := by omega
            obtain ⟨hg, q1, q2, f1, f2⟩ := id T
            have J := Lib.hid I2
            clear nf I2 HI vp dg hy
            go_wp2_with fail
            refine (c1 _).mono ?_
            rintro e w1 ⟨rfl, hb⟩
            replace T := T.kept hb
            replace B := bthen B hb
            go_wp2
            go_roundw
            case rel => exact ⟨k + 1, h, l, true, by omega, by go_num, rfl, J, T, B⟩
            case measure => show d.size - ((k : Int) + 1).toNat < d.size - ((k : Int)).toNat; omega
          · obtain ⟨x, hx⟩ : ∃ x, x = num h l := ⟨_, rfl⟩
            rw [← hx] at f n1
            have c1 := fun w => cf h l x 0 w HI.out.1 (.inl ⟨rfl, hx, by rw [← hx]; exact f⟩)
            have c2 := fun w => cm x 10 h1 l1 w f (by unfold Fit1; omega) b1 n1
            have cy : c = -(48 + y - 48) := by rw [hc, ← hy]; simp only [sgv]; first | (show -y = _; omega) | (show y = _; omega)
            rw [cy] at fc n2
            have c3 := fun w => co (-(48 + y - 48)) h2 l2 w fc n2 b2
            have c4 := fun w => ca h1 l1 h2 l2 h3 l3 0 w b1 b2 (.inl ⟨rfl, n3, b3⟩)
            unfold IsDig at dg
            rw [byt_at ks] at dg hy
            have ec : ((d[k]'ks).toNat : Int) = 48 + y := by omega
            have y0 : 0 ≤ y := by omega
            have y1 : y ≤ 9 := by omega
            obtain ⟨hg, q1, q2, f1, f2⟩ := id T
            have J := Lib.hid I2
            clear I2 HI vp dg hy hx n1 n2 n3 b1 b2 b3 fc f hc cy
            go_wp2_with fail
            refine (c1 _).mono ?_
            rintro e w1 ⟨rfl, hb⟩
            replace T := T.kept hb
            replace B := bthen B hb
            obtain ⟨hg, q1, q2, f1, f2⟩ := id T
            clear hb
            go_wp2_with fail
            refine (c2 _).mono ?_
            rintro e w2 ⟨rfl, hb⟩
            replace T := T.kept hb
            replace B := bthen B hb
            clear hb
            go_wp2_with fail
            refine (c3 _).mono ?_
            rintro e w3 ⟨rfl, hb⟩
            replace T := T.kept hb
            replace B := bthen B hb
            clear hb
            go_wp2_with fail
            refine (c4 _).mono ?_
            rintro e w4 ⟨rfl, hb⟩
            replace T := T.kept hb
            replace B := bthen B hb
            obtain ⟨hg, q1, q2, f1, f2⟩ := id T
            clear hb
            go_wp2
            go_roundw
            case rel => exact ⟨k + 1, h3, l3, false, by omega, by go_num, rfl, J, (T.set0 _).set1 _, bset (bset B (Nat.le_refl _) _ _) (Nat.le_refl _) _ _⟩
            case measure => show d.size - ((k : Int) + 1).toNat < d.size - ((k : Int)).toNat; omega
        · obtain rfl : k = m := by omega
          by_cases e : k < d.size
          · obtain ⟨rfl, rfl, bad⟩ := KB.out e
            have bp : (k : Int) < (d.size : Int) := by omega
            rw [byt_at e] at bad
            clear HI vp hd
            rcases bad with bad | ⟨bad, bad2⟩
            · go_wp2
              go_ret2
              exact ⟨rfl, B⟩
            · go_wp2
              go_ret2
              exact ⟨rfl, B⟩
          · obtain rfl : k = d.size := by omega
            obtain ⟨hg, q1, q2, f1, f2⟩ := id T
            rcases inv_end HI.out (KM.out rfl) R.out with ⟨f, rfl, hv, rfl⟩ | ⟨f, rfl, rfl⟩
            · have c1 := fun w => cf h l v 0 w HI.out.1 (.inl ⟨rfl, hv, f⟩)
              clear HI vp hd hv f
              go_wp2_with fail
              refine (c1 _).mono ?_
              rintro e w1 ⟨rfl, hb⟩
              go_wp2
              go_ret2
              exact ⟨rfl, bthen B hb⟩
            · have c1 := fun w => cf h l 0 2 w HI.out.1 (.inr ⟨rfl, rfl, f⟩)
              clear HI vp hd f
              go_wp2_with fail
              refine (c1 _).mono ?_
              rintro e w1 ⟨rfl, hb⟩
              cases ov
              all_goals go_wp2
              all_goals go_ret2
              all_goals exact ⟨rfl, bthen B hb⟩
  · rw [es, ed] at R
    rw [byt_at (by omega)] at h2
    have p1 : (1 : Int) < (s.size : Int) := by omega
    have p2 : (((s[0]'(by omega)).toNat : Int) == 45) = false := beq_eq_false_iff_ne.2 h2
    have hd : s.size ≤ 200 := hm
    replace R := MAIN _ _ hd R |> fun x => And.intro R x
    clear MAIN es ed
    go_enter Tryd.func17, Tryd.ntmps17
    go_upto_region 5 with fail
    clear h1 h2 p1 p2
    generalize s = d at *
    obtain ⟨R, ⟨z, rfl, rfl⟩ | ⟨z, q, p, rfl, rfl⟩ | ⟨z, q, g, rfl, rfl⟩ | ⟨z, q, g⟩ | ⟨z, q⟩⟩ := R
    · have e0 : ((d.size : Int) == 0) = true := by rw [z]; rfl
      clear R hd hm
      go_wp2
      go_ret2
      exact ⟨rfl, Below.refl _ _⟩
    · have e0 : ((d.size : Int) == 0) = false := beq_eq_false_iff_ne.2 (by omega)
      rw [byt_at z] at q
      have e1 : (((d[0]'z).toNat : Int) == 48) = true := by rw [q]; rfl
      have p1 : (1 : Int) < (d.size : Int) := by omega
      have p0 : (0 : Int) < (d.size : Int) := by omega
      clear R hd hm q
      go_wp2
      go_ret2
      exact ⟨rfl, Below.refl _ _⟩
    · exact absurd g (by decide)
    · have e0 : ((d.size : Int) == 0) = false := beq_eq_false_iff_ne.2 (by omega)
      have z' : 0 < d.size := by omega
      rw [byt_at z'] at q
      have e1 : (((d[0]'z').toNat : Int) == 48) = true := by rw [q]; rfl
      have p1 : (d.size : Int) ≤ 1 := by omega
      have p0 : (0 : Int) < (d.size : Int) := by omega
      clear hm q z
      go_upto_region 7 with fail
      obtain ⟨m, hm2, hM, hG⟩ := upto_bad d
      have KM : Hid (m = d.size → RdOk d false) := Lib.hid (fun e => by
        rcases hM with ⟨_, a⟩ | ⟨a, _⟩
        · exact ⟨by omega, a, by first | exact fun x => q0 x.1 | exact fun x => x.2.elim (by omega) (by decide)⟩
        · omega)
      have KB : Hid (m < d.size → v = 0 ∧ er = 5 ∧ (byt d m < 48 ∨ (48 ≤ byt d m ∧ 57 < byt d m))) := Lib.hid (fun e => by
        rcases hM with ⟨a, _⟩ | ⟨_, a, b⟩
        · omega
        · rcases R with ⟨x, _⟩ | ⟨x, _⟩ | ⟨_, x, y⟩
          · exact absurd x.2.1 a
          · exact absurd x.2.1 a
          · exact ⟨x, y, not_dig b⟩)
      have HG := Lib.hid hG
      replace R := Lib.hid R
      clear hM hG e0 e1
      go_wp2
      go_loopw [7, 8, 9, 10, 11, 12, 46] (fun OV I M EE BY AD X wr => ∃ (k : Nat) (h l : Int) (ov : Bool), k ≤ m ∧ X = .int .i64 (k : Int) ∧ OV = .bool ov ∧ Hid (Inv d false k h l ov) ∧ Two wr w.heap.size (.int .i64 h) (.int .u64 l) ∧ Below w.heap.size w wr) (fun _ _ _ _ _ _ X _ => d.size - (intOf X).toNat)
      case atStart => exact ⟨0, 0, 0, false, by omega, rfl, rfl, Lib.hid (inv_start _ _), Two.new _ _ _ _, balloc (Below.refl _ w) _⟩
      case round =>
        obtain ⟨k, h, l, ov, hk, rfl, rfl, HI, T, B⟩ := hrel
        have pp : (0 : Int) ≤ (k : Int) := by omega
        have vp := val_up HG.out k hk
        by_cases hlt : k < m
        · have ks : k < d.size := by omega
          have bp : (k : Int) < (d.size : Int) := by omega
          have dg := HG.out k hlt
          obtain ⟨y, hy⟩ : ∃ y : Int, y = byt d k - 48 := ⟨_, rfl⟩
          rcases inv_step HI.out vp dg with ⟨nf, I2⟩ | ⟨f, rfl, c, h1, l1, h2, l2, h3, l3, hc, fc, b1, n1, b2, n2, b3, n3, I2⟩
          · have c1 := fun w => cf h l 0 2 w HI.out.1 (.inr ⟨rfl, rfl, nf⟩)
            unfold IsDig at dg
            rw [byt_at ks] at dg hy
            have ec : ((d[k]'ks).toNat : Int) = 48 + y := by omega
            have y0 : 0 ≤ y := by omega
            have y1 : y ≤ 9 := by omega
            obtain ⟨hg, q1, q2, f1, f2⟩ := id T
            have J := Lib.hid I2
            clear nf I2 HI vp dg hy
            go_wp2_with fail
            refine (c1 _).mono ?_
            rintro e w1 ⟨rfl, hb⟩
            replace T := T.kept hb
            replace B := bthen B hb
            go_wp2
            go_roundw
            case rel => exact ⟨k + 1, h, l, true, by omega, by go_num, rfl, J, T, B⟩
            case measure => show d.size - ((k : Int) + 1).toNat < d.size - ((k : Int)).toNat; omega
          · obtain ⟨x, hx⟩ : ∃ x, x = num h l := ⟨_, rfl⟩
            rw [← hx] at f n1
            have c1 := fun w => cf h l x 0 w HI.out.1 (.inl ⟨rfl, hx, by rw [← hx]; exact f⟩)
            have c2 := fun w => cm x 10 h1 l1 w f (by unfold Fit1; omega) b1 n1
            have cy : c = 48 + y - 48 := by rw [hc, ← hy]; simp only [sgv]; first | (show -y = _; omega) | (show y = _; omega)
            rw [cy] at fc n2
            have c3 := fun w => co (48 + y - 48) h2 l2 w fc n2 b2
            have c4 := fun w => ca h1 l1 h2 l2 h3 l3 0 w b1 b2 (.inl ⟨rfl, n3, b3⟩)
            unfold IsDig at dg
            rw [byt_at ks] at dg hy
            have ec : ((d[k]'ks).toNat : Int) = 48 + y := by omega
            have y0 : 0 ≤ y := by omega
            have y1 : y ≤ 9 := by omega
            obtain ⟨hg, q1, q2, f1, f2⟩ := id T
            have J := Lib.hid I2
            clear I2 HI vp dg hy hx n1 n2 n3 b1 b2 b3 fc f hc cy
            go_wp2_with fail
            refine (c1 _).mono ?_
            rintro e w1 ⟨rfl, hb⟩
            replace T := T.kept hb
            replace B := bthen B hb
            obtain ⟨hg, q1, q2, f1, f2⟩ := id T
            clear hb
            go_wp2_with fail
            refine (c2 _).mono ?_
            rintro e w2 ⟨rfl, hb⟩
            replace T := T.kept hb
            replace B := bthen B hb
            clear hb
            go_wp2_with fail
            refine (c3 _).mono ?_
            rintro e w3 ⟨rfl, hb⟩
            replace T := T.kept hb
            replace B := bthen B hb
            clear hb
            go_wp2_with fail
            refine (c4 _).mono ?_
            rintro e w4 ⟨rfl, hb⟩
            replace T := T.kept hb
            replace B := bthen B hb
            obtain ⟨hg, q1, q2, f1, f2⟩ := id T
            clear hb
            go_wp2
            go_roundw
            case rel => exact ⟨k + 1, h3, l3, false, by omega, by go_num, rfl, J, (T.set0 _).set1 _, bset (bset B (Nat.le_refl _) _ _) (Nat.le_refl _) _ _⟩
            case measure => show d.size - ((k : Int) + 1).toNat < d.size - ((k : Int)).toNat; omega
        · obtain rfl : k = m := by omega
          by_cases e : k < d.size
          · obtain ⟨rfl, rfl, bad⟩ := KB.out e
            have bp : (k : Int) < (d.size : Int) := by omega
            rw [byt_at e] at bad
            clear HI vp hd
            rcases bad with bad | ⟨bad, bad2⟩
            · go_wp2
              go_ret2
              exact ⟨rfl, B⟩
            · go_wp2
              go_ret2
              exact ⟨rfl, B⟩
          · obtain rfl : k = d.size := by omega
            obtain ⟨hg, q1, q2, f1, f2⟩ := id T
            rcases inv_end HI.out (KM.out rfl) R.out with ⟨f, rfl, hv, rfl⟩ | ⟨f, rfl, rfl⟩
            · have c1 := fun w => cf h l v 0 w HI.out.1 (.inl ⟨rfl, hv, f⟩)
              clear HI vp hd hv f
              go_wp2_with fail
              refine (c1 _).mono ?_
              rintro e w1 ⟨rfl, hb⟩
              go_wp2
              go_ret2
              exact ⟨rfl, bthen B hb⟩
            · have c1 := fun w => cf h l 0 2 w HI.out.1 (.inr ⟨rfl, rfl, f⟩)
              clear HI vp hd f
              go_wp2_with fail
              refine (c1 _).mono ?_
              rintro e w1 ⟨rfl, hb⟩
              cases ov
              all_goals go_wp2
              all_goals go_ret2
              all_goals exact ⟨rfl, bthen B hb⟩
    · have e0 : ((d.size : Int) == 0) = false := beq_eq_false_iff_ne.2 (by omega)
      rw [byt_at z] at q
      have q0 : byt d 0 ≠ 48 := by rw [byt_at z]; exact q
      have e1 : (((d[0]'z).toNat : Int) == 48) = false := beq_eq_false_iff_ne.2 q
      have p0 : (0 : Int) < (d.size : Int) := by omega
      clear q hm
      go_upto_region 7 with fail
      obtain ⟨m, hm2, hM, hG⟩ := upto_bad d
      have KM : Hid (m = d.size → RdOk d false) := Lib.hid (fun e => by
        rcases hM with ⟨_, a⟩ | ⟨a, _⟩
        · exact ⟨by omega, a, by first | exact fun x => q0 x.1 | exact fun x => x.2.elim (by omega) (by decide)⟩
        · omega)
      have KB : Hid (m < d.size → v = 0 ∧ er = 5 ∧ (byt d m < 48 ∨ (48 ≤ byt d m ∧ 57 < byt d m))) := Lib.hid (fun e => by
        rcases hM with ⟨a, _⟩ | ⟨_, a, b⟩
        · omega
        · rcases R with ⟨x, _⟩ | ⟨x, _⟩ | ⟨_, x, y⟩
          · exact absurd x.2.1 a
          · exact absurd x.2.1 a
          · exact ⟨x, y, not_dig b⟩)
      have HG := Lib.hid hG
      replace R := Lib.hid R
      clear hM hG e0 e1
      go_wp2
      go_loopw [7, 8, 9, 10, 11, 12, 46] (fun OV I M EE BY AD X wr => ∃ (k : Nat) (h l : Int) (ov : Bool), k ≤ m ∧ X = .int .i64 (k : Int) ∧ OV = .bool ov ∧ Hid (Inv d false k h l ov) ∧ Two wr w.heap.size (.int .i64 h) (.int .u64 l) ∧ Below w.heap.size w wr) (fun _ _ _ _ _ _ X _ => d.size - (intOf X).toNat)
      case atStart => exact ⟨0, 0, 0, false, by omega, rfl, rfl, Lib.hid (inv_start _ _), Two.new _ _ _ _, balloc (Below.refl _ w) _⟩
      case round =>
        obtain ⟨k, h, l, ov, hk, rfl, rfl, HI, T, B⟩ := hrel
        have pp : (0 : Int) ≤ (k : Int) := by omega
        have vp := val_up HG.out k hk
        by_cases hlt : k < m
        · have ks : k < d.size := by omega
          have bp : (k : Int) < (d.size : Int) := by omega
          have dg := HG.out k hlt
          obtain ⟨y, hy⟩ : ∃ y : Int, y = byt d k - 48 := ⟨_, rfl⟩
          rcases inv_step HI.out vp dg with ⟨nf, I2⟩ | ⟨f, rfl, c, h1, l1, h2, l2, h3, l3, hc, fc, b1, n1, b2, n2, b3, n3, I2⟩
          · have c1 := fun w => cf h l 0 2 w HI.out.1 (.inr ⟨rfl, rfl, nf⟩)
            unfold IsDig at dg
            rw [byt_at ks] at dg hy
            have ec : ((d[k]'ks).toNat : Int) = 48 + y := by omega
            have y0 : 0 ≤ y := by omega
            have y1 : y ≤ 9 := by omega
            obtain ⟨hg, q1, q2, f1, f2⟩ := id T
            have J := Lib.hid I2
            clear nf I2 HI vp dg hy
            go_wp2_with fail
            refine (c1 _).mono ?_
            rintro e w1 ⟨rfl, hb⟩
            replace T := T.kept hb
            replace B := bthen B hb
            go_wp2
            go_roundw
            case rel => exact ⟨k + 1, h, l, true, by omega, by go_num, rfl, J, T, B⟩
            case measure => show d.size - ((k : Int) + 1).toNat < d.size - ((k : Int)).toNat; omega
          · obtain ⟨x, hx⟩ : ∃ x, x = num h l := ⟨_, rfl⟩
            rw [← hx] at f n1
            have c1 := fun w => cf h l x 0 w HI.out.1 (.inl ⟨rfl, hx, by rw [← hx]; exact f⟩)
            have c2 := fun w => cm x 10 h1 l1 w f (by unfold Fit1; omega) b1 n1
            have cy : c = 48 + y - 48 := by rw [hc, ← hy]; simp only [sgv]; first | (show -y = _; omega) | (show y = _; omega)
            rw [cy] at fc n2
            have c3 := fun w => co (48 + y - 48) h2 l2 w fc n2 b2
            have c4 := fun w => ca h1 l1 h2 l2 h3 l3 0 w b1 b2 (.inl ⟨rfl, n3, b3⟩)
            unfold IsDig at dg
            rw [byt_at ks] at dg hy
            have ec : ((d[k]'ks).toNat : Int) = 48 + y := by omega
            have y0 : 0 ≤ y := by omega
            have y1 : y ≤ 9 := by omega
            obtain ⟨hg, q1, q2, f1, f2⟩ := id T
            have J := Lib.hid I2
            clear I2 HI vp dg hy hx n1 n2 n3 b1 b2 b3 fc f hc cy
            go_wp2_with fail
            refine (c1 _).mono ?_
            rintro e w1 ⟨rfl, hb⟩
            replace T := T.kept hb
            replace B := bthen B hb
            obtain ⟨hg, q1, q2, f1, f2⟩ := id T
            clear hb
            go_wp2_with fail
            refine (c2 _).mono ?_
            rintro e w2 ⟨rfl, hb⟩
            replace T := T.kept hb
            replace B := bthen B hb
            clear hb
            go_wp2_with fail
            refine (c3 _).mono ?_
            rintro e w3 ⟨rfl, hb⟩
            replace T := T.kept hb
            replace B := bthen B hb
            clear hb
            go_wp2_with fail
            refine (c4 _).mono ?_
            rintro e w4 ⟨rfl, hb⟩
            replace T := T.kept hb
            replace B := bthen B hb
            obtain ⟨hg, q1, q2, f1, f2⟩ := id T
            clear hb
            go_wp2
            go_roundw
            case rel => exact ⟨k + 1, h3, l3, false, by omega, by go_num, rfl, J, (T.set0 _).set1 _, bset (bset B (Nat.le_refl _) _ _) (Nat.le_refl _) _ _⟩
            case measure => show d.size - ((k : Int) + 1).toNat < d.size - ((k : Int)).toNat; omega
        · obtain rfl : k = m := by omega
          by_cases e : k < d.size
          · obtain ⟨rfl, rfl, bad⟩ := KB.out e
            have bp : (k : Int) < (d.size : Int) := by omega
            rw [byt_at e] at bad
            clear HI vp hd
            rcases bad with bad | ⟨bad, bad2⟩
            · go_wp2
              go_ret2
              exact ⟨rfl, B⟩
            · go_wp2
              go_ret2
              exact ⟨rfl, B⟩
          · obtain rfl : k = d.size := by omega
            obtain ⟨hg, q1, q2, f1, f2⟩ := id T
            rcases inv_end HI.out (KM.out rfl) R.out with ⟨f, rfl, hv, rfl⟩ | ⟨f, rfl, rfl⟩
            · have c1 := fun w => cf h l v 0 w HI.out.1 (.inl ⟨rfl, hv, f⟩)
              clear HI vp hd hv f
              go_wp2_with fail
              refine (c1 _).mono ?_
              rintro e w1 ⟨rfl, hb⟩
              go_wp2
              go_ret2
              exact ⟨rfl, bthen B hb⟩
            · have c1 := fun w => cf h l 0 2 w HI.out.1 (.inr ⟨rfl, rfl, f⟩)
              clear HI vp hd f
              go_wp2_with fail
              refine (c1 _).mono ?_
              rintro e w1 ⟨rfl, hb⟩
              cases ov
              all_goals go_wp2
              all_goals go_ret2
              all_goals exact ⟨rfl, bthen B hb⟩
  · rw [es, ed] at R
    have p1 : (s.size : Int) ≤ 1 := by omega
    have hd : s.size ≤ 200 := hm
    replace R := MAIN _ _ hd R |> fun x => And.intro R x
    clear MAIN es ed
    go_enter Tryd.func17, Tryd.ntmps17
    go_upto_region 5 with fail
    clear p1
    generalize s = d at *
    obtain ⟨R, ⟨z, rfl, rfl⟩ | ⟨z, q, p, rfl, rfl⟩ | ⟨z, q, g, rfl, rfl⟩ | ⟨z, q, g⟩ | ⟨z, q⟩⟩ := R
    · have e0 : ((d.size : Int) == 0) = true := by rw [z]; rfl
      clear R hd hm
      go_wp2
      go_ret2
      exact ⟨rfl, Below.refl _ _⟩
    · exact absurd p (by omega)
    · exact absurd g (by decide)
    · have e0 : ((d.size : Int) == 0) = false := beq_eq_false_iff_ne.2 (by omega)
      have z' : 0 < d.size := by omega
      rw [byt_at z'] at q
      have e1 : (((d[0]'z').toNat : Int) == 48) = true := by rw [q]; rfl
      have p1 : (d.size : Int) ≤ 1 := by omega
      have p0 : (0 : Int) < (d.size : Int) := by omega
      clear hm q z
      go_upto_region 7 with fail
      obtain ⟨m, hm2, hM, hG⟩ := upto_bad d
      have KM : Hid (m = d.size → RdOk d false) := Lib.hid (fun e => by
        rcases hM with ⟨_, a⟩ | ⟨a, _⟩
        · exact ⟨by omega, a, by first | exact fun x => q0 x.1 | exact fun x => x.2.elim (by omega) (by decide)⟩
        · omega)
      have KB : Hid (m < d.size → v = 0 ∧ er = 5 ∧ (byt d m < 48 ∨ (48 ≤ byt d m ∧ 57 < byt d m))) := Lib.hid (fun e => by
        rcases hM with ⟨a, _⟩ | ⟨_, a, b⟩
        · omega
        · rcases R with ⟨x, _⟩ | ⟨x, _⟩ | ⟨_, x, y⟩
          · exact absurd x.2.1 a
          · exact absurd x.2.1 a
          · exact ⟨x, y, not_dig b⟩)
      have HG := Lib.hid hG
      replace R := Lib.hid R
      clear hM hG e0 e1
      go_wp2
      go_loopw [7, 8, 9, 10, 11, 12, 46] (fun OV I M EE BY AD X wr => ∃ (k : Nat) (h l : Int) (ov : Bool), k ≤ m ∧ X = .int .i64 (k : Int) ∧ OV = .bool ov ∧ Hid (Inv d false k h l ov) ∧ Two wr w.heap.size (.int .i64 h) (.int .u64 l) ∧ Below w.heap.size w wr) (fun _ _ _ _ _ _ X _ => d.size - (intOf X).toNat)
      case atStart => exact ⟨0, 0, 0, false, by omega, rfl, rfl, Lib.hid (inv_start _ _), Two.new _ _ _ _, balloc (Below.refl _ w) _⟩
      case round =>
        obtain ⟨k, h, l, ov, hk, rfl, rfl, HI, T, B⟩ := hrel
        have pp : (0 : Int) ≤ (k : Int) := by omega
        have vp := val_up HG.out k hk
        by_cases hlt : k < m
        · have ks : k < d.size := by omega
          have bp : (k : Int) < (d.size : Int) := by omega
          have dg := HG.out k hlt
          obtain ⟨y, hy⟩ : ∃ y : Int, y = byt d k - 48 := ⟨_, rfl⟩
          rcases inv_step HI.out vp dg with ⟨nf, I2⟩ | ⟨f, rfl, c, h1, l1, h2, l2, h3, l3, hc, fc, b1, n1, b2, n2, b3, n3, I2⟩
          · have c1 := fun w => cf h l 0 2 w HI.out.1 (.inr ⟨rfl, rfl, nf⟩)
            unfold IsDig at dg
            rw [byt_at ks] at dg hy
            have ec : ((d[k]'ks).toNat : Int) = 48 + y := by omega
            have y0 : 0 ≤ y := by omega
            have y1 : y ≤ 9 := by omega
            obtain ⟨hg, q1, q2, f1, f2⟩ := id T
            have J := Lib.hid I2
            clear nf I2 HI vp dg hy
            go_wp2_with fail
            refine (c1 _).mono ?_
            rintro e w1 ⟨rfl, hb⟩
            replace T := T.kept hb
            replace B := bthen B hb
            go_wp2
            go_roundw
            case rel => exact ⟨k + 1, h, l, true, by omega, by go_num, rfl, J, T, B⟩
            case measure => show d.size - ((k : Int) + 1).toNat < d.size - ((k : Int)).toNat; omega
          · obtain ⟨x, hx⟩ : ∃ x, x = num h l := ⟨_, rfl⟩
            rw [← hx] at f n1
            have c1 := fun w => cf h l x 0 w HI.out.1 (.inl ⟨rfl, hx, by rw [← hx]; exact f⟩)
            have c2 := fun w => cm x 10 h1 l1 w f (by unfold Fit1; omega) b1 n1
            have cy : c = 48 + y - 48 := by rw [hc, ← hy]; simp only [sgv]; first | (show -y = _; omega) | (show y = _; omega)
            rw [cy] at fc n2
            have c3 := fun w => co (48 + y - 48) h2 l2 w fc n2 b2
            have c4 := fun w => ca h1 l1 h2 l2 h3 l3 0 w b1 b2 (.inl ⟨rfl, n3, b3⟩)
            unfold IsDig at dg
            rw [byt_at ks] at dg hy
            have ec : ((d[k]'ks).toNat : Int) = 48 + y := by omega
            have y0 : 0 ≤ y := by omega
            have y1 : y ≤ 9 := by omega
            obtain ⟨hg, q1, q2, f1, f2⟩ := id T
            have J := Lib.hid I2
            clear I2 HI vp dg hy hx n1 n2 n3 b1 b2 b3 fc f hc cy
            go_wp2_with fail
            refine (c1 _).mono ?_
            rintro e w1 ⟨rfl, hb⟩
            replace T := T.kept hb
            replace B := bthen B hb
            obtain ⟨hg, q1, q2, f1, f2⟩ := id T
            clear hb
            go_wp2_with fail
            refine (c2 _).mono ?_
            rintro e w2 ⟨rfl, hb⟩
            replace T := T.kept hb
            replace B := bthen B hb
            clear hb
            go_wp2_with fail
            refine (c3 _).mono ?_
            rintro e w3 ⟨rfl, hb⟩
            replace T := T.kept hb
            replace B := bthen B hb
            clear hb
            go_wp2_with fail
            refine (c4 _).mono ?_
            rintro e w4 ⟨rfl, hb⟩
            replace T := T.kept hb
            replace B := bthen B hb
            obtain ⟨hg, q1, q2, f1, f2⟩ := id T
            clear hb
            go_wp2
            go_roundw
            case rel => exact ⟨k + 1, h3, l3, false, by omega, by go_num, rfl, J, (T.set0 _).set1 _, bset (bset B (Nat.le_refl _) _ _) (Nat.le_refl _) _ _⟩
            case measure => show d.size - ((k : Int) + 1).toNat < d.size - ((k : Int)).toNat; omega
        · obtain rfl : k = m := by omega
          by_cases e : k < d.size
          · obtain ⟨rfl, rfl, bad⟩ := KB.out e
            have bp : (k : Int) < (d.size : Int) := by omega
            rw [byt_at e] at bad
            clear HI vp hd
            rcases bad with bad | ⟨bad, bad2⟩
            · go_wp2
              go_ret2
              exact ⟨rfl, B⟩
            · go_wp2
              go_ret2
              exact ⟨rfl, B⟩
          · obtain rfl : k = d.size := by omega
            obtain ⟨hg, q1, q2, f1, f2⟩ := id T
            rcases inv_end HI.out (KM.out rfl) R.out with ⟨f, rfl, hv, rfl⟩ | ⟨f, rfl, rfl⟩
            · have c1 := fun w => cf h l v 0 w HI.out.1 (.inl ⟨rfl, hv, f⟩)
              clear HI vp hd hv f
              go_wp2_with fail
              refine (c1 _).mono ?_
              rintro e w1 ⟨rfl, hb⟩
              go_wp2
              go_ret2
              exact ⟨rfl, bthen B hb⟩
            · have c1 := fun w => cf h l 0 2 w HI.out.1 (.inr ⟨rfl, rfl, f⟩)
              clear HI vp hd f
              go_wp2_with fail
              refine (c1 _).mono ?_
              rintro e w1 ⟨rfl, hb⟩
              cases ov
              all_goals go_wp2
              all_goals go_ret2
              all_goals exact ⟨rfl, bthen B hb⟩
    · have e0 : ((d.size : Int) == 0) = false := beq_eq_false_iff_ne.2 (by omega)
      rw [byt_at z] at q
      have q0 : byt d 0 ≠ 48 := by rw [byt_at z]; exact q
      have e1 : (((d[0]'z).toNat : Int) == 48) = false := beq_eq_false_iff_ne.2 q
      have p0 : (0 : Int) < (d.size : Int) := by omega
      clear q hm
      go_upto_region 7 with fail
      obtain ⟨m, hm2, hM, hG⟩ := upto_bad d
      have KM : Hid (m = d.size → RdOk d false) := Lib.hid (fun e => by
        rcases hM with ⟨_, a⟩ | ⟨a, _⟩
        · exact ⟨by omega, a, by first | exact fun x => q0 x.1 | exact fun x => x.2.elim (by omega) (by decide)⟩
        · omega)
      have KB : Hid (m < d.size → v = 0 ∧ er = 5 ∧ (byt d m < 48 ∨ (48 ≤ byt d m ∧ 57 < byt d m))) := Lib.hid (fun e => by
        rcases hM with ⟨a, _⟩ | ⟨_, a, b⟩
        · omega
        · rcases R with ⟨x, _⟩ | ⟨x, _⟩ | ⟨_, x, y⟩
          · exact absurd x.2.1 a
          · exact absurd x.2.1 a
          · exact ⟨x, y, not_dig b⟩)
      have HG := Lib.hid hG
      replace R := Lib.hid R
      clear hM hG e0 e1
      go_wp2
      go_loopw [7, 8, 9, 10, 11, 12, 46] (fun OV I M EE BY AD X wr => ∃ (k : Nat) (h l : Int) (ov : Bool), k ≤ m ∧ X = .int .i64 (k : Int) ∧ OV = .bool ov ∧ Hid (Inv d false k h l ov) ∧ Two wr w.heap.size (.int .i64 h) (.int .u64 l) ∧ Below w.heap.size w wr) (fun _ _ _ _ _ _ X _ => d.size - (intOf X).toNat)
      case atStart => exact ⟨0, 0, 0, false, by omega, rfl, rfl, Lib.hid (inv_start _ _), Two.new _ _ _ _, balloc (Below.refl _ w) _⟩
      case round =>
        obtain ⟨k, h, l, ov, hk, rfl, rfl, HI, T, B⟩ := hrel
        have pp : (0 : Int) ≤ (k : Int) := by omega
        have vp := val_up HG.out k hk
        by_cases hlt : k < m
        · have ks : k < d.size := by omega
          have bp : (k : Int) < (d.size : Int) := by omega
          have dg := HG.out k hlt
          obtain ⟨y, hy⟩ : ∃ y : Int, y = byt d k - 48 := ⟨_, rfl⟩
          rcases inv_step HI.out vp dg with ⟨nf, I2⟩ | ⟨f, rfl, c, h1, l1, h2, l2, h3, l3, hc, fc, b1, n1, b2, n2, b3, n3, I2⟩
          · have c1 := fun w => cf h l 0 2 w HI.out.1 (.inr ⟨rfl, rfl, nf⟩)
            unfold IsDig at dg
            rw [byt_at ks] at dg hy
            have ec : ((d[k]'ks).toNat : Int) = 48 + y := by omega
            have y0 : 0 ≤ y := by omega
            have y1 : y ≤ 9 := by omega
            obtain ⟨hg, q1, q2, f1, f2⟩ := id T
            have J := Lib.hid I2
            clear nf I2 HI vp dg hy
            go_wp2_with fail
            refine (c1 _).mono ?_
            rintro e w1 ⟨rfl, hb⟩
            replace T := T.kept hb
            replace B := bthen B hb
            go_wp2
            go_roundw
            case rel => exact ⟨k + 1, h, l, true, by omega, by go_num, rfl, J, T, B⟩
            case measure => show d.size - ((k : Int) + 1).toNat < d.size - ((k : Int)).toNat; omega
          · obtain ⟨x, hx⟩ : ∃ x, x = num h l := ⟨_, rfl⟩
            rw [← hx] at f n1
            have c1 := fun w => cf h l x 0 w HI.out.1 (.inl ⟨rfl, hx, by rw [← hx]; exact f⟩)
            have c2 := fun w => cm x 10 h1 l1 w f (by unfold Fit1; omega) b1 n1
            have cy : c = 48 + y - 48 := by rw [hc, ← hy]; simp only [sgv]; first | (show -y = _; omega) | (show y = _; omega)
            rw [cy] at fc n2
            have c3 := fun w => co (48 + y - 48) h2 l2 w fc n2 b2
            have c4 := fun w => ca h1 l1 h2 l2 h3 l3 0 w b1 b2 (.inl ⟨rfl, n3, b3⟩)
            unfold IsDig at dg
            rw [byt_at ks] at dg hy
            have ec : ((d[k]'ks).toNat : Int) = 48 + y := by omega
            have y0 : 0 ≤ y := by omega
            have y1 : y ≤ 9 := by omega
            obtain ⟨hg, q1, q2, f1, f2⟩ := id T
            have J := Lib.hid I2
            clear I2 HI vp dg hy hx n1 n2 n3 b1 b2 b3 fc f hc cy
            go_wp2_with fail
            refine (c1 _).mono ?_
            rintro e w1 ⟨rfl, hb⟩
            replace T := T.kept hb
            replace B := bthen B hb
            obtain ⟨hg, q1, q2, f1, f2⟩ := id T
            clear hb
            go_wp2_with fail
            refine (c2 _).mono ?_
            rintro e w2 ⟨rfl, hb⟩
            replace T := T.kept hb
            replace B := bthen B hb
            clear hb
            go_wp2_with fail
            refine (c3 _).mono ?_
            rintro e w3 ⟨rfl, hb⟩
            replace T := T.kept hb
            replace B := bthen B hb
            clear hb
            go_wp2_with fail
            refine (c4 _).mono ?_
            rintro e w4 ⟨rfl, hb⟩
            replace T := T.kept hb
            replace B := bthen B hb
            obtain ⟨hg, q1, q2, f1, f2⟩ := id T
            clear hb
            go_wp2
            go_roundw
            case rel => exact ⟨k + 1, h3, l3, false, by omega, by go_num, rfl, J, (T.set0 _).set1 _, bset (bset B (Nat.le_refl _) _ _) (Nat.le_refl _) _ _⟩
            case measure => show d.size - ((k : Int) + 1).toNat < d.size - ((k : Int)).toNat; omega
        · obtain rfl : k = m := by omega
          by_cases e : k < d.size
          · obtain ⟨rfl, rfl, bad⟩ := KB.out e
            have bp : (k : Int) < (d.size : Int) := by omega
            rw [byt_at e] at bad
            clear HI vp hd
            rcases bad with bad | ⟨bad, bad2⟩
            · go_wp2
              go_ret2
              exact ⟨rfl, B⟩
            · go_wp2
              go_ret2
              exact ⟨rfl, B⟩
          · obtain rfl : k = d.size := by omega
            obtain ⟨hg, q1, q2, f1, f2⟩ := id T
            rcases inv_end HI.out (KM.out rfl) R.out with ⟨f, rfl, hv, rfl⟩ | ⟨f, rfl, rfl⟩
            · have c1 := fun w => cf h l v 0 w HI.out.1 (.inl ⟨rfl, hv, f⟩)
              clear HI vp hd hv f
              go_wp2_with fail
              refine (c1 _).mono ?_
              rintro e w1 ⟨rfl, hb⟩
              go_wp2
              go_ret2
              exact ⟨rfl, bthen B hb⟩
            · have c1 := fun w => cf h l 0 2 w HI.out.1 (.inr ⟨rfl, rfl, f⟩)
              clear HI vp hd f
              go_wp2_with fail
              refine (c1 _).mono ?_
              rintro e w1 ⟨rfl, hb⟩
              cases ov
              all_goals go_wp2
              all_goals go_ret2
              all_goals exact ⟨rfl, bthen B hb⟩

theorem rAmount_any (s : ByteArray) (v er : Int) (w : World) (hm : s.size ≤ 200) (R : AmountA s v er) :
    Calls Tryd.prog 17 #[.string s] w fun e w' => e = .returned (.tuple #[.int .i64 v, .int .i64 er]) ∧ Below w.heap.size w w' :=
  rAmount_to Vr.rFit_any Vr.rMul_to Vr.rOf_to Vr.rAdd_any s v er w hm R

theorem rSmall_any (s : ByteArray) (v er : Int) (w : World) (hm : s.size ≤ 200) (R : SmallA s v er) :
    Calls Tryd.prog 19 #[.string s] w fun e w' => e = .returned (.tuple #[.int .i64 v, .int .i64 er]) ∧ Below w.heap.size w w' := by
  obtain ⟨n, e, A, O⟩ := R
  have ca := fun w => rAmount_any s n e w hm A
  have ae := amount_er A
  unfold Fit64 at ae
  have O2 : ((e = 2 ∨ e = 5) ∧ v = 0 ∧ er = e) ∨ (e = 0 ∧ n < -999999999 ∧ v = 0 ∧ er = 2) ∨ (e = 0 ∧ -999999999 ≤ n ∧ 999999999 < n ∧ n ≤ 9223372036854775807 ∧ v = 0 ∧ er = 2) ∨ (e = 0 ∧ -999999999 ≤ n ∧ n ≤ 999999999 ∧ v = n ∧ er = 0) := by omega
  clear O ae A
  rcases O2 with ⟨rfl | rfl, rfl, rfl⟩ | ⟨rfl, n0, rfl, rfl⟩ | ⟨rfl, n0, n1, n2, rfl, rfl⟩ | ⟨rfl, n0, n1, rfl, rfl⟩
  all_goals
    go_enter Tryd.func19, Tryd.ntmps19
    go_wp2_with fail
    refine (ca _).mono ?_
    rintro e w1 ⟨rfl, hb⟩
    go_wp2
    go_ret2
    exact ⟨rfl, hb⟩

end Go.Proofs.YtfjckgnclhpmcaaDoor.Nr

/- LabelNumbers' walk. -/
namespace Go.Proofs.YtfjckgnclhpmcaaDoor.Nl
set_option linter.unusedSimpArgs false
set_option linter.unusedVariables false
open Go.RowKit Go.Proofs.YtfjckgnclhpmcaaDoor.Pr Go.Proofs.YtfjckgnclhpmcaaDoor.Nm Go.Proofs.YtfjckgnclhpmcaaDoor.Wm Go.Proofs.YtfjckgnclhpmcaaDoor.Wc Go.Proofs.YtfjckgnclhpmcaaDoor.Bx Go.Proofs.YtfjckgnclhpmcaaDoor.Fs Go.Proofs.YtfjckgnclhpmcaaDoor.Bn Go.Proofs.YtfjckgnclhpmcaaDoor.Np Go.Proofs.YtfjckgnclhpmcaaDoor.Nr

set_option maxHeartbeats 1000000

set_option maxRecDepth 100000 in
theorem numbers_walk (s : ByteArray) (w : World) (ws : s.size ≤ maxLen) (tb : Lev w) :
    Calls Tryd.prog 4 #[.string s] w fun e w' => e = .returned (.bool true) ∧ Below w.heap.size w w' := by
  have T := tb
  by_cases h : s.size ≤ 200
  · obtain ⟨v, e1, P1⟩ := amounta_ex s
    obtain ⟨n, e2, P2⟩ := smalla_ex s
    have c1 := fun w => Amount_any s v e1 w ws P1
    have c2 := fun w => rAmount_any s v e1 w h P1
    have c3 := fun w => Small_any s n e2 w ws P2
    have c4 := fun w => rSmall_any s n e2 w h P2
    have hI : (s.size : Int) ≤ 200 := by omega
    clear P1 P2 ws h
    go_enter Tryd.func4, Tryd.ntmps4
    go_wp2_with fail
    refine (nlive_ok _ T).mono ?_
    rintro e w1 ⟨rfl, B⟩
    go_wp2_with fail
    refine (c1 _).mono ?_
    rintro e w2 ⟨rfl, hb⟩
    replace B := bthen B hb
    clear hb
    go_wp2_with fail
    refine (c2 _).mono ?_
    rintro e w3 ⟨rfl, hb⟩
    replace B := bthen B hb
    clear hb
    go_wp2_with fail
    refine (c3 _).mono ?_
    rintro e w4 ⟨rfl, hb⟩
    replace B := bthen B hb
    clear hb
    go_wp2_with fail
    refine (c4 _).mono ?_
    rintro e w5 ⟨rfl, hb⟩
    replace B := bthen B hb
    clear hb
    go_wp2
    go_ret
    exact ⟨by simp, B⟩
  · have hI : (200 : Int) < (s.size : Int) := by omega
    clear h
    go_enter Tryd.func4, Tryd.ntmps4
    go_wp2_with fail
    refine (nlive_ok _ T).mono ?_
    rintro e w1 ⟨rfl, B⟩
    go_wp2
    go_ret
    exact ⟨rfl, B⟩

end Go.Proofs.YtfjckgnclhpmcaaDoor.Nl

