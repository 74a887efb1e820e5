/- The map of signs of package lex, and what kindOf tells. -/
import Derived.Test.YtabhbcedldjjjaaGreatDoorJZ
import Derived.Maps.StringElems
import Derived.Maps.OwnOps
import Derived.Test.YtabhbcedldjjjaaGreatDoorZrow
namespace Go.Proofs.YtabhbcedldjjjaaGreatDoor.Zp
set_option linter.unusedSimpArgs false
set_option linter.unusedVariables false
open Go.RowKit Go.Maps Go.Proofs.YtabhbcedldjjjaaGreatDoor.Zm Go.Proofs.YtabhbcedldjjjaaGreatDoor.Zr

set_option maxHeartbeats 1000000

/-- a literal's entry -/
theorem wpList_insert_own {H : Type} {P : Program} (w : World) {ops : Array Oper} {rest : List Oper} {o : Oper} {a : Act} {Q : Exit → Act → World → Prop}
    (hg : o.guard = none) (m x v : Operand) (t : TypeId) (hop : o.op = Op.insert t m x v)
    (k e : TypeId) (K : Keyed P k) (ht : P.underlying t = some (.map k e)) (R : Value → Option (DataW H × List MemPlace)) (b n : Nat) (D : DataW H)
    (hm : a.eval m = .map (some b)) (hown : w.ownsMap P k R b n D) (hn : n < maxLen) (key val : Value) (kl : Lit) (hx : a.eval x = key) (hv : a.eval v = val) (hkey : keyOf P k key = some kl)
    (d : DataW H) (ps : List MemPlace) (hval : R val = some (d, ps))
    (hK : ∀ w', w'.ownsMap P k R b (n + 1) (D.put kl d) → w.grownBy w' (some b) → wpList P ops Q rest (a.put o.dst undef) w') :
    wpList P ops Q (o :: rest) a w := by
  refine wpList_plain hg fun K' hK' => ?_
  obtain ⟨w', hrun, r1, r2⟩ := hown.update K ht hn hkey hval
  unfold Oper.wp
  simp [execOp, hop, hm, hx, hv, hrun, Result.andThen]
  exact hK' _ _ (hK w' r1 r2)

/-- a look-up at elements that are texts -/
theorem wpList_lookup_own_string {H : Type} {P : Program} (w : World) {ops : Array Oper} {rest : List Oper} {o : Oper} {a : Act} {Q : Exit → Act → World → Prop}
    (hg : o.guard = none) (m x : Operand) (t : TypeId) (hop : o.op = Op.lookup t m x false)
    (k e : TypeId) (K : Keyed P k) (ht : P.underlying t = some (.map k e)) (he : P.underlying e = some .string) (hz : (zeroValue e).run P w = .ok (.string ⟨#[]⟩) w) (b n : Nat) (D : DataW H)
    (hm : a.eval m = .map (some b)) (hown : w.ownsMap P k (plainElem P e) b n D) (key : Value) (kl : Lit) (hx : a.eval x = key) (hkey : keyOf P k key = some kl)
    (hK : ∀ s : ByteArray, D.atKey kl (.lit (.string [])) = .lit (.string s.data.toList) → wpList P ops Q rest (a.put o.dst (.string s)) w) :
    wpList P ops Q (o :: rest) a w := by
  refine wpList_plain hg fun K' hK' => ?_
  obtain ⟨v, ps, hrun, hv⟩ := hown.lookup K ht hz (plainElem_string he (show (⟨#[]⟩ : ByteArray).size ≤ maxLen by decide)) hkey
  obtain ⟨s, rfl, hs, hws⟩ := plainElem_string_inv he hv
  unfold Oper.wp
  simp [execOp, hop, hm, hx, hrun, Result.andThen]
  exact hK' _ _ (hK s (by simpa using (Prod.mk.inj hs).1))

theorem law8 : Keyed Tryz.prog 5 := int_keyed Tryz.underlying5
theorem lawI : Keyed Tryz.prog 3 := int_keyed Tryz.underlying3
theorem zeroI (w : World) : (zeroValue 3).run Tryz.prog w = .ok (.int .i64 0) w := by kernel_rfl
theorem zeroS (w : World) : (zeroValue 9).run Tryz.prog w = .ok (.string ⟨#[]⟩) w := by kernel_rfl

/-- what the map of signs reads as -/
def signD : DataW Unit := .map [(.int .u8 59, .lit (.int .i64 5)), (.int .u8 123, .lit (.int .i64 3)), (.int .u8 125, .lit (.int .i64 4))]

/-- a block that is the map of signs -/
def Signs (w : World) (b : Nat) : Prop := w.ownsMap Tryz.prog 5 (plainElem Tryz.prog 3) b 3 signD

theorem Signs.lt {w : World} {b : Nat} (h : Signs w b) : b < w.heap.size := World.ownsMap.lt h
theorem Signs.kept {w w' : World} {b : Nat} (h : Signs w b) (hb : Below w.heap.size w w') : Signs w' b := by
  have hl := h.lt
  obtain ⟨es, clock, hb0, F, hs, hD⟩ := h
  exact ⟨es, clock, (hb.block b hl).trans hb0, F, hs, hD⟩
theorem Signs.alloc {w : World} {b : Nat} (h : Signs w b) (o : Obj) : Signs (w.alloc o) b := World.ownsMap.alloc h o

theorem Signs.grown {EL : TypeId} {base n z : Nat} {v : Value} {xs : List Value} {W W2 : World} {b : Nat} (h : Signs W b) (hw : W.ownsRow base EL z v n xs) (r1 : W.grownBy W2 v.ownBlock) : Signs W2 b := by
  obtain ⟨es, clock, hb0, F, hs, hD⟩ := h
  exact ⟨es, clock, Zk.keeps_other hw hb0 (by intro c T r e; cases e) r1, F, hs, hD⟩

theorem u8_of (c : UInt8) (n : Nat) : ((Lit.int .u8 n).sameKey (.int .u8 (c.toNat : Int))) = decide (c.toNat = n) := by
  simp [Lit.sameKey]; omega

theorem signD_at (c : UInt8) : signD.atKey (.int .u8 (c.toNat : Int)) (.lit (.int .i64 0)) = .lit (.int .i64 (sign c : Nat)) := by
  have e1 := u8_of c 59
  have e2 := u8_of c 123
  have e3 := u8_of c 125
  unfold sign
  by_cases h1 : c.toNat = 59
  · simp [h1, signD, DataW.atKey, Lit.sameKey]
  · by_cases h2 : c.toNat = 123
    · simp [h2, signD, DataW.atKey, Lit.sameKey]
    · by_cases h3 : c.toNat = 125
      · simp [h3, signD, DataW.atKey, Lit.sameKey]
      · have a1 : ¬ ((59 : Int) = c.toNat) := by omega
        have a2 : ¬ ((123 : Int) = c.toNat) := by omega
        have a3 : ¬ ((125 : Int) = c.toNat) := by omega
        simp [h1, h2, h3, a1, a2, a3, signD, DataW.atKey, Lit.sameKey]

def SignsRes (w : World) (e : Ending) (w' : World) : Prop := ∃ b, e = .returned (.map (some b)) ∧ Signs w' b ∧ w.heap.size ≤ b ∧ Below w.heap.size w w'

set_option maxRecDepth 100000 in
theorem signKinds_any (w : World) : Calls Tryz.prog 42 #[] w fun e w' => SignsRes w e w' := by
  have hmm := @run_makeMap Tryz.prog
  go_enter Tryz.func42, Tryz.ntmps42
  have hown0 : (w.alloc (.map #[] 0)).ownsMap Tryz.prog 5 (plainElem (H := Unit) Tryz.prog 3) w.heap.size 0 (.map []) := World.ownsMap_made _ _ _ _
  go_wp2_with (first
    | (refine wpList_insert_own _ rfl _ _ _ 92 rfl 5 3 law8 Tryz.underlying92 _ w.heap.size 2 _ rfl hown2 (by unfold maxLen; omega) _ _ _ rfl rfl (keyOf_int_mk Tryz.underlying5 (by decide)) _ [] (plainElem_int Tryz.underlying3 (by decide)) ?_; intro w3 hown3 hgr3)
    | (refine wpList_insert_own _ rfl _ _ _ 92 rfl 5 3 law8 Tryz.underlying92 _ w.heap.size 1 _ rfl hown1 (by unfold maxLen; omega) _ _ _ rfl rfl (keyOf_int_mk Tryz.underlying5 (by decide)) _ [] (plainElem_int Tryz.underlying3 (by decide)) ?_; intro w2 hown2 hgr2)
    | (refine wpList_insert_own _ rfl _ _ _ 92 rfl 5 3 law8 Tryz.underlying92 _ w.heap.size 0 _ rfl hown0 (by unfold maxLen; omega) _ _ _ rfl rfl (keyOf_int_mk Tryz.underlying5 (by decide)) _ [] (plainElem_int Tryz.underlying3 (by decide)) ?_; intro w1 hown1 hgr1))
  go_ret
  exact ⟨_, rfl, hown3, Nat.le_refl _, ((((Below.refl _ _).alloc (Nat.le_refl _) _).grown hgr1 (by simp) (fun j hj => by cases hj; exact Nat.le_refl _)).grown hgr2 (by have := hgr1.size; simp at this; omega) (fun j hj => by cases hj; exact Nat.le_refl _)).grown hgr3 (by have := hgr1.size; have := hgr2.size; simp at *; omega) (fun j hj => by cases hj; exact Nat.le_refl _)⟩

set_option maxRecDepth 100000 in
theorem kindOf_any (c : UInt8) (b : Nat) (w : World) (S : Signs w b) : Calls Tryz.prog 44 #[.int .u8 c.toNat, .map (some b)] w fun e w' => e = .returned (.int .i64 (kindB c : Nat)) ∧ w = w' := by
  have cl := isLetter_any c
  have cd := isDigit_any c
  have hs := signD_at c
  have hw8 : (Lit.int .u8 (c.toNat : Int)).wf = true := WalkArith.wf_u8 ⟨by omega, by have := c.toNat_lt; omega⟩
  cases h1 : letter c with
  | true =>
    rw [h1] at cl
    have HK := Lib.hid (kindB_letter h1)
    clear h1 hs
    go_enter Tryz.func44, Tryz.ntmps44
    go_wp2_with fail
    refine (cl _).mono ?_
    rintro e w' ⟨rfl, rfl⟩
    go_wp2_with fail
    go_ret
    exact ⟨by rw [HK.out]; rfl, rfl⟩
  | false =>
    rw [h1] at cl
    cases h2 : digit c with
    | true =>
      rw [h2] at cd
      have HK := Lib.hid (kindB_digit h2)
      clear h1 h2 hs
      go_enter Tryz.func44, Tryz.ntmps44
      go_wp2_with fail
      refine (cl _).mono ?_
      rintro e w' ⟨rfl, rfl⟩
      go_wp2_with fail
      refine (cd _).mono ?_
      rintro e w' ⟨rfl, rfl⟩
      go_wp2_with fail
      go_ret
      exact ⟨by rw [HK.out]; rfl, rfl⟩
    | false =>
      rw [h2] at cd
      have HK : Hid (kindB c = sign c) := Lib.hid (by unfold kindB sign; rw [h1, h2]; simp)
      have HS := Lib.hid hs
      clear h1 h2 hs
      go_enter Tryz.func44, Tryz.ntmps44
      go_wp2_with fail
      refine (cl _).mono ?_
      rintro e w' ⟨rfl, rfl⟩
      go_wp2_with fail
      refine (cd _).mono ?_
      rintro e w' ⟨rfl, rfl⟩
      go_wp2_with (at_lookup; refine wpList_lookup_own_int _ rfl _ _ 92 rfl 5 3 .i64 law8 Tryz.underlying92 Tryz.underlying3 (zeroI _) b 3 signD rfl S _ _ rfl (keyOf_int_mk Tryz.underlying5 hw8) ?_; intro k hat hwk)
      go_ret
      rw [HS.out] at hat
      exact ⟨by rw [HK.out]; injection hat with h; injection h with _ h; rw [h]; rfl, rfl⟩

/-! ## The texts of signs, by their kinds -/
def sgText (k : Int) : List UInt8 := if k = 3 then [123] else if k = 4 then [125] else if k = 5 then [59] else []

/-- a block that is the map of signs' texts -/
def SgTexts (w : World) (b : Nat) : Prop := ∃ D : DataW Unit, w.ownsMap Tryz.prog 3 (plainElem Tryz.prog 9) b 3 D ∧ ∀ k : Int, D.atKey (.int .i64 k) (.lit (.string [])) = .lit (.string (sgText k))

theorem SgTexts.lt {w : World} {b : Nat} (h : SgTexts w b) : b < w.heap.size := by obtain ⟨D, h, _⟩ := h; exact World.ownsMap.lt h
theorem SgTexts.kept {w w' : World} {b : Nat} (h : SgTexts w b) (hb : Below w.heap.size w w') : SgTexts w' b := by
  have hl := h.lt
  obtain ⟨D, ⟨es, clock, hb0, F, hs, hD⟩, hat⟩ := h
  exact ⟨D, ⟨es, clock, (hb.block b hl).trans hb0, F, hs, hD⟩, hat⟩
theorem SgTexts.alloc {w : World} {b : Nat} (h : SgTexts w b) (o : Obj) : SgTexts (w.alloc o) b := by
  obtain ⟨D, h, hat⟩ := h; exact ⟨D, World.ownsMap.alloc h o, hat⟩

/-- what is in the texts, while signs are still to come -/
def part (left : Lit → Bool) (k : Int) : List UInt8 :=
  if k = 3 ∧ left (.int .u8 123) = false then [123] else if k = 4 ∧ left (.int .u8 125) = false then [125] else if k = 5 ∧ left (.int .u8 59) = false then [59] else []

theorem part_start (k : Int) : part (Maps.has signD) k = [] := by
  have h1 : Maps.has signD (.int .u8 123) = true := by decide
  have h2 : Maps.has signD (.int .u8 125) = true := by decide
  have h3 : Maps.has signD (.int .u8 59) = true := by decide
  unfold part; simp [h1, h2, h3]

theorem part_end (left : Lit → Bool) (h : ∀ kl, left kl = false) (k : Int) : part left k = sgText k := by
  unfold part sgText; simp [h]

theorem same_u8 (x y : Int) : (Lit.int .u8 x).sameKey (.int .u8 y) = decide (x = y) := by simp [Lit.sameKey]

theorem signD_key {x c : Int} (h : ∀ zd, signD.atKey (.int .u8 x) zd = .lit (.int .i64 c)) : (x = 59 ∧ c = 5) ∨ (x = 123 ∧ c = 3) ∨ (x = 125 ∧ c = 4) := by
  have h := h .nil
  by_cases h1 : x = 59
  · subst h1; simp [signD, DataW.atKey, Lit.sameKey] at h; exact .inl ⟨rfl, h.symm⟩
  · by_cases h2 : x = 123
    · subst h2; simp [signD, DataW.atKey, Lit.sameKey] at h; exact .inr (.inl ⟨rfl, h.symm⟩)
    · by_cases h3 : x = 125
      · subst h3; simp [signD, DataW.atKey, Lit.sameKey] at h; exact .inr (.inr ⟨rfl, h.symm⟩)
      · have a1 : ¬ ((59 : Int) = x) := by omega
        have a2 : ¬ ((123 : Int) = x) := by omega
        have a3 : ¬ ((125 : Int) = x) := by omega
        simp [a1, a2, a3, signD, DataW.atKey, Lit.sameKey] at h

theorem part_step {left : Lit → Bool} {D : DataW Unit} {x c : Int} (h : ∀ k : Int, D.atKey (.int .i64 k) (.lit (.string [])) = .lit (.string (part left k)))
    (hx : (x = 59 ∧ c = 5) ∨ (x = 123 ∧ c = 3) ∨ (x = 125 ∧ c = 4)) (hD : IsMap D) (k : Int) :
    (D.put (.int .i64 c) (.lit (.string [UInt8.ofNat x.toNat]))).atKey (.int .i64 k) (.lit (.string [])) = .lit (.string (part (fun z => left z && !z.sameKey (.int .u8 x)) k)) := by
  by_cases hk : k = c
  · subst hk
    rw [atKey_put_same hD (by trivial)]
    rcases hx with ⟨rfl, rfl⟩ | ⟨rfl, rfl⟩ | ⟨rfl, rfl⟩ <;> simp [part, same_u8] <;> decide
  · rw [atKey_put_other (by intro e; injection e with _ e; exact hk e), h k]
    rcases hx with ⟨rfl, rfl⟩ | ⟨rfl, rfl⟩ | ⟨rfl, rfl⟩ <;> simp [part, same_u8, hk]

def SgRes (w : World) (e : Ending) (w' : World) : Prop := ∃ b, e = .returned (.map (some b)) ∧ SgTexts w' b ∧ w.heap.size ≤ b ∧ Below w.heap.size w w'

set_option maxRecDepth 100000 in
theorem signTexts_any (w : World) : Calls Tryz.prog 70 #[] w fun e w' => SgRes w e w' := by
  have hmm := @run_makeMap Tryz.prog
  have ck := fun w => signKinds_any w
  go_enter Tryz.func70, Tryz.ntmps70
  go_wp2_with fail
  refine (ck _).mono ?_
  rintro e w1 ⟨b, rfl, S, hb, hB⟩
  have hown0 : (w.alloc (.map #[] 0)).ownsMap Tryz.prog 3 (plainElem (H := Unit) Tryz.prog 9) w.heap.size 0 (.map []) := World.ownsMap_made _ _ _ _
  go_wp2_with (at_range; refine wpList_range_own _ rfl _ 92 rfl 5 3 law8 Tryz.underlying92 _ b 3 signD rfl S ?_; intro w2 hrg hg hs2)
  go_frame
  simp only [World.size_alloc] at hb hB
  have hz1 : w.heap.size + 1 ≤ w1.heap.size := by have := hB.size; simpa using this
  have hown2 : w2.ownsMap Tryz.prog 3 (plainElem (H := Unit) Tryz.prog 9) w.heap.size 0 (.map []) := by
    obtain ⟨es, clock, hb0, F, hs, hD⟩ := hown0
    exact World.ownsMap.kept ⟨es, clock, (hB.block _ (by simp)).trans hb0, F, hs, hD⟩ hg (by simp)
  have hB2 : Below w.heap.size w w2 := (((Below.refl _ w).alloc (Nat.le_refl _) _).trans (hB.mono (by omega))).grown hg (by omega) (fun j hj => by cases hj)
  have hsz : Maps.size signD = 3 := by rfl
  rw [hsz] at hrg
  have hz2 : w1.heap.size < w2.heap.size := by omega
  clear hown0 hB hg hs2 hsz S
  obtain ⟨r, hr⟩ : ∃ r, w1.heap.size = r := ⟨_, rfl⟩
  rw [hr] at hrg hz1 hz2 ⊢
  clear hr
  go_loopw [2] (fun _ wr => ∃ (left : Lit → Bool) (cnt n : Nat) (D2 : DataW Unit), wr.ranges Tryz.prog 5 (plainElem Tryz.prog 3) b r 3 signD left cnt ∧ wr.ownsMap Tryz.prog 3 (plainElem Tryz.prog 9) w.heap.size n D2 ∧ n + cnt ≤ 3 ∧
    Hid (∀ k : Int, D2.atKey (.int .i64 k) (.lit (.string [])) = .lit (.string (part left k))) ∧ Below w.heap.size w wr) (fun _ wr => wr.rangeLeft b r)
  case atStart => exact ⟨_, _, 0, _, hrg, hown2, by omega, Lib.hid (fun k => by rw [part_start]; rfl), hB2⟩
  case round =>
    clear hrg hown2 hB2
    obtain ⟨left, cnt, n, D2, hrg, hown, hn, HP, hB⟩ := hrel
    have hle := hrg.left_eq
    have HL := Lib.hid hle
    clear hle
    go_wp2_with (at_next; refine wpList_next_ranges_ii _ rfl _ rfl 5 3 .u8 .i64 law8 Tryz.underlying5 Tryz.underlying3 b r 3 _ _ _ rfl hrg ?_ ?_)
    · intro hc0 hl0
      have Y : Hid (SgTexts wr w.heap.size) := Lib.hid ⟨D2, hown.mono (by omega), fun k => by rw [HP.out k, part_end left hl0]⟩
      clear hl0
      go_wp2_with fail
      go_ret
      exact ⟨_, rfl, Y.out, Nat.le_refl _, hB⟩
    · intro x c w3 cnt3 hwx hwc hlx hat hrg3 hlt hg3 hs3 hen
      have hx := signD_key hat
      have hown3 := hown.kept hg3 (by simp; omega)
      have hB3 : Below w.heap.size w w3 := hB.grown hg3 hB.size (fun j hj => by cases hj; omega)
      have hc2 : 0 ≤ c ∧ c ≤ 5 := by omega
      have hx2 : 0 ≤ x ∧ x ≤ 127 := by omega
      have e1 : ∀ w, (convert 5 21 (.int .u8 x)).run Tryz.prog w = .ok (.int .i32 x) w := fun w => by
        rcases hx with ⟨rfl, _⟩ | ⟨rfl, _⟩ | ⟨rfl, _⟩ <;> kernel_rfl
      have e2 : ∀ w, (convert 21 9 (.int .i32 x)).run Tryz.prog w = .ok (.string ⟨#[UInt8.ofNat x.toNat]⟩) w := fun w => by
        rcases hx with ⟨rfl, _⟩ | ⟨rfl, _⟩ | ⟨rfl, _⟩ <;> kernel_rfl
      have HX := Lib.hid hx
      have hn3 : n + cnt3 + 1 ≤ 3 := by omega
      clear hx hlx hown hrg hn
      go_wp2_with (at_mapUpdate; refine wpList_mapUpdate_own _ rfl _ _ _ 114 rfl 3 9 lawI Tryz.underlying114 _ w.heap.size n _ rfl hown3 (by unfold maxLen; omega) _ _ _ rfl rfl (keyOf_int_mk Tryz.underlying3 hwc) _ [] (plainElem_string Tryz.underlying9 (show (⟨#[UInt8.ofNat x.toNat]⟩ : ByteArray).size ≤ maxLen by show 1 ≤ maxLen; unfold maxLen; omega)) ?_; intro w4 hown4 hg4)
      have hrg4 := hrg3.kept hg4 (by simp; omega) (by simp; omega)
      have hB4 : Below w.heap.size w w4 := hB3.grown hg4 hB3.size (fun j hj => by cases hj; exact Nat.le_refl _)
      have HM := Lib.hid hrg4.left_eq
      have HR := Lib.hid hrg4
      have HO := Lib.hid hown4
      have HP4 : Hid (∀ k : Int, (D2.put (.int .i64 c) (.lit (.string [UInt8.ofNat x.toNat]))).atKey (.int .i64 k) (.lit (.string [])) = .lit (.string (part (fun z => left z && !z.sameKey (.int .u8 x)) k))) := Lib.hid (part_step HP.out HX.out hown3.isMap)
      clear hrg4 hown4 hrg3 hown3 hat hen
      go_roundw
      case rel => exact ⟨_, cnt3, HR.out, n + 1, _, HO.out, by omega, HP4, hB4⟩
      case measure => rw [HM.out, HL.out]; exact hlt

end Go.Proofs.YtabhbcedldjjjaaGreatDoor.Zp
