/- A token's text, and Join, by package lex. -/
import Derived.Test.YtabhbcedldjjjaaGreatDoorZmay
import Derived.Test.YtabhbcedldjjjaaGreatDoorZbuf
import Derived.Lib.LaidTab
import Derived.Lib.AppendIntMem
namespace Go.Proofs.YtabhbcedldjjjaaGreatDoor.Zp
set_option linter.unusedSimpArgs false
set_option linter.unusedVariables false
open Go.RowKit Go.Maps Go.Proofs.YtabhbcedldjjjaaGreatDoor.Zm Go.Proofs.YtabhbcedldjjjaaGreatDoor.Zr Go.Proofs.YtabhbcedldjjjaaGreatDoor.Bn Go.Proofs.YtabhbcedldjjjaaGreatDoor.Zk

set_option maxHeartbeats 1000000

/-- the library's table of powers of ten is there -/
structure Pows (W : World) : Prop where
  pow : Lib.TabIs Tryz.prog W "internal/strconv.uint64pow10" .u64 Lib.pow10Tab
theorem gPow : Tryz.prog.globalNamed "internal/strconv.uint64pow10" = some 1 := by kernel_rfl
theorem Pows.kept {W w1 : World} (p : Pows W) (hb : Below W.heap.size W w1) : Pows w1 := ⟨Joins.tab_stays gPow p.pow hb (Nat.le_refl _)⟩

/-- a token of whole numbers as one of natural numbers -/
def tokN (t : TkI) : Tk := ⟨t.k.toNat, t.a.toNat, t.n.toNat, by_ t.s⟩

theorem FineI.fine {t : TkI} (h : FineI t) : Fine (tokN t) := by
  obtain ⟨k, a, n, s⟩ := t
  rcases h with ⟨h1, h2, h3⟩ | ⟨h1, h2, h3, h4⟩ | ⟨h1, h2, h3⟩
  · simp only at h1 h2 h3; subst h1 h2; exact .inl ⟨rfl, rfl, h3⟩
  · simp only at h1 h2 h3 h4; subst h1 h2; exact .inr (.inl ⟨rfl, rfl, by simp only [tokN]; omega⟩)
  · simp only at h1 h2 h3; subst h2 h3
    refine .inr (.inr ⟨?_, rfl, rfl⟩)
    simp only [tokN]; omega

theorem by_mk (l : List UInt8) : by_ ⟨l.toArray⟩ = l := by simp [by_]

set_option maxRecDepth 100000 in
theorem textOf_any (k a n : Int) (s : ByteArray) (b : Nat) (w : World) (S : SgTexts w b) (P : Pows w) (hk64 : (Lit.int .i64 k).wf = true) (hf : Hid (FineI ⟨k, a, n, s⟩)) :
    Calls Tryz.prog 72 #[.agg #[.int .i64 k, .int .i64 a, .int .i64 n, .string s], .map (some b)] w fun e w' => e = .returned (.string ⟨(text (tokN ⟨k, a, n, s⟩)).toArray⟩) ∧ Below w.heap.size w w' := by
  have hF := hf.out
  by_cases h1 : k = 1
  · subst h1
    have Y : Hid (⟨(text (tokN ⟨1, a, n, s⟩)).toArray⟩ = s) := Lib.hid (by simp [text, tokN, by_])
    clear hF hf S P
    go_enter Tryz.func72, Tryz.ntmps72
    go_wp2_with fail
    go_ret
    exact ⟨by rw [Y.out]; rfl, balloc (Below.refl _ _) _⟩
  have e1 : (k == 1) = false := beq_eq_false_iff_ne.2 h1
  by_cases h2 : k = 2
  · subst h2
    have hn : 0 ≤ n ∧ n ≤ 999999999 := by simp [FineI] at hF; omega
    obtain ⟨n0, n9⟩ := hn
    have ci : ∀ w, Pows w → Calls Tryz.prog 34 #[.int .i64 n] w fun e w' => e = .returned (.string ⟨(text (tokN ⟨2, a, n, s⟩)).toArray⟩) ∧ Below w.heap.size w w' := fun w P =>
      (Tryz.strconv_Itoa n (by omega) (by omega) w P.pow).mono fun e w' ⟨x, q, os, y⟩ => ⟨by
        rw [x]
        have : Lib.itoa n = Lib.decDigits n.toNat := by simp [Lib.itoa, show ¬ n < 0 by omega]
        rw [this]; rfl, by subst y; exact Lib.below_grow _ w (Nat.le_refl _) q os⟩
    have hP : Pows (w.alloc (.cells #[.int .i64 2, .int .i64 a, .int .i64 n, .string s] 72)) := P.kept (balloc (Below.refl _ _) _)
    clear hF hf S
    go_enter Tryz.func72, Tryz.ntmps72
    go_wp2_with fail
    refine (ci _ hP).mono ?_
    rintro e w1 ⟨rfl, hb⟩
    go_wp2_with fail
    go_ret
    exact ⟨rfl, bthen (balloc (Below.refl _ _) _) hb⟩
  have e2 : (k == 2) = false := beq_eq_false_iff_ne.2 h2
  obtain ⟨D, hD, hat0⟩ := S
  have HD : (w.alloc (.cells #[.int .i64 k, .int .i64 a, .int .i64 n, .string s] 72)).ownsMap Tryz.prog 3 (plainElem Tryz.prog 9) b 3 D := hD.alloc _
  have h345 : k = 3 ∨ k = 4 ∨ k = 5 := by simp [FineI, h1, h2] at hF; exact hF.1
  have hsv : ∀ sv : ByteArray, D.atKey (.int .i64 k) (.lit (.string [])) = .lit (.string sv.data.toList) → sv = ⟨(text (tokN ⟨k, a, n, s⟩)).toArray⟩ := fun sv h => by
    rw [hat0 k] at h
    injection h with h; injection h with h
    apply ByteArray.ext
    rw [← Array.toList_inj, ← h]
    rcases h345 with rfl | rfl | rfl <;> simp [sgText, text, tokN]
  clear hF hf hat0 hD h345 h1 h2
  go_enter Tryz.func72, Tryz.ntmps72
  go_wp2_with (at_lookup; refine wpList_lookup_own_string _ rfl _ _ 114 rfl 3 9 lawI Tryz.underlying114 Tryz.underlying9 (zeroS _) b 3 D rfl HD _ _ rfl (keyOf_int_mk Tryz.underlying3 hk64) ?_; intro sv hat; obtain rfl := hsv sv hat)
  go_ret
  exact ⟨rfl, balloc (Below.refl _ _) _⟩

/-- the first k tokens -/
def toks (z : Nat → TkI) (k : Nat) : List Tk := (List.range k).map (fun i => tokN (z i))
theorem toks_succ (z : Nat → TkI) (k : Nat) : toks z (k + 1) = toks z k ++ [tokN (z k)] := by simp [toks, List.range_succ]
theorem toks_len (z : Nat → TkI) (k : Nat) : (toks z k).length = k := by simp [toks]
theorem toks_fine {z : Nat → TkI} {k : Nat} (h : ∀ i, i < k → FineI (z i)) : ∀ t ∈ toks z k, Fine t := by
  intro t ht
  obtain ⟨i, hi, rfl⟩ := List.mem_map.1 ht
  exact (h i (by simpa using hi)).fine
theorem join_succ (z : Nat → TkI) (k : Nat) : join (toks z (k + 1)) = if k = 0 then text (tokN (z k)) else join (toks z k) ++ 32 :: text (tokN (z k)) := by
  rw [toks_succ, join_snoc]
  by_cases h : k = 0
  · subst h; simp [toks]
  · rw [if_neg h, if_neg (by intro e; have := congrArg List.length e; rw [toks_len] at this; simp at this; exact h this)]

/-- what Join tells of n tokens -/
def JoinIs (n : Nat) (z : Nat → TkI) (t : List UInt8) (er : Nat) : Prop :=
  (er = 1 ∧ t = [] ∧ (8192 < n ∨ ∃ i, i < n ∧ ¬ FineI (z i))) ∨
  (n ≤ 8192 ∧ (∀ i, i < n → FineI (z i)) ∧ ((er = 6 ∧ t = [] ∧ 65536 < (join (toks z n)).length) ∨ (er = 0 ∧ t = join (toks z n) ∧ t.length ≤ 65536)))

theorem JoinIs.bad {n : Nat} {z : Nat → TkI} {t : List UInt8} {er : Nat} (h : JoinIs n z t er) (hb : 8192 < n ∨ ∃ i, i < n ∧ ¬ FineI (z i)) : t = [] ∧ er = 1 := by
  rcases h with ⟨h1, h2, _⟩ | ⟨h1, h2, _⟩
  · exact ⟨h2, h1⟩
  · rcases hb with hb | ⟨i, hi, hf⟩
    · omega
    · exact absurd (h2 i hi) hf

theorem Below.both {w W W' : World} (h : Below w.heap.size w W) (h' : Below w.heap.size W W') : Below w.heap.size w W' := h.trans h'

theorem SgTexts_oth {w w' : World} {b b0 : Nat} (h : SgTexts w b) (ho : Zb.Oth b0 w w') (hne : b ≠ b0) : SgTexts w' b := by
  obtain ⟨D, ⟨es, clock, hb0, F, hs, hD⟩, hat⟩ := h
  exact ⟨D, ⟨es, clock, ho b _ hb0 (by intro e; injection e with e; exact hne e) (by intro c fz e; cases e), F, hs, hD⟩, hat⟩

/-- a token's box, over a builder's writing -/
theorem box_oth {w w' : World} {g b0 : Nat} {a : Array Value} (h : w.heap[g]? = some (.cells a 72 (0, 0))) (ho : Zb.Oth b0 w w') (hne : g ≠ b0) : w'.heap[g]? = some (.cells a 72 (0, 0)) :=
  ho g _ h (by intro e; injection e with e; exact hne e) (by intro c fz e; injection e with _ e _; exact absurd e (by decide))

set_option maxRecDepth 100000 in
theorem Join_any (v : Value) (n : Nat) (z : Nat → TkI) (t : List UInt8) (er : Nat) (w : World) (T : TokAt w v n z) (P : Pows w) (hn : n ≤ 1000000) (hW : Hid (∀ i, i < n → (Lit.int .i64 (z i).k).wf = true ∧ (z i).s.size ≤ maxLen)) (hJ : Hid (JoinIs n z t er)) :
    Calls Tryz.prog 54 #[v] w fun e w' => e = .returned (.tuple #[.string ⟨t.toArray⟩, .int .i64 er]) ∧ Below w.heap.size w w' := by
  obtain ⟨ptr, cap, rfl, hT⟩ := T
  by_cases h81 : 8192 < n
  · have d1 : decide ((8192 : Int) < (n : Int)) = true := decide_eq_true (by omega)
    obtain ⟨rfl, rfl⟩ := hJ.out.bad (.inl h81)
    clear h81 hT hW hJ P
    go_enter Tryz.func54, Tryz.ntmps54
    go_wp2_with fail
    go_ret2
    exact ⟨rfl, Below.refl _ _⟩
  have d1 : decide ((8192 : Int) < (n : Int)) = false := decide_eq_false (by omega)
  have hn8 : n ≤ 8192 := by omega
  have cs := fun w => signTexts_any w
  have HT := Lib.hid hT
  clear h81 hT
  go_enter Tryz.func54, Tryz.ntmps54
  go_wp2_with fail
  have hB0 : Zb.Bu w.heap.size w.heap.size [] (w.alloc (.cells #[.pointer none, .slice none 0 0] 37)) := Lib.fresh_isBuilder _ _ _
  refine (cs _).mono ?_
  rintro e w1 ⟨bs, rfl, S, hbs, hb1⟩
  have B1 : Below w.heap.size w w1 := bthen (balloc (Below.refl _ _) _) hb1
  replace hB0 := hB0.kept hb1
  have P1 := P.kept B1
  rw [World.size_alloc] at hbs
  clear hb1 cs
  go_wp2_with fail
  go_loopw [14] (fun I wr => ∃ k : Nat, k ≤ n ∧ I = .int .i64 k ∧ Zb.Bu w.heap.size w.heap.size (join (toks z k)) wr ∧ SgTexts wr bs ∧ Pows wr ∧ Below w.heap.size w wr ∧ Hid (∀ i, i < k → FineI (z i))) (fun I _ => n - (intOf I).toNat)
  case atStart => exact ⟨0, by omega, rfl, hB0, S, P1, B1, Lib.hid (fun i hi => absurd hi (by omega))⟩
  case round =>
    clear hB0 S P1 B1
    obtain ⟨k, hk, rfl, hBu, S, P1, B1, HF⟩ := hrel
    by_cases hlt : k < n
    · obtain ⟨g, o, rfl, lg, hc⟩ := HT.out.resolve_left (by omega)
      obtain ⟨x0, x1, x2, x3⟩ := hc k hlt
      replace x0 := (B1.cell (p := ⟨g, _, none⟩) lg).trans x0
      replace x1 := (B1.cell (p := ⟨g, _, none⟩) lg).trans x1
      replace x2 := (B1.cell (p := ⟨g, _, none⟩) lg).trans x2
      replace x3 := (B1.cell (p := ⟨g, _, none⟩) lg).trans x3
      obtain ⟨wk, ws⟩ := hW.out k hlt
      have HZ : Hid (z k = ⟨(z k).k, (z k).a, (z k).n, (z k).s⟩) := Lib.hid rfl
      generalize (z k).k = xk at *
      generalize (z k).a = xa at *
      generalize (z k).n = xn at *
      generalize (z k).s = xs at *
      clear hc
      have lg' := Nat.lt_of_lt_of_le lg B1.size
      by_cases hf : FineI ⟨xk, xa, xn, xs⟩
      · have cm := fun w S => mayBe_any xk xa xn xs bs true w S ws wk (Lib.hid (by simp [hf]))
        have ct := fun w S P => textOf_any xk xa xn xs bs w S P wk (Lib.hid hf)
        have HF2 : Hid (∀ i, i < k + 1 → FineI (z i)) := Lib.hid (fun i hi => by
          rcases Nat.lt_or_ge i k with q | q
          · exact HF.out i q
          · obtain rfl : i = k := by omega
            rw [HZ.out]; exact hf)
        clear HF
        have HL : Hid (∀ t ∈ toks z k, Fine t) := Lib.hid (toks_fine (fun i hi => HF2.out i (by omega)))
        have HT2 : Hid (Fine (tokN ⟨xk, xa, xn, xs⟩)) := Lib.hid hf.fine
        have hst := text_len hf.fine
        have hsz : (⟨(text (tokN ⟨xk, xa, xn, xs⟩)).toArray⟩ : ByteArray).size = (text (tokN ⟨xk, xa, xn, xs⟩)).length := by simp [ByteArray.size]
        have HS : Hid ((⟨(text (tokN ⟨xk, xa, xn, xs⟩)).toArray⟩ : ByteArray).size ≤ 16) := Lib.hid (by rw [hsz]; exact hst)
        have S0 := S.lt
        have S1 : w.heap.size < bs := by omega
        clear hst hsz hf
        by_cases hk0 : k = 0
        · have d0 : decide (0 < k) = false := decide_eq_false (by omega)
          have H0 := Lib.hid hk0
          clear hk0
          go_wp2_with fail
          refine (cm _ (S.alloc _)).mono ?_
          rintro e w2 ⟨rfl, hb⟩
          have hbx : w2.heap[wr.heap.size]? = some (.cells #[.int .i64 xk, .int .i64 xa, .int .i64 xn, .string xs] 72 (0, 0)) := (hb.block _ (by simp)).trans (heap_alloc_new wr _)
          replace hBu := (hBu.kept (balloc (Below.refl _ _) (.cells #[.int .i64 xk, .int .i64 xa, .int .i64 xn, .string xs] 72))).kept hb
          replace S := (S.alloc (.cells #[.int .i64 xk, .int .i64 xa, .int .i64 xn, .string xs] 72)).kept hb
          have hgw : w.heap.size < wr.heap.size := by omega
          have B2 := bthen (balloc B1 _) hb
          clear hb B1 cm
          have t0 : w2.cell? ⟨wr.heap.size, 0, none⟩ = some (.int .i64 xk) := by rw [Lib.cell_of_heap hbx]; rfl
          have t1 : w2.cell? ⟨wr.heap.size, 1, none⟩ = some (.int .i64 xa) := by rw [Lib.cell_of_heap hbx]; rfl
          have t2 : w2.cell? ⟨wr.heap.size, 2, none⟩ = some (.int .i64 xn) := by rw [Lib.cell_of_heap hbx]; rfl
          have t3 : w2.cell? ⟨wr.heap.size, 3, none⟩ = some (.string xs) := by rw [Lib.cell_of_heap hbx]; rfl
          go_wp2_with fail
          refine (ct _ S (P.kept B2)).mono ?_
          rintro e w4 ⟨rfl, hb4⟩
          replace hBu := hBu.kept hb4
          replace S := S.kept hb4
          replace B2 := bthen B2 hb4
          clear hb4 ct t0 t1 t2 t3 hbx
          go_wp2_with fail
          have cv := fun h1 => Zb.WriteString_any w.heap.size w.heap.size _ ⟨(text (tokN ⟨xk, xa, xn, xs⟩)).toArray⟩ w4 hBu h1 B2.size
          refine (cv (by have := HS.out; have := join_len (toks z k) HL.out; rw [toks_len] at this; omega)).mono ?_
          rintro e w5 ⟨rfl, hBu, hb5, ho5⟩
          replace S := SgTexts_oth S ho5 (by omega)
          replace B2 := B2.trans hb5
          have P5 := P.kept B2
          have hBu5 : Zb.Bu w.heap.size w.heap.size (join (toks z (k + 1))) w5 := by
            rw [join_succ, HZ.out]
            rw [if_pos H0.out]; rw [H0.out] at hBu; simpa [toks, join] using hBu
          clear cv hb5 ho5 hBu
          go_wp2_with fail
          go_roundw
          case rel => exact ⟨k + 1, by omega, by go_num, hBu5, S, P5, B2, HF2⟩
          case measure => simp [intOf]; omega
        · have d0 : decide (0 < k) = true := decide_eq_true (by omega)
          have hk1 : 0 < k := by omega
          go_wp2_with fail
          refine (cm _ (S.alloc _)).mono ?_
          rintro e w2 ⟨rfl, hb⟩
          have hbx : w2.heap[wr.heap.size]? = some (.cells #[.int .i64 xk, .int .i64 xa, .int .i64 xn, .string xs] 72 (0, 0)) := (hb.block _ (by simp)).trans (heap_alloc_new wr _)
          replace hBu := (hBu.kept (balloc (Below.refl _ _) (.cells #[.int .i64 xk, .int .i64 xa, .int .i64 xn, .string xs] 72))).kept hb
          replace S := (S.alloc (.cells #[.int .i64 xk, .int .i64 xa, .int .i64 xn, .string xs] 72)).kept hb
          have hgw : w.heap.size < wr.heap.size := by omega
          have B2 := bthen (balloc B1 _) hb
          clear hb B1 cm
          have t0 : w2.cell? ⟨wr.heap.size, 0, none⟩ = some (.int .i64 xk) := by rw [Lib.cell_of_heap hbx]; rfl
          have t1 : w2.cell? ⟨wr.heap.size, 1, none⟩ = some (.int .i64 xa) := by rw [Lib.cell_of_heap hbx]; rfl
          have t2 : w2.cell? ⟨wr.heap.size, 2, none⟩ = some (.int .i64 xn) := by rw [Lib.cell_of_heap hbx]; rfl
          have t3 : w2.cell? ⟨wr.heap.size, 3, none⟩ = some (.string xs) := by rw [Lib.cell_of_heap hbx]; rfl
          go_wp2_with fail
          have cw := Zb.WriteByte_any w.heap.size w.heap.size (join (toks z k)) 32 w2 hBu (by have := join_len (toks z k) HL.out; rw [toks_len] at this; omega) B2.size
          rw [show (((32 : UInt8).toNat : Nat) : Int) = 32 from rfl] at cw
          refine cw.mono ?_
          rintro e w3 ⟨rfl, hBu, hb3, ho3⟩
          replace hbx := box_oth hbx ho3 (by omega)
          replace S := SgTexts_oth S ho3 (by omega)
          replace B2 := B2.trans hb3
          clear cw hb3 ho3 t0 t1 t2 t3
          have t0 : w3.cell? ⟨wr.heap.size, 0, none⟩ = some (.int .i64 xk) := by rw [Lib.cell_of_heap hbx]; rfl
          have t1 : w3.cell? ⟨wr.heap.size, 1, none⟩ = some (.int .i64 xa) := by rw [Lib.cell_of_heap hbx]; rfl
          have t2 : w3.cell? ⟨wr.heap.size, 2, none⟩ = some (.int .i64 xn) := by rw [Lib.cell_of_heap hbx]; rfl
          have t3 : w3.cell? ⟨wr.heap.size, 3, none⟩ = some (.string xs) := by rw [Lib.cell_of_heap hbx]; rfl
          go_wp2_with fail
          refine (ct _ S (P.kept B2)).mono ?_
          rintro e w4 ⟨rfl, hb4⟩
          replace hBu := hBu.kept hb4
          replace S := S.kept hb4
          replace B2 := bthen B2 hb4
          clear hb4 ct t0 t1 t2 t3 hbx
          go_wp2_with fail
          have cv := fun h1 => Zb.WriteString_any w.heap.size w.heap.size _ ⟨(text (tokN ⟨xk, xa, xn, xs⟩)).toArray⟩ w4 hBu h1 B2.size
          refine (cv (by have := HS.out; have := join_len (toks z k) HL.out; rw [toks_len] at this; rw [List.length_append]; simp; omega)).mono ?_
          rintro e w5 ⟨rfl, hBu, hb5, ho5⟩
          replace S := SgTexts_oth S ho5 (by omega)
          replace B2 := B2.trans hb5
          have P5 := P.kept B2
          have hBu5 : Zb.Bu w.heap.size w.heap.size (join (toks z (k + 1))) w5 := by
            rw [join_succ, HZ.out]
            rw [if_neg hk0]; simpa using hBu
          clear cv hb5 ho5 hBu
          go_wp2_with fail
          go_roundw
          case rel => exact ⟨k + 1, by omega, by go_num, hBu5, S, P5, B2, HF2⟩
          case measure => simp [intOf]; omega
      · have cm := fun w S => mayBe_any xk xa xn xs bs false w S ws wk (Lib.hid (by simp [hf]))
        obtain ⟨rfl, rfl⟩ := hJ.out.bad (.inr ⟨k, hlt, by rw [HZ.out]; exact hf⟩)
        clear hf
        go_wp2_with fail
        refine (cm _ (S.alloc _)).mono ?_
        rintro e w2 ⟨rfl, hb⟩
        have B2 := bthen (balloc B1 _) hb
        go_wp2_with fail
        go_ret2
        exact ⟨rfl, B2⟩
    · obtain rfl : k = n := by omega
      have hJ' := hJ.out
      have hl := Lib.byteCells_length (join (toks z k))
      obtain ⟨L, hL⟩ : ∃ L, (Lib.byteCells (join (toks z k))).length = L := ⟨_, rfl⟩
      have cl := Tryz.Builder_Len w.heap.size w.heap.size _ wr hBu
      rw [hL] at cl hl
      have cg := Tryz.Builder_String_any w.heap.size w.heap.size (join (toks z k)) wr hBu B1.size
      have hf := HF.out
      by_cases h65 : 65536 < L
      · have d5 : decide ((65536 : Int) < (L : Int)) = true := decide_eq_true (by omega)
        have hte : t = [] ∧ er = 6 := by
          rcases hJ' with ⟨h1, h2, h3⟩ | ⟨h1, h2, ⟨h3, h4, _⟩ | ⟨h3, h4, h5⟩⟩
          · rcases h3 with h3 | ⟨i, hi, h3⟩
            · omega
            · exact absurd (hf i hi) h3
          · exact ⟨h4, h3⟩
          · rw [← h4] at hl; omega
        obtain ⟨rfl, rfl⟩ := hte
        clear hJ' hl hL hf HF h65 hJ
        go_wp2_with fail
        refine cl.mono ?_
        rintro e w2 ⟨rfl, rfl⟩
        go_wp2_with fail
        go_ret2
        exact ⟨rfl, B1⟩
      · have d5 : decide ((65536 : Int) < (L : Int)) = false := decide_eq_false (by omega)
        have hte : t = join (toks z k) ∧ er = 0 := by
          rcases hJ' with ⟨h1, h2, h3⟩ | ⟨h1, h2, ⟨h3, h4, h5⟩ | ⟨h3, h4, h5⟩⟩
          · rcases h3 with h3 | ⟨i, hi, h3⟩
            · omega
            · exact absurd (hf i hi) h3
          · omega
          · exact ⟨h4, h3⟩
        obtain ⟨h4, rfl⟩ := hte
        rw [← h4] at cg
        clear hJ' hl hL hf HF h65 hJ h4
        go_wp2_with fail
        refine cl.mono ?_
        rintro e w2 ⟨rfl, rfl⟩
        go_wp2_with fail
        refine cg.mono ?_
        rintro e w3 ⟨rfl, hb3⟩
        go_wp2_with fail
        go_ret2
        exact ⟨rfl, B1.trans hb3⟩

end Go.Proofs.YtabhbcedldjjjaaGreatDoor.Zp
