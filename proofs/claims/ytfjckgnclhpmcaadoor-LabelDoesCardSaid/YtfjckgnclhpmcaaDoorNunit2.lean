/- What unitOf and Parse of package label come to. -/
import Derived.Test.YtfjckgnclhpmcaaDoorNunit
namespace Go.Proofs.YtfjckgnclhpmcaaDoor.Np
set_option linter.unusedSimpArgs false
set_option linter.unusedVariables false
open Go.RowKit Go.Proofs.YtfjckgnclhpmcaaDoor.Pr Go.Proofs.YtfjckgnclhpmcaaDoor.Nm Go.Proofs.YtfjckgnclhpmcaaDoor.Wm Go.Proofs.YtfjckgnclhpmcaaDoor.Wc Go.Proofs.YtfjckgnclhpmcaaDoor.Bx Go.Proofs.YtfjckgnclhpmcaaDoor.Fs Go.Proofs.YtfjckgnclhpmcaaDoor.Bn
open Go.Proofs.YtfjckgnclhpmcaaDoor.Tm (s4 s2 s1 s4_size)

set_option maxHeartbeats 1000000

/-- a unit's text, or none -/
def UnitA (s : ByteArray) (L y i : Int) (b : Bool) : Prop := (b = true ∧ Go.Proofs.YtfjckgnclhpmcaaDoor.Nm.Form s L y i) ∨ (b = false ∧ (∀ M z j, ¬ Go.Proofs.YtfjckgnclhpmcaaDoor.Nm.Form s M z j) ∧ L = 0 ∧ y = 0 ∧ i = 0)
/-- why a level's round goes on: what is cut off, whether it was there, and what does not fit -/
theorem no_match {t : ByteArray} {L : Int} (h : ¬ Match t L) : ∃ r b, CutA t (sgn L) r b ∧ (b = false ∨ (b = true ∧ ((r.size : Int) != (dgc L : Nat)) = true) ∨ (b = true ∧ ((r.size : Int) != (dgc L : Nat)) = false ∧ ¬ AllDig r)) := by
  obtain ⟨r, b, R⟩ := cuta_ex t (sgn L)
  refine ⟨r, b, R, ?_⟩
  rcases R with ⟨rfl, e⟩ | ⟨rfl, _⟩
  · by_cases z : r.size = dgc L
    · refine .inr (.inr ⟨rfl, by rw [z]; simp, fun d => h ⟨r, e, z, d⟩⟩)
    · exact .inr (.inl ⟨rfl, bne_iff_ne.2 (by omega)⟩)
  · exact .inl rfl
theorem cut_size {t p r : ByteArray} {b : Bool} (h : CutA t p r b) : r.size ≤ t.size := by
  rcases h with ⟨_, rfl⟩ | ⟨_, rfl, _⟩
  · rw [ByteArray.size_append]; omega
  · exact Nat.le_refl _

set_option maxRecDepth 100000 in
theorem unitOf_none (s : ByteArray) (w : World) (hm : s.size ≤ maxLen) (h : s.size < 4 ∨ (4 ≤ s.size ∧ ¬ AllDig (hd4 s))) :
    Calls Tryd.prog 26 #[.string s] w fun e w' => e = .returned (.tuple #[.agg #[.int .i64 0, .int .i64 0, .int .i64 0], .bool false]) ∧ Below w.heap.size w w' := by
  have K := Tri.new w (.int .i64 0) (.int .i64 0) (.int .i64 0) 23
  have B := balloc (Below.refl _ w) (.cells #[.int .i64 0, .int .i64 0, .int .i64 0] 23)
  unfold maxLen at hm
  rcases h with h | ⟨h, nd⟩
  · go_enter Tryd.func26, Tryd.ntmps26
    go_upto_region 1 with fail
    generalize w.alloc (.cells #[.int .i64 0, .int .i64 0, .int .i64 0] 23) = W0 at *
    obtain ⟨_, k0, k1, k2, f0, f1, f2⟩ := id K
    go_wp2
    refine bodyPost_ret (v := .tuple #[.agg #[.int .i64 0, .int .i64 0, .int .i64 0], .bool false]) (by simp [results, Tryd.results26, go_sem, *]) rfl ⟨rfl, ?_⟩
    exact bset (bset (bset B (Nat.le_refl _) _ _) (Nat.le_refl _) _ _) (Nat.le_refl _) _ _
  · have z := hd_size h
    have ca := fun w => areDigits_any (hd4 s) false w (by rw [z]; unfold maxLen; omega) (.inr ⟨rfl, nd⟩)
    have e1 : ∀ w, (Instr.slice 9 (.string s) none (some (.int .i64 4)) none).run Tryd.prog w = .ok (.string (hd4 s)) w := fun w => by
      rw [run_slice_string_to_if _ _ _ _ _ Tryd.underlying9, if_pos ⟨by omega, by omega⟩]; rfl
    clear z nd
    generalize hd4 s = r at *
    go_enter Tryd.func26, Tryd.ntmps26
    go_upto_region 1 with fail
    generalize w.alloc (.cells #[.int .i64 0, .int .i64 0, .int .i64 0] 23) = W0 at *
    go_wp2_with fail
    refine (ca _).mono ?_
    rintro e w1 ⟨rfl, hb⟩
    replace K := K.kept hb
    obtain ⟨_, k0, k1, k2, f0, f1, f2⟩ := id K
    go_wp2
    refine bodyPost_ret (v := .tuple #[.agg #[.int .i64 0, .int .i64 0, .int .i64 0], .bool false]) (by simp [results, Tryd.results26, go_sem, *]) rfl ⟨rfl, ?_⟩
    exact bset (bset (bset (bthen B hb) (Nat.le_refl _) _ _) (Nat.le_refl _) _ _) (Nat.le_refl _) _ _

set_option maxRecDepth 100000 in
theorem unitOf_some (s : ByteArray) (L y i : Int) (b : Bool) (w : World) (hm : s.size ≤ maxLen) (h4 : 4 ≤ s.size) (ad : AllDig (hd4 s)) (R : UnitA s L y i b) (T : Lev w) :
    Calls Tryd.prog 26 #[.string s] w fun e w' => e = .returned (.tuple #[.agg #[.int .i64 L, .int .i64 y, .int .i64 i], .bool b]) ∧ Below w.heap.size w w' := by
  have K := Tri.new w (.int .i64 0) (.int .i64 0) (.int .i64 0) 23
  have B := balloc (Below.refl _ w) (.cells #[.int .i64 0, .int .i64 0, .int .i64 0] 23)
  replace T := T.alloc (.cells #[.int .i64 0, .int .i64 0, .int .i64 0] 23)
  have z := hd_size h4
  have ca := fun w => areDigits_any (hd4 s) true w (by rw [z]; unfold maxLen; omega) (.inl ⟨rfl, ad⟩)
  obtain ⟨yy, hyy⟩ : ∃ yy, yy = val (hd4 s) 4 := ⟨_, rfl⟩
  have cn := fun w => number_any (hd4 s) yy w (by omega) ad (by rw [z]; exact hyy)
  have zt : (tl4 s).size ≤ maxLen := by unfold tl4; rw [ByteArray.size_extract]; omega
  have e1 : ∀ w, (Instr.slice 9 (.string s) none (some (.int .i64 4)) none).run Tryd.prog w = .ok (.string (hd4 s)) w := fun w => by
    rw [run_slice_string_to_if _ _ _ _ _ Tryd.underlying9, if_pos ⟨by omega, by omega⟩]; rfl
  have e2 : ∀ w, (Instr.slice 9 (.string s) (some (.int .i64 4)) none none).run Tryd.prog w = .ok (.string (tl4 s)) w := fun w => by
    rw [run_slice_string_from_if _ _ _ _ _ Tryd.underlying9, if_pos ⟨by omega, by omega⟩]; rfl
  have H : ∃ n : Nat, n ≤ 5 ∧ (∀ k : Nat, k < n → ¬ Match (tl4 s) ((k : Int) + 1)) ∧ ((n < 5 ∧ b = true ∧ L = (n : Int) + 1 ∧ y = yy ∧ ∃ r, CutA (tl4 s) (sgn ((n : Int) + 1)) r true ∧ r.size = dgc ((n : Int) + 1) ∧ AllDig r ∧ ((dgc ((n : Int) + 1) = 0 ∧ i = 1) ∨ (0 < dgc ((n : Int) + 1) ∧ i = val r r.size))) ∨ (n = 5 ∧ b = false ∧ L = 0 ∧ y = 0 ∧ i = 0)) := by
    rcases R with ⟨rfl, f⟩ | ⟨rfl, no, rfl, rfl, rfl⟩
    · have fl := form_level f
      obtain ⟨_, p2, p3, p4, p5, p6, p7, p8⟩ := form_parts f
      refine ⟨(L - 1).toNat, by omega, fun k hk m => ?_, .inl ⟨by omega, rfl, by omega, by rw [hyy]; exact p4.symm, ?_⟩⟩
      · obtain ⟨y', i', f'⟩ := (form_iff ((k : Int) + 1) (by omega)).2 ⟨h4, ad, m⟩
        have := (form_uniq f f').1
        omega
      · rw [show (((L - 1).toNat : Nat) : Int) + 1 = L by omega]
        refine ⟨sd L i, .inl ⟨rfl, p3⟩, sd_size L i, p6, ?_⟩
        by_cases q : L = 1
        · exact .inl ⟨by rw [q]; rfl, p8 q⟩
        · refine .inr ⟨?_, by rw [sd_size]; exact (p7 q).symm⟩
          unfold dgc; rw [if_neg q]; split
          · omega
          · split <;> omega
    · refine ⟨5, by omega, fun k hk m => ?_, .inr ⟨rfl, rfl, rfl, rfl, rfl⟩⟩
      obtain ⟨y', i', f'⟩ := (form_iff ((k : Int) + 1) (by omega)).2 ⟨h4, ad, m⟩
      exact no _ _ _ f'
  obtain ⟨n, n5, nm, O⟩ := H
  have NO := Lib.hid nm
  have OO := Lib.hid O
  have LR := lev_range T
  have lt0 := T.lt
  have h4' : (4 : Int) ≤ (s.size : Int) := by omega
  unfold maxLen at hm
  clear R nm O z ad hyy T h4
  generalize hd4 s = r4 at *
  generalize tl4 s = t4 at *
  go_enter Tryd.func26, Tryd.ntmps26
  go_upto_region 1 with fail
  generalize w.alloc (.cells #[.int .i64 0, .int .i64 0, .int .i64 0] 23) = W0 at *
  go_wp2_with fail
  refine (ca _).mono ?_
  rintro e w1 ⟨rfl, hb⟩
  replace LR : w1.rangeAt 0 0 LV := fun j v h => (hb.cell (p := ⟨0, 0 + j, none⟩) lt0).trans (LR j v h)
  replace K := K.kept hb
  replace B := bthen B hb
  clear hb ca lt0
  go_upto_region 3 with fail
  apply wp_region_lit
  refine wpList_load_midG (by go_simp) _ _ rfl 0 0 rfl _ _ LR Tryd.underlying42 rfl infoLev ?_
  simp only [Act.put]
  have IX := Lib.hid lev_at
  generalize Value.agg LV.toArray = TV at *
  clear LR
  go_wp2
  have kl : w.heap.size < w1.heap.size := K.lt
  go_loopw [20] (fun X wr => ∃ k : Nat, k ≤ n ∧ X = .int .i64 (k : Int) ∧ Below w1.heap.size w1 wr) (fun X _ => 6 - (intOf X).toNat)
  case atStart => exact ⟨0, by omega, rfl, Below.refl _ _⟩
  case round =>
    obtain ⟨k, hk, rfl, B2⟩ := hrel
    have pp : (0 : Int) ≤ (k : Int) := by omega
    by_cases hlt : k < n
    · have k5 : k < 5 := by omega
      have bp : (k : Int) < 5 := by omega
      have ix := IX.out k k5
      obtain ⟨r, bb, RC, Q⟩ := no_match (NO.out k hlt)
      have rz := cut_size RC
      have cc := fun w => cut_any t4 (sgn ((k : Int) + 1)) r bb w zt RC
      have cd : ¬ AllDig r → ∀ w, Calls Tryd.prog 29 #[.string r] w fun e w' => e = .returned (.bool false) ∧ Below w.heap.size w w' := fun h w => areDigits_any r false w (by omega) (.inr ⟨rfl, h⟩)
      clear RC IX cn
      generalize lname ((k : Int) + 1) = nm at *
      generalize sgn ((k : Int) + 1) = sg at *
      generalize (dgc ((k : Int) + 1) : Nat) = dd at *
      generalize most ((k : Int) + 1) = mo at *
      go_wp2
      have X := Box.new wr #[.string nm, .string sg, .int .i64 (dd : Int), .int .i64 mo] 41
      replace B2 := balloc B2 (.cells #[.string nm, .string sg, .int .i64 (dd : Int), .int .i64 mo] 41)
      generalize wr.alloc (.cells #[.string nm, .string sg, .int .i64 (dd : Int), .int .i64 mo] 41) = W1 at *
      have x1 := X.cell 1 _ rfl
      have qC := fun d os => Calls.regrown_of (cc (Go.Sort.grow (redrawn W1 d) os))
      have k3 := cell_regrown x1
      refine wp_region_quiet_below (by kernel_rfl) (by kernel_rfl) ?_
      repeat (quiet_step (exact qC _ _))
      refine wpQuiet_nil ?_
      intro _ hw'
      obtain ⟨⟨dq, osq⟩, hw''⟩ := hw'
      subst hw''
      have hb := below_regrown W1 dq osq
      generalize Go.Sort.grow (redrawn W1 dq) osq = w9 at hb ⊢
      replace X := X.kept hb
      replace B2 := bthen B2 hb
      clear hb x1 k3 qC cc
      have x2 := X.cell 2 _ rfl
      rcases Q with rfl | ⟨rfl, z1⟩ | ⟨rfl, z1, nd⟩
      · go_wp2
        go_roundw
        case rel => exact ⟨k + 1, by omega, by go_num, B2⟩
        case measure => show 6 - ((k : Int) + 1).toNat < 6 - ((k : Int)).toNat; omega
      · go_wp2
        go_roundw
        case rel => exact ⟨k + 1, by omega, by go_num, B2⟩
        case measure => show 6 - ((k : Int) + 1).toNat < 6 - ((k : Int)).toNat; omega
      · have ce := cd nd
        clear cd nd
        go_wp2_with fail
        refine (ce _).mono ?_
        rintro e w8 ⟨rfl, hb⟩
        replace B2 := bthen B2 hb
        clear hb x2 X
        go_wp2
        go_roundw
        case rel => exact ⟨k + 1, by omega, by go_num, B2⟩
        case measure => show 6 - ((k : Int) + 1).toNat < 6 - ((k : Int)).toNat; omega
    · obtain rfl : k = n := by omega
      rcases OO.out with ⟨k5, rfl, hL, rfl, r, RC, rd, ra, ri⟩ | ⟨rfl, rfl, rfl, rfl, rfl⟩
      · have bp : (k : Int) < 5 := by omega
        have ix := IX.out k k5
        have rz := cut_size RC
        have cc := fun w => cut_any t4 (sgn ((k : Int) + 1)) r true w zt RC
        have cd := fun w => areDigits_any r true w (by omega) (.inl ⟨rfl, ra⟩)
        have db := dgc_bd ((k : Int) + 1)
        have ce : 0 < dgc ((k : Int) + 1) → i = val r r.size → ∀ w, Calls Tryd.prog 37 #[.string r] w fun e w' => e = .returned (.int .i64 i) ∧ Below w.heap.size w w' := fun _ e w => number_any r i w (by omega) ra e
        have zz : ((r.size : Int) != (dgc ((k : Int) + 1) : Nat)) = false := by rw [rd]; simp
        have HL : Hid (L = (k : Int) + 1) := Lib.hid hL
        clear RC rz IX hlt ra rd hL NO OO
        generalize lname ((k : Int) + 1) = nm at *
        generalize sgn ((k : Int) + 1) = sg at *
        generalize (dgc ((k : Int) + 1) : Nat) = dd at *
        generalize most ((k : Int) + 1) = mo at *
        go_wp2
        have X := Box.new wr #[.string nm, .string sg, .int .i64 (dd : Int), .int .i64 mo] 41
        replace B2 := balloc B2 (.cells #[.string nm, .string sg, .int .i64 (dd : Int), .int .i64 mo] 41)
        generalize wr.alloc (.cells #[.string nm, .string sg, .int .i64 (dd : Int), .int .i64 mo] 41) = W1 at *
        have x1 := X.cell 1 _ rfl
        have qC := fun d os => Calls.regrown_of (cc (Go.Sort.grow (redrawn W1 d) os))
        have k3 := cell_regrown x1
        refine wp_region_quiet_below (by kernel_rfl) (by kernel_rfl) ?_
        repeat (quiet_step (exact qC _ _))
        refine wpQuiet_nil ?_
        intro _ hw'
        obtain ⟨⟨dq, osq⟩, hw''⟩ := hw'
        subst hw''
        have hb := below_regrown W1 dq osq
        generalize Go.Sort.grow (redrawn W1 dq) osq = w9 at hb ⊢
        replace X := X.kept hb
        replace B2 := bthen B2 hb
        clear hb x1 k3 qC cc
        have x2 := X.cell 2 _ rfl
        go_wp2_with fail
        refine (cd _).mono ?_
        rintro e w8 ⟨rfl, hb⟩
        replace B2 := bthen B2 hb
        replace X := X.kept hb
        clear hb x2 cd
        have x2 := X.cell 2 _ rfl
        go_wp2_with fail
        refine (cn _).mono ?_
        rintro e w7 ⟨rfl, hb⟩
        replace B2 := bthen B2 hb
        replace X := X.kept hb
        replace K := K.kept B2
        clear hb x2 cn
        have N := Tri.new w7 (.int .i64 ((k : Int) + 1)) (.int .i64 y) (.int .i64 1) 23
        replace K := K.alloc (.cells #[.int .i64 ((k : Int) + 1), .int .i64 y, .int .i64 1] 23)
        replace X := X.alloc (.cells #[.int .i64 ((k : Int) + 1), .int .i64 y, .int .i64 1] 23)
        have x2 := X.cell 2 _ rfl
        have BA := balloc (bthen B B2) (.cells #[.int .i64 ((k : Int) + 1), .int .i64 y, .int .i64 1] 23)
        have ls : w.heap.size < w7.heap.size := by have := B2.size; omega
        rcases ri with ⟨rfl, rfl⟩ | ⟨d0, e⟩
        · go_upto_region 9 with fail
          generalize w7.alloc (.cells #[.int .i64 ((k : Int) + 1), .int .i64 y, .int .i64 1] 23) = W9 at *
          obtain ⟨_, k0, k1, k2, f0, f1, f2⟩ := id K
          obtain ⟨_, n0, n1, n2, _, _, _⟩ := id N
          go_wp2
          refine bodyPost_ret (v := .tuple #[.agg #[.int .i64 L, .int .i64 y, .int .i64 1], .bool true]) (by rw [HL.out]; simp [results, Tryd.results26, go_sem, *]) rfl ⟨rfl, ?_⟩
          exact bset (bset (bset BA (Nat.le_refl _) _ _) (Nat.le_refl _) _ _) (Nat.le_refl _) _ _
        · have cf := ce d0 e
          clear ce e
          have dp : (0 : Int) < (dd : Int) := by omega
          go_upto_region 9 with fail
          generalize w7.alloc (.cells #[.int .i64 ((k : Int) + 1), .int .i64 y, .int .i64 1] 23) = W9 at *
          go_wp2_with fail
          refine (cf _).mono ?_
          rintro e w6 ⟨rfl, hb⟩
          replace K := K.kept hb
          replace N := N.kept hb
          replace BA := bthen BA hb
          have ls2 : ¬ w7.heap.size = w.heap.size := by omega
          have ls3 : ¬ w.heap.size = w7.heap.size := by omega
          have ls4 : w.heap.size ≤ w7.heap.size := by omega
          obtain ⟨_, k0, k1, k2, f0, f1, f2⟩ := id K
          obtain ⟨_, n0, n1, n2, g0, g1, g2⟩ := id N
          go_wp2
          refine bodyPost_ret (v := .tuple #[.agg #[.int .i64 L, .int .i64 y, .int .i64 i], .bool true]) (by rw [HL.out]; simp [results, Tryd.results26, go_sem, *]) rfl ⟨rfl, ?_⟩
          exact bset (bset (bset (bset BA ls4 _ _) (Nat.le_refl _) _ _) (Nat.le_refl _) _ _) (Nat.le_refl _) _ _
      · replace K := K.kept B2
        replace B := bthen B B2
        obtain ⟨_, k0, k1, k2, f0, f1, f2⟩ := id K
        go_wp2
        refine bodyPost_ret (v := .tuple #[.agg #[.int .i64 0, .int .i64 0, .int .i64 0], .bool false]) (by simp [results, Tryd.results26, go_sem, *]) rfl ⟨rfl, ?_⟩
        exact bset (bset (bset B (Nat.le_refl _) _ _) (Nat.le_refl _) _ _) (Nat.le_refl _) _ _

theorem unita_ex (s : ByteArray) : ∃ L y i b, UnitA s L y i b := by
  by_cases h : ∃ M z j, Go.Proofs.YtfjckgnclhpmcaaDoor.Nm.Form s M z j
  · obtain ⟨M, z, j, h⟩ := h
    exact ⟨M, z, j, true, .inl ⟨rfl, h⟩⟩
  · exact ⟨0, 0, 0, false, .inr ⟨rfl, fun M z j q => h ⟨M, z, j, q⟩, rfl, rfl, rfl⟩⟩
theorem unitOf_any (s : ByteArray) (L y i : Int) (b : Bool) (w : World) (hm : s.size ≤ maxLen) (R : UnitA s L y i b) (T : Lev w) :
    Calls Tryd.prog 26 #[.string s] w fun e w' => e = .returned (.tuple #[.agg #[.int .i64 L, .int .i64 y, .int .i64 i], .bool b]) ∧ Below w.heap.size w w' := by
  by_cases h4 : 4 ≤ s.size
  · by_cases ad : AllDig (hd4 s)
    · exact unitOf_some s L y i b w hm h4 ad R T
    · rcases R with ⟨rfl, f⟩ | ⟨rfl, _, rfl, rfl, rfl⟩
      · exact absurd (form_parts f).2.2.2.2.1 ad
      · exact unitOf_none s w hm (.inr ⟨h4, ad⟩)
  · rcases R with ⟨rfl, f⟩ | ⟨rfl, _, rfl, rfl, rfl⟩
    · exact absurd (form_parts f).1 h4
    · exact unitOf_none s w hm (.inl (by omega))

set_option maxRecDepth 100000 in
theorem LParse_any (s : ByteArray) (L y i er : Int) (w : World) (hm : s.size ≤ maxLen) (R : ParseA s L y i er) (T : Lev w) :
    Calls Tryd.prog 12 #[.string s] w fun e w' => e = .returned (.tuple #[.agg #[.int .i64 L, .int .i64 y, .int .i64 i], .int .i64 er]) ∧ Below w.heap.size w w' := by
  have K := Tri.new w (.int .i64 0) (.int .i64 0) (.int .i64 0) 23
  have B := balloc (Below.refl _ w) (.cells #[.int .i64 0, .int .i64 0, .int .i64 0] 23)
  replace T := T.alloc (.cells #[.int .i64 0, .int .i64 0, .int .i64 0] 23)
  have X : ∃ M z j b, UnitA s M z j b ∧ ((b = true ∧ ((WrOk M z j ∧ L = M ∧ y = z ∧ i = j ∧ er = 0) ∨ (¬ WrOk M z j ∧ L = 0 ∧ y = 0 ∧ i = 0 ∧ er = 13))) ∨ (b = false ∧ M = 0 ∧ z = 0 ∧ j = 0 ∧ L = 0 ∧ y = 0 ∧ i = 0 ∧ er = 5)) := by
    rcases R with ⟨f, wo, rfl⟩ | ⟨M, z, j, f, no, rfl, rfl, rfl, rfl⟩ | ⟨no, rfl, rfl, rfl, rfl⟩
    · exact ⟨L, y, i, true, .inl ⟨rfl, f⟩, .inl ⟨rfl, .inl ⟨wo, rfl, rfl, rfl, rfl⟩⟩⟩
    · exact ⟨M, z, j, true, .inl ⟨rfl, f⟩, .inl ⟨rfl, .inr ⟨no, rfl, rfl, rfl, rfl⟩⟩⟩
    · exact ⟨0, 0, 0, false, .inr ⟨rfl, no, rfl, rfl, rfl⟩, .inr ⟨rfl, rfl, rfl, rfl, rfl, rfl, rfl, rfl⟩⟩
  obtain ⟨M, z, j, b, A, O⟩ := X
  have cu := fun w T => unitOf_any s M z j b w hm A T
  clear R A
  rcases O with ⟨rfl, O⟩ | ⟨rfl, rfl, rfl, rfl, rfl, rfl, rfl, rfl⟩
  · rcases O with ⟨wo, rfl, rfl, rfl, rfl⟩ | ⟨wo, rfl, rfl, rfl, rfl⟩
    · have cc := fun w T => can_any L y i true w (decide_eq_true wo).symm T
      clear wo
      go_enter Tryd.func12, Tryd.ntmps12
      go_upto_region 1 with fail
      generalize w.alloc (.cells #[.int .i64 0, .int .i64 0, .int .i64 0] 23) = W0 at *
      go_wp2_with fail
      refine (cu _ T).mono ?_
      rintro e w1 ⟨rfl, hb⟩
      have N := Tri.new w1 (.int .i64 L) (.int .i64 y) (.int .i64 i) 23
      replace K := (K.kept hb).alloc (.cells #[.int .i64 L, .int .i64 y, .int .i64 i] 23)
      replace T := (T.kept hb).alloc (.cells #[.int .i64 L, .int .i64 y, .int .i64 i] 23)
      replace B := balloc (bthen B hb) (.cells #[.int .i64 L, .int .i64 y, .int .i64 i] 23)
      clear hb cu
      go_upto_region 2 with fail
      generalize w1.alloc (.cells #[.int .i64 L, .int .i64 y, .int .i64 i] 23) = W1 at *
      obtain ⟨_, n0, n1, n2, _, _, _⟩ := id N
      go_wp2_with fail
      refine (cc _ T).mono ?_
      rintro e w2 ⟨rfl, hb⟩
      replace N := N.kept hb
      replace K := K.kept hb
      replace B := bthen B hb
      clear hb cc n0 n1 n2
      obtain ⟨_, n0, n1, n2, _, _, _⟩ := id N
      obtain ⟨_, k0, k1, k2, f0, f1, f2⟩ := id K
      go_wp2
      refine bodyPost_ret (v := .tuple #[.agg #[.int .i64 L, .int .i64 y, .int .i64 i], .int .i64 0]) (by simp [results, Tryd.results12, go_sem, *]) rfl ⟨rfl, ?_⟩
      exact bset (bset (bset B (Nat.le_refl _) _ _) (Nat.le_refl _) _ _) (Nat.le_refl _) _ _
    · have cc := fun w T => can_any M z j false w (decide_eq_false wo).symm T
      clear wo
      go_enter Tryd.func12, Tryd.ntmps12
      go_upto_region 1 with fail
      generalize w.alloc (.cells #[.int .i64 0, .int .i64 0, .int .i64 0] 23) = W0 at *
      go_wp2_with fail
      refine (cu _ T).mono ?_
      rintro e w1 ⟨rfl, hb⟩
      have N := Tri.new w1 (.int .i64 M) (.int .i64 z) (.int .i64 j) 23
      replace K := (K.kept hb).alloc (.cells #[.int .i64 M, .int .i64 z, .int .i64 j] 23)
      replace T := (T.kept hb).alloc (.cells #[.int .i64 M, .int .i64 z, .int .i64 j] 23)
      replace B := balloc (bthen B hb) (.cells #[.int .i64 M, .int .i64 z, .int .i64 j] 23)
      clear hb cu
      go_upto_region 2 with fail
      generalize w1.alloc (.cells #[.int .i64 M, .int .i64 z, .int .i64 j] 23) = W1 at *
      obtain ⟨_, n0, n1, n2, _, _, _⟩ := id N
      go_wp2_with fail
      refine (cc _ T).mono ?_
      rintro e w2 ⟨rfl, hb⟩
      replace K := K.kept hb
      replace B := bthen B hb
      clear hb cc n0 n1 n2
      obtain ⟨_, k0, k1, k2, f0, f1, f2⟩ := id K
      go_wp2
      refine bodyPost_ret (v := .tuple #[.agg #[.int .i64 0, .int .i64 0, .int .i64 0], .int .i64 13]) (by simp [results, Tryd.results12, go_sem, *]) rfl ⟨rfl, ?_⟩
      exact bset (bset (bset B (Nat.le_refl _) _ _) (Nat.le_refl _) _ _) (Nat.le_refl _) _ _
  · go_enter Tryd.func12, Tryd.ntmps12
    go_upto_region 1 with fail
    generalize w.alloc (.cells #[.int .i64 0, .int .i64 0, .int .i64 0] 23) = W0 at *
    go_wp2_with fail
    refine (cu _ T).mono ?_
    rintro e w1 ⟨rfl, hb⟩
    replace K := K.kept hb
    replace B := bthen B hb
    clear hb cu
    obtain ⟨_, k0, k1, k2, f0, f1, f2⟩ := id K
    go_wp2
    refine bodyPost_ret (v := .tuple #[.agg #[.int .i64 0, .int .i64 0, .int .i64 0], .int .i64 5]) (by simp [results, Tryd.results12, go_sem, *]) rfl ⟨rfl, ?_⟩
    exact balloc (bset (bset (bset B (Nat.le_refl _) _ _) (Nat.le_refl _) _ _) (Nat.le_refl _) _ _) _

end Go.Proofs.YtfjckgnclhpmcaaDoor.Np
