/- What Parse of the reference of layer 18 comes to. -/
import Derived.Test.YtfjckgnclhpmcaaDoorNref2
namespace Go.Proofs.YtfjckgnclhpmcaaDoor.Nr
set_option linter.unusedSimpArgs false
set_option linter.unusedVariables false
open Go.RowKit Go.Proofs.YtfjckgnclhpmcaaDoor.Pr Go.Proofs.YtfjckgnclhpmcaaDoor.Nm Go.Proofs.YtfjckgnclhpmcaaDoor.Wm Go.Proofs.YtfjckgnclhpmcaaDoor.Wc Go.Proofs.YtfjckgnclhpmcaaDoor.Bx Go.Proofs.YtfjckgnclhpmcaaDoor.Fs Go.Proofs.YtfjckgnclhpmcaaDoor.Bn Go.Proofs.YtfjckgnclhpmcaaDoor.Np

set_option maxHeartbeats 1000000

/-- how a text stands to a level's form -/
theorem level_cases (s : ByteArray) {M : Int} (hM : 1 ≤ M ∧ M ≤ 5) :
    (s.size ≠ 4 + (sgn M).size + dgc M ∧ ∀ y i, ¬ Go.Proofs.YtfjckgnclhpmcaaDoor.Nm.Form s M y i) ∨ (s.size = 4 + (sgn M).size + dgc M ∧ s.extract 4 (4 + (sgn M).size) ≠ sgn M ∧ ∀ y i, ¬ Go.Proofs.YtfjckgnclhpmcaaDoor.Nm.Form s M y i) ∨
    (s.size = 4 + (sgn M).size + dgc M ∧ s.extract 4 (4 + (sgn M).size) = sgn M ∧ (s.extract (4 + (sgn M).size) s.size).size = dgc M ∧ ((¬ AllDig (hd4 s) ∧ ∀ y i, ¬ Go.Proofs.YtfjckgnclhpmcaaDoor.Nm.Form s M y i) ∨ (AllDig (hd4 s) ∧ ¬ AllDig (s.extract (4 + (sgn M).size) s.size) ∧ M ≠ 1 ∧ ∀ y i, ¬ Go.Proofs.YtfjckgnclhpmcaaDoor.Nm.Form s M y i) ∨
      (AllDig (hd4 s) ∧ AllDig (s.extract (4 + (sgn M).size) s.size) ∧ ∃ i, Go.Proofs.YtfjckgnclhpmcaaDoor.Nm.Form s M (val (hd4 s) 4) i ∧ (M = 1 → i = 1) ∧ (M ≠ 1 → i = val (s.extract (4 + (sgn M).size) s.size) (dgc M) ∧ 0 < dgc M)))) := by
  obtain ⟨k, hk⟩ : ∃ k, k = (sgn M).size := ⟨_, rfl⟩
  have sz : ∀ y i, Go.Proofs.YtfjckgnclhpmcaaDoor.Nm.Form s M y i → s.size = 4 + (sgn M).size + dgc M := fun y i f => by
    obtain ⟨_, _, _, e⟩ := f
    rw [e]; unfold ustr
    rw [ByteArray.size_append, ByteArray.size_append, sd_size]; rfl
  by_cases h1 : s.size = 4 + (sgn M).size + dgc M
  · have h4 : 4 ≤ s.size := by omega
    have tlx : tl4 s = s.extract 4 (4 + (sgn M).size) ++ s.extract (4 + (sgn M).size) s.size := by
      unfold tl4
      rw [ByteArray.extract_append_extract, Nat.min_eq_left (by omega), Nat.max_eq_right (by omega)]
    have xz : (s.extract 4 (4 + (sgn M).size)).size = (sgn M).size := by rw [ByteArray.size_extract]; omega
    by_cases h2 : s.extract 4 (4 + (sgn M).size) = sgn M
    · have rz : (s.extract (4 + (sgn M).size) s.size).size = dgc M := by rw [ByteArray.size_extract]; omega
      rw [h2] at tlx
      refine .inr (.inr ⟨h1, h2, rz, ?_⟩)
      by_cases a : AllDig (hd4 s)
      · by_cases b : AllDig (s.extract (4 + (sgn M).size) s.size)
        · refine .inr (.inr ⟨a, b, ?_⟩)
          obtain ⟨y, i, f⟩ := (form_iff M hM).2 ⟨h4, a, _, tlx, rz, b⟩
          obtain ⟨_, _, p3, p4, _, _, p7, p8⟩ := form_parts f
          refine ⟨i, by rw [p4]; exact f, p8, fun q => ?_⟩
          have e : sd M i = s.extract (4 + (sgn M).size) s.size := by
            have := p3.symm.trans tlx
            exact (ByteArray.append_right_inj _).1 this
          refine ⟨by rw [← e]; exact (p7 q).symm, ?_⟩
          unfold dgc; rw [if_neg q]; split
          · omega
          · split <;> omega
        · refine .inr (.inl ⟨a, b, fun q => b ?_, fun y i f => b ?_⟩)
          · intro j hj
            rw [rz, q] at hj
            exact absurd (show j < 0 from hj) (by omega)
          · obtain ⟨_, _, u, e, z, d⟩ := (form_iff M hM).1 ⟨y, i, f⟩
            have : u = s.extract (4 + (sgn M).size) s.size := (ByteArray.append_right_inj _).1 (e.symm.trans tlx)
            rw [← this]; exact d
      · exact .inl ⟨a, fun y i f => a (form_parts f).2.2.2.2.1⟩
    · refine .inr (.inl ⟨h1, h2, fun y i f => h2 ?_⟩)
      obtain ⟨_, _, u, e, z, d⟩ := (form_iff M hM).1 ⟨y, i, f⟩
      have := e.symm.trans tlx
      exact (ByteArray.append_inj_left this xz.symm).symm
  · exact .inl ⟨h1, fun y i f => h1 (sz y i f)⟩

set_option maxRecDepth 100000 in
theorem rParse_any (s : ByteArray) (L y i er : Int) (w : World) (hm : s.size ≤ maxLen) (R : ParseA s L y i er) :
    Calls Tryd.prog 13 #[.string s] w fun e w' => e = .returned (.tuple #[.agg #[.int .i64 L, .int .i64 y, .int .i64 i], .int .i64 er]) ∧ Below w.heap.size w w' := by
  have K := Tri.new w (.int .i64 0) (.int .i64 0) (.int .i64 0) 23
  have B := balloc (Below.refl _ w) (.cells #[.int .i64 0, .int .i64 0, .int .i64 0] 23)
  have RH := Lib.hid R
  unfold maxLen at hm
  clear R
  go_enter Tryd.func13, Tryd.ntmps13
  go_upto_region 1 with fail
  generalize w.alloc (.cells #[.int .i64 0, .int .i64 0, .int .i64 0] 23) = W0 at *
  go_wp2
  go_loopw [4] (fun X wr => ∃ k : Nat, k ≤ 5 ∧ X = .int .i64 ((k : Int) + 1) ∧ Hid (∀ M : Int, 1 ≤ M → M ≤ (k : Int) → ∀ y i, ¬ Go.Proofs.YtfjckgnclhpmcaaDoor.Nm.Form s M y i) ∧ Below W0.heap.size W0 wr) (fun X _ => 7 - (intOf X).toNat)
  case atStart => exact ⟨0, by omega, rfl, Lib.hid (fun M h0 h1 => absurd h1 (by omega)), Below.refl _ _⟩
  case round =>
    obtain ⟨k, hk, rfl, NO, B2⟩ := hrel
    have pp : (0 : Int) ≤ (k : Int) := by omega
    by_cases hlt : k < 5
    · have bp : decide ((k : Int) + 1 ≤ 5) = true := decide_eq_true (by omega)
      have lM : 1 ≤ (k : Int) + 1 ∧ (k : Int) + 1 ≤ 5 := by omega
      have LC := Lib.hid (level_cases s lM)
      have N2 : (∀ y i, ¬ Go.Proofs.YtfjckgnclhpmcaaDoor.Nm.Form s ((k : Int) + 1) y i) → Hid (∀ M : Int, 1 ≤ M → M ≤ ((k + 1 : Nat) : Int) → ∀ y i, ¬ Go.Proofs.YtfjckgnclhpmcaaDoor.Nm.Form s M y i) := fun h => Lib.hid (fun M h0 h1 => by
        by_cases q : M = (k : Int) + 1
        · subst q; exact h
        · exact NO.out M h0 (by omega))
      have cS := fun w => rsgn_any ((k : Int) + 1) (sgn ((k : Int) + 1)) w lM rfl
      have cD := fun w => rdgc_any ((k : Int) + 1) (dgc ((k : Int) + 1) : Nat) w lM rfl
      have sb := sgn_bd lM
      have db := dgc_bd ((k : Int) + 1)
      obtain ⟨sg, hsg⟩ : ∃ sg, sg = sgn ((k : Int) + 1) := ⟨_, rfl⟩
      obtain ⟨dd, hdd⟩ : ∃ dd, dd = dgc ((k : Int) + 1) := ⟨_, rfl⟩
      have LC2 := LC.out
      rw [← hsg] at cS sb LC2
      rw [← hdd] at cD db LC2
      have hww : IntKind.i64.wrap (4 + (sg.size : Int) + (dd : Int)) = 4 + (sg.size : Int) + (dd : Int) := by rw [IntWalk.i64_in _ (by omega)]
      clear LC hsg hdd
      go_wp2_with fail
      refine (cS _).mono ?_
      rintro e w1 ⟨rfl, hb⟩
      replace B2 := bthen B2 hb
      clear hb
      go_wp2
      have qS := fun d os => Calls.regrown_of (cS (Go.Sort.grow (redrawn w1 d) os))
      have qD := fun d os => Calls.regrown_of (cD (Go.Sort.grow (redrawn w1 d) os))
      rcases LC2 with ⟨z1, nf⟩ | ⟨z1, x1, nf⟩ | ⟨z1, x1, rz, O⟩
      · have g1 : ((s.size : Int) != 4 + (sg.size : Int) + (dd : Int)) = true := bne_iff_ne.2 (by omega)
        have N3 := N2 nf
        clear nf N2 z1
        refine wp_region_quiet_below (by kernel_rfl) (by kernel_rfl) ?_
        repeat (quiet_step (first | (with_reducible exact qS _ _) | (with_reducible exact qD _ _)))
        refine wpQuiet_nil ?_
        intro _ hw'
        obtain ⟨⟨dq, osq⟩, hw''⟩ := hw'
        subst hw''
        have hb := below_regrown w1 dq osq
        generalize Go.Sort.grow (redrawn w1 dq) osq = w9 at hb ⊢
        replace B2 := bthen B2 hb
        go_wp2
        go_roundw
        case rel => exact ⟨k + 1, by omega, by go_num, N3, B2⟩
        case measure => simp [intOf]; omega
      · have g1 : ((s.size : Int) != 4 + (sg.size : Int) + (dd : Int)) = false := bne_eq_false_iff_eq.2 (by omega)
        have N3 := N2 nf
        obtain ⟨x, hx⟩ : ∃ x, x = s.extract 4 (4 + sg.size) := ⟨_, rfl⟩
        have es : ∀ w, (Instr.slice 9 (.string s) (some (.int .i64 4)) (some (.int .i64 (4 + (sg.size : Int)))) none).run Tryd.prog w = .ok (.string x) w := fun w => by
          rw [run_slice_string _ _ _ _ _ _ _ Tryd.underlying9 (by omega) (by omega) (by omega), hx, show (4 + (sg.size : Int)).toNat = 4 + sg.size by omega]; rfl
        have ne : (x.toList == sg.toList) = false := by rw [same_list, hx]; exact decide_eq_false x1
        clear nf N2 z1 hx x1
        refine wp_region_quiet_below (by kernel_rfl) (by kernel_rfl) ?_
        repeat (quiet_step (first | (with_reducible exact qS _ _) | (with_reducible exact qD _ _)))
        refine wpQuiet_nil ?_
        intro _ hw'
        obtain ⟨⟨dq, osq⟩, hw''⟩ := hw'
        subst hw''
        have hb := below_regrown w1 dq osq
        generalize Go.Sort.grow (redrawn w1 dq) osq = w9 at hb ⊢
        replace B2 := bthen B2 hb
        go_wp2
        go_roundw
        case rel => exact ⟨k + 1, by omega, by go_num, N3, B2⟩
        case measure => simp [intOf]; omega
      · have g1 : ((s.size : Int) != 4 + (sg.size : Int) + (dd : Int)) = false := bne_eq_false_iff_eq.2 (by omega)
        have es : ∀ w, (Instr.slice 9 (.string s) (some (.int .i64 4)) (some (.int .i64 (4 + (sg.size : Int)))) none).run Tryd.prog w = .ok (.string sg) w := fun w => by
          rw [run_slice_string _ _ _ _ _ _ _ Tryd.underlying9 (by omega) (by omega) (by omega), show (4 + (sg.size : Int)).toNat = 4 + sg.size by omega]
          exact congrArg (fun x => Result.ok (Value.string x) w) x1
        have h4 : 4 ≤ s.size := by omega
        have hz := hd_size h4
        obtain ⟨r, hr⟩ : ∃ r, r = s.extract (4 + sg.size) s.size := ⟨_, rfl⟩
        have e1 : ∀ w, (Instr.slice 9 (.string s) none (some (.int .i64 4)) none).run Tryd.prog w = .ok (.string (hd4 s)) w := fun w => by
          rw [run_slice_string_to_if _ _ _ _ _ Tryd.underlying9, if_pos ⟨by omega, by omega⟩]; rfl
        have e2 : ∀ w, (Instr.slice 9 (.string s) (some (.int .i64 (4 + (sg.size : Int)))) none none).run Tryd.prog w = .ok (.string r) w := fun w => by
          rw [run_slice_string_from_if _ _ _ _ _ Tryd.underlying9, if_pos ⟨by omega, by omega⟩, hr, show (4 + (sg.size : Int)).toNat = 4 + sg.size by omega]
        rw [← hr] at rz O
        clear hr x1
        obtain ⟨v1, b1, A1⟩ := numa_ex (hd4 s)
        obtain ⟨v2, b2, A2⟩ := numa_ex r
        have c1 := fun w => rNumber_any (hd4 s) v1 b1 w (by omega) A1
        have c2 := fun w => rNumber_any r v2 b2 w (by omega) A2
        have X : ((b1 = false ∨ (b1 = true ∧ b2 = false ∧ (((k : Int) + 1) == 1) = false)) ∧ ∀ y i, ¬ Go.Proofs.YtfjckgnclhpmcaaDoor.Nm.Form s ((k : Int) + 1) y i) ∨ (b1 = true ∧ ((((k : Int) + 1 == 1) = true ∧ Go.Proofs.YtfjckgnclhpmcaaDoor.Nm.Form s ((k : Int) + 1) v1 1) ∨ (((k : Int) + 1 == 1) = false ∧ b2 = true ∧ Go.Proofs.YtfjckgnclhpmcaaDoor.Nm.Form s ((k : Int) + 1) v1 v2))) := by
          rcases O with ⟨nd, nf⟩ | ⟨ad, nd, n1, nf⟩ | ⟨ad, bd, j, f, f1, f2⟩
          · rcases A1 with ⟨h, _⟩ | ⟨_, _, h⟩
            · exact absurd h nd
            · exact .inl ⟨.inl h, nf⟩
          · rcases A1 with ⟨_, _, h1⟩ | ⟨h, _⟩
            · rcases A2 with ⟨h, _⟩ | ⟨_, _, h2⟩
              · exact absurd h nd
              · exact .inl ⟨.inr ⟨by rw [h1, hz]; rfl, h2, beq_eq_false_iff_ne.2 n1⟩, nf⟩
            · exact absurd ad h
          · rcases A1 with ⟨_, e1, h1⟩ | ⟨h, _⟩
            · rw [hz] at e1 h1
              rw [← e1] at f
              refine .inr ⟨by rw [h1]; rfl, ?_⟩
              by_cases q : (k : Int) + 1 = 1
              · refine .inl ⟨by rw [q]; rfl, ?_⟩
                have := f1 q
                rw [this] at f; exact f
              · rcases A2 with ⟨_, e3, h2⟩ | ⟨h, _⟩
                · obtain ⟨g, gd⟩ := f2 q
                  refine .inr ⟨beq_eq_false_iff_ne.2 q, by rw [h2, rz]; exact decide_eq_true gd, ?_⟩
                  rw [e3, rz, ← g]; exact f
                · exact absurd bd h
            · exact absurd ad h
        have XH := Lib.hid X
        clear X O A1 A2 rz hz z1 cD cS
        generalize hd4 s = r4 at *
        refine wp_region_quiet_below (by kernel_rfl) (by kernel_rfl) ?_
        repeat (quiet_step (first | (with_reducible exact qS _ _) | (with_reducible exact qD _ _)))
        refine wpQuiet_nil ?_
        intro _ hw'
        obtain ⟨⟨dq, osq⟩, hw''⟩ := hw'
        subst hw''
        have hb := below_regrown w1 dq osq
        generalize Go.Sort.grow (redrawn w1 dq) osq = w9 at hb ⊢
        replace B2 := bthen B2 hb
        clear hb qS qD
        go_wp2_with fail
        refine (c1 _).mono ?_
        rintro e w3 ⟨rfl, hb⟩
        replace B2 := bthen B2 hb
        clear hb
        go_wp2_with fail
        refine (c2 _).mono ?_
        rintro e w4 ⟨rfl, hb⟩
        replace B2 := bthen B2 hb
        clear hb c1 c2
        rcases XH.out with ⟨O, nf⟩ | ⟨rfl, O⟩
        · have N3 := N2 nf
          clear nf N2
          rcases O with rfl | ⟨rfl, rfl, q⟩
          · rcases (by by_cases h : (k : Int) + 1 = 1; exact .inl (by rw [h]; rfl); exact .inr (beq_eq_false_iff_ne.2 h) : (((k : Int) + 1 == 1) = true) ∨ (((k : Int) + 1 == 1) = false)) with q | q
            all_goals
              go_wp2
              go_roundw
              case rel => exact ⟨k + 1, by omega, by go_num, N3, B2⟩
              case measure => simp [intOf]; omega
          · go_wp2
            go_roundw
            case rel => exact ⟨k + 1, by omega, by go_num, N3, B2⟩
            case measure => simp [intOf]; omega
        · have Y : ∃ j : Int, Hid (Go.Proofs.YtfjckgnclhpmcaaDoor.Nm.Form s ((k : Int) + 1) v1 j) ∧ ((((k : Int) + 1 == 1) = true ∧ j = 1) ∨ (((k : Int) + 1 == 1) = false ∧ b2 = true ∧ j = v2)) := by
            rcases O with ⟨q, f⟩ | ⟨q, h, f⟩
            · exact ⟨1, Lib.hid f, .inl ⟨q, rfl⟩⟩
            · exact ⟨v2, Lib.hid f, .inr ⟨q, h, rfl⟩⟩
          obtain ⟨j, FF, O2⟩ := Y
          have Z : (WrOk ((k : Int) + 1) v1 j ∧ L = (k : Int) + 1 ∧ y = v1 ∧ i = j ∧ er = 0) ∨ (¬ WrOk ((k : Int) + 1) v1 j ∧ L = 0 ∧ y = 0 ∧ i = 0 ∧ er = 13) := by
            rcases RH.out with ⟨f, wo, rfl⟩ | ⟨M, z, q, f, no, rfl, rfl, rfl, rfl⟩ | ⟨no, _⟩
            · obtain ⟨rfl, rfl, rfl⟩ := form_uniq f FF.out
              exact .inl ⟨wo, rfl, rfl, rfl, rfl⟩
            · obtain ⟨rfl, rfl, rfl⟩ := form_uniq f FF.out
              exact .inr ⟨no, rfl, rfl, rfl, rfl⟩
            · exact absurd FF.out (no _ _ _)
          replace K := K.kept B2
          replace B := bthen B B2
          clear FF RH O XH N2 NO B2
          rcases Z with ⟨wo, rfl, rfl, rfl, rfl⟩ | ⟨wo, rfl, rfl, rfl, rfl⟩
          · have cm := fun w => rmay_any ((k : Int) + 1) y i true w (decide_eq_true wo).symm
            clear wo
            rcases O2 with ⟨q, rfl⟩ | ⟨q, rfl, rfl⟩
            · skip
              go_upto_region 13 with fail
              have N := Tri.new w4 (.int .i64 ((k : Int) + 1)) (.int .i64 y) (.int .i64 1) 23
              replace K := K.alloc (.cells #[.int .i64 ((k : Int) + 1), .int .i64 y, .int .i64 1] 23)
              replace B := balloc B (.cells #[.int .i64 ((k : Int) + 1), .int .i64 y, .int .i64 1] 23)
              generalize w4.alloc (.cells #[.int .i64 ((k : Int) + 1), .int .i64 y, .int .i64 1] 23) = W5 at *
              obtain ⟨_, n0, n1, n2, _, _, _⟩ := id N
              go_wp2_with fail
              refine (cm _).mono ?_
              rintro e w6 ⟨rfl, hb⟩
              replace N := N.kept hb
              replace K := K.kept hb
              replace B := bthen B hb
              clear hb cm n0 n1 n2
              obtain ⟨_, n0, n1, n2, _, _, _⟩ := id N
              obtain ⟨_, k0, k1, k2, f0, f1, f2⟩ := id K
              go_wp2
              refine bodyPost_ret (v := .tuple #[.agg #[.int .i64 ((k : Int) + 1), .int .i64 y, .int .i64 1], .int .i64 0]) (by simp [results, Tryd.results13, go_sem, *]) rfl ⟨rfl, ?_⟩
              exact bset (bset (bset B (Nat.le_refl _) _ _) (Nat.le_refl _) _ _) (Nat.le_refl _) _ _
            · skip
              go_upto_region 13 with fail
              have N := Tri.new w4 (.int .i64 ((k : Int) + 1)) (.int .i64 y) (.int .i64 i) 23
              replace K := K.alloc (.cells #[.int .i64 ((k : Int) + 1), .int .i64 y, .int .i64 i] 23)
              replace B := balloc B (.cells #[.int .i64 ((k : Int) + 1), .int .i64 y, .int .i64 i] 23)
              generalize w4.alloc (.cells #[.int .i64 ((k : Int) + 1), .int .i64 y, .int .i64 i] 23) = W5 at *
              obtain ⟨_, n0, n1, n2, _, _, _⟩ := id N
              go_wp2_with fail
              refine (cm _).mono ?_
              rintro e w6 ⟨rfl, hb⟩
              replace N := N.kept hb
              replace K := K.kept hb
              replace B := bthen B hb
              clear hb cm n0 n1 n2
              obtain ⟨_, n0, n1, n2, _, _, _⟩ := id N
              obtain ⟨_, k0, k1, k2, f0, f1, f2⟩ := id K
              go_wp2
              refine bodyPost_ret (v := .tuple #[.agg #[.int .i64 ((k : Int) + 1), .int .i64 y, .int .i64 i], .int .i64 0]) (by simp [results, Tryd.results13, go_sem, *]) rfl ⟨rfl, ?_⟩
              exact bset (bset (bset B (Nat.le_refl _) _ _) (Nat.le_refl _) _ _) (Nat.le_refl _) _ _
          · have cm := fun w => rmay_any ((k : Int) + 1) v1 j false w (decide_eq_false wo).symm
            clear wo
            rcases O2 with ⟨q, rfl⟩ | ⟨q, rfl, rfl⟩
            · skip
              go_upto_region 13 with fail
              have N := Tri.new w4 (.int .i64 ((k : Int) + 1)) (.int .i64 v1) (.int .i64 1) 23
              replace K := K.alloc (.cells #[.int .i64 ((k : Int) + 1), .int .i64 v1, .int .i64 1] 23)
              replace B := balloc B (.cells #[.int .i64 ((k : Int) + 1), .int .i64 v1, .int .i64 1] 23)
              generalize w4.alloc (.cells #[.int .i64 ((k : Int) + 1), .int .i64 v1, .int .i64 1] 23) = W5 at *
              obtain ⟨_, n0, n1, n2, _, _, _⟩ := id N
              go_wp2_with fail
              refine (cm _).mono ?_
              rintro e w6 ⟨rfl, hb⟩
              replace N := N.kept hb
              replace K := K.kept hb
              replace B := bthen B hb
              clear hb cm n0 n1 n2
              obtain ⟨_, n0, n1, n2, _, _, _⟩ := id N
              obtain ⟨_, k0, k1, k2, f0, f1, f2⟩ := id K
              go_wp2
              refine bodyPost_ret (v := .tuple #[.agg #[.int .i64 0, .int .i64 0, .int .i64 0], .int .i64 13]) (by simp [results, Tryd.results13, go_sem, *]) rfl ⟨rfl, ?_⟩
              exact bset (bset (bset B (Nat.le_refl _) _ _) (Nat.le_refl _) _ _) (Nat.le_refl _) _ _
            · skip
              go_upto_region 13 with fail
              have N := Tri.new w4 (.int .i64 ((k : Int) + 1)) (.int .i64 v1) (.int .i64 j) 23
              replace K := K.alloc (.cells #[.int .i64 ((k : Int) + 1), .int .i64 v1, .int .i64 j] 23)
              replace B := balloc B (.cells #[.int .i64 ((k : Int) + 1), .int .i64 v1, .int .i64 j] 23)
              generalize w4.alloc (.cells #[.int .i64 ((k : Int) + 1), .int .i64 v1, .int .i64 j] 23) = W5 at *
              obtain ⟨_, n0, n1, n2, _, _, _⟩ := id N
              go_wp2_with fail
              refine (cm _).mono ?_
              rintro e w6 ⟨rfl, hb⟩
              replace N := N.kept hb
              replace K := K.kept hb
              replace B := bthen B hb
              clear hb cm n0 n1 n2
              obtain ⟨_, n0, n1, n2, _, _, _⟩ := id N
              obtain ⟨_, k0, k1, k2, f0, f1, f2⟩ := id K
              go_wp2
              refine bodyPost_ret (v := .tuple #[.agg #[.int .i64 0, .int .i64 0, .int .i64 0], .int .i64 13]) (by simp [results, Tryd.results13, go_sem, *]) rfl ⟨rfl, ?_⟩
              exact bset (bset (bset B (Nat.le_refl _) _ _) (Nat.le_refl _) _ _) (Nat.le_refl _) _ _
    · obtain rfl : k = 5 := by omega
      have R' : L = 0 ∧ y = 0 ∧ i = 0 ∧ er = 5 := by
        rcases RH.out with ⟨f, _, _⟩ | ⟨M, z, q, f, _⟩ | ⟨no, a⟩
        · have := form_level f
          exact absurd f (NO.out L this.1 (by have := this.2; omega) _ _)
        · have := form_level f
          exact absurd f (NO.out M this.1 (by have := this.2; omega) _ _)
        · exact a
      obtain ⟨rfl, rfl, rfl, rfl⟩ := R'
      replace K := K.kept B2
      replace B := bthen B B2
      have bp : decide (((5 : Nat) : Int) + 1 ≤ 5) = false := by decide
      obtain ⟨_, k0, k1, k2, f0, f1, f2⟩ := id K
      go_wp2
      refine bodyPost_ret (v := .tuple #[.agg #[.int .i64 0, .int .i64 0, .int .i64 0], .int .i64 5]) (by simp [results, Tryd.results13, go_sem, *]) rfl ⟨rfl, ?_⟩
      exact bset (bset (bset B (Nat.le_refl _) _ _) (Nat.le_refl _) _ _) (Nat.le_refl _) _ _

end Go.Proofs.YtfjckgnclhpmcaaDoor.Nr
