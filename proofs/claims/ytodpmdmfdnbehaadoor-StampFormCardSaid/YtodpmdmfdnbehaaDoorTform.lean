/- StampForm's walk. -/
import Derived.Test.YtodpmdmfdnbehaaDoorTlive
import Derived.Test.YtodpmdmfdnbehaaDoorTref
import Derived.Deep.RegionHeld3
import Derived.Test.YtodpmdmfdnbehaaDoorRowk
import Derived.StillTailTactics
import Derived.Deep.RegionLawGrows
namespace Go.Proofs.YtodpmdmfdnbehaaDoor.Tl
set_option linter.unusedSimpArgs false
set_option linter.unusedVariables false
open Go.RowKit Go.Proofs.YtodpmdmfdnbehaaDoor.Bx Go.Proofs.YtodpmdmfdnbehaaDoor.Cm Go.Proofs.YtodpmdmfdnbehaaDoor.Cp Go.Proofs.YtodpmdmfdnbehaaDoor.Em Go.Proofs.YtodpmdmfdnbehaaDoor.Ep Go.Proofs.YtodpmdmfdnbehaaDoor.Tm Go.Proofs.YtodpmdmfdnbehaaDoor.Tp

set_option maxHeartbeats 1000000

theorem turned_not {s : ByteArray} {k : Nat} {x : UInt8} (L : Like s dateF) (hk : k < 10) (nd : x.toNat < 48 ∨ 57 < x.toNat) (ne : ((⟨#[x]⟩ : ByteArray).toList == (s.extract k (k + 1)).toList) = false) :
    ¬ Like (s.extract 0 k ++ ⟨#[x]⟩ ++ s.extract (k + 1) 10) dateF := by
  obtain ⟨b0, b1, b2, b3, b4, b5, b6, b7, b8, b9, rfl⟩ := ten (s := s) L.1
  have dig : ¬ okAt x 48 := fun h => by rcases h with ⟨_, h⟩ | ⟨h, _⟩; omega; exact h rfl
  have hk : k = 0 ∨ k = 1 ∨ k = 2 ∨ k = 3 ∨ k = 4 ∨ k = 5 ∨ k = 6 ∨ k = 7 ∨ k = 8 ∨ k = 9 := by omega
  have ex := fun a b => ByteArray.extract_mk [b0, b1, b2, b3, b4, b5, b6, b7, b8, b9] a b
  intro H
  have HS : (⟨#[x]⟩ : ByteArray) = ByteArray.mk [x].toArray := rfl
  rw [show (⟨#[b0, b1, b2, b3, b4, b5, b6, b7, b8, b9]⟩ : ByteArray) = ByteArray.mk [b0, b1, b2, b3, b4, b5, b6, b7, b8, b9].toArray from rfl] at H ne
  rw [HS, ex, ex, ByteArray.mk_append_mk, ByteArray.mk_append_mk] at H
  rw [HS, ex, ByteArray.toList_mk, ByteArray.toList_mk] at ne
  have C := H.2 k
  rcases hk with rfl | rfl | rfl | rfl | rfl | rfl | rfl | rfl | rfl | rfl
  · exact dig (C (show 0 < 10 by decide) (show 0 < 10 by decide))
  · exact dig (C (show 1 < 10 by decide) (show 1 < 10 by decide))
  · exact dig (C (show 2 < 10 by decide) (show 2 < 10 by decide))
  · exact dig (C (show 3 < 10 by decide) (show 3 < 10 by decide))
  · have e1 : x = 45 := sep (C (show 4 < 10 by decide) (show 4 < 10 by decide)) (show (45 : UInt8) ≠ 48 by decide)
    have e2 : b4 = 45 := sep (L.2 4 (show 4 < 10 by decide) (show 4 < 10 by decide)) (show (45 : UInt8) ≠ 48 by decide)
    subst e1 e2; simp at ne
  · exact dig (C (show 5 < 10 by decide) (show 5 < 10 by decide))
  · exact dig (C (show 6 < 10 by decide) (show 6 < 10 by decide))
  · have e1 : x = 45 := sep (C (show 7 < 10 by decide) (show 7 < 10 by decide)) (show (45 : UInt8) ≠ 48 by decide)
    have e2 : b7 = 45 := sep (L.2 7 (show 7 < 10 by decide) (show 7 < 10 by decide)) (show (45 : UInt8) ≠ 48 by decide)
    subst e1 e2; simp at ne
  · exact dig (C (show 8 < 10 by decide) (show 8 < 10 by decide))
  · exact dig (C (show 9 < 10 by decide) (show 9 < 10 by decide))
theorem sinfo : (Tryd.prog.info? 9).map (fun i => (i.zero, i.size, i.bytes)) = some (some (.string ⟨#[]⟩), 1, 16) := by kernel_rfl
theorem sunder : Tryd.prog.underlying 51 = some (.slice 9) := by kernel_rfl

set_option maxRecDepth 100000 in
theorem form_walk (n a b : Int) (w : World) (wn : (Lit.int .i64 n).wf = true) (wa : (Lit.int .u8 a).wf = true) (wb : (Lit.int .u8 b).wf = true) (tb : Tabs w) :
    Calls Tryd.prog 14 #[.int .i64 n, .int .u8 a, .int .u8 b] w fun e w' => e = .returned (.bool true) ∧ Below w.heap.size w w' := by
  have cl := tlive_ok
  obtain ⟨a0, a1⟩ := bounds_u8 wa
  obtain ⟨b0, b1⟩ := bounds_u8 wb
  clear wn wa wb
  by_cases h : 0 ≤ n ∧ n ≤ 3068036
  · obtain ⟨n0, n1⟩ := h
    obtain ⟨y, m, d, ok, hn⟩ := num_ex n0 n1
    have c1 := fun w => Print_any n (dstr y m d) 0 w (.inl ⟨n0, n1, y, m, d, ok, hn, rfl, rfl⟩)
    have z := dstr_size y m d
    have LS : Like (dstr y m d) dateF := by
      obtain ⟨r0, r1, r2, r3, r4, r5⟩ := date_range ok
      exact date_like r0 r1 r2 r3 r4 r5
    generalize dstr y m d = s at *
    have ta : a.tmod 10 = a % 10 := Int.tmod_eq_emod_of_nonneg a0
    obtain ⟨k, hk⟩ : ∃ k : Nat, a % 10 = k := ⟨(a % 10).toNat, by omega⟩
    have k9 : k ≤ 9 := by omega
    have cuts : ∃ pa pb pc pd : ByteArray, pa = s.extract 0 k ∧ pb = s.extract (k + 1) 10 ∧ pc = s.extract k 10 ∧ pd = s.extract k (k + 1) := ⟨_, _, _, _, rfl, rfl, rfl, rfl⟩
    obtain ⟨pa, pb, pc, pd, hpa, hpb, hpc, hpd⟩ := cuts
    have za : pa.size = k := by rw [hpa]; simp [ByteArray.size_extract]; omega
    have zb : pb.size = 9 - k := by rw [hpb]; simp [ByteArray.size_extract]; omega
    have zc : pc.size = 10 - k := by rw [hpc]; simp [ByteArray.size_extract]; omega
    have e1 : ∀ w, (Instr.slice 9 (.string s) none (some (.int .i64 (k : Int))) none).run Tryd.prog w = .ok (.string pa) w := fun w => by
      rw [run_slice_string_to_if _ _ _ _ _ Tryd.underlying9, if_pos ⟨by omega, by omega⟩, hpa]; simp
    have e2 : ∀ w, (Instr.slice 9 (.string s) (some (.int .i64 ((k : Int) + 1))) none none).run Tryd.prog w = .ok (.string pb) w := fun w => by
      rw [run_slice_string_from_if _ _ _ _ _ Tryd.underlying9, if_pos ⟨by omega, by omega⟩, hpb, z, show ((k : Int) + 1).toNat = k + 1 by omega]
    have e3 : ∀ w, (Instr.slice 9 (.string s) (some (.int .i64 (k : Int))) none none).run Tryd.prog w = .ok (.string pc) w := fun w => by
      rw [run_slice_string_from_if _ _ _ _ _ Tryd.underlying9, if_pos ⟨by omega, by omega⟩, hpc, z]; simp
    have e4 : ∀ w, (Instr.slice 9 (.string s) (some (.int .i64 (k : Int))) (some (.int .i64 ((k : Int) + 1))) none).run Tryd.prog w = .ok (.string pd) w := fun w => by
      rw [run_slice_string _ _ _ _ _ _ _ Tryd.underlying9 (by omega) (by omega) (by omega), hpd, show ((k : Int) + 1).toNat = k + 1 by omega]; simp
    obtain ⟨x, hx⟩ : ∃ x : UInt8, (x.toNat : Int) = b := ⟨UInt8.ofNat b.toNat, by rw [UInt8.toNat_ofNat', Nat.mod_eq_of_lt (by omega)]; omega⟩
    obtain ⟨o, ho⟩ : ∃ o : ByteArray, o = ⟨#[x]⟩ := ⟨_, rfl⟩
    have zo : o.size = 1 := by rw [ho]; rfl
    obtain ⟨t1, h1⟩ : ∃ t, t = pa ++ pb := ⟨_, rfl⟩
    obtain ⟨px, hx1⟩ : ∃ t, t = pa ++ o := ⟨_, rfl⟩
    obtain ⟨t2, h2⟩ : ∃ t, t = px ++ pc := ⟨_, rfl⟩
    obtain ⟨t3, h3⟩ : ∃ t, t = s ++ o := ⟨_, rfl⟩
    obtain ⟨t4, h4⟩ : ∃ t, t = o ++ s := ⟨_, rfl⟩
    obtain ⟨t5, h5⟩ : ∃ t, t = px ++ pb := ⟨_, rfl⟩
    have zx : px.size = k + 1 := by rw [hx1, ByteArray.size_append, za, zo]
    have a1 : ∀ w, (Op.stringOp .add pa pb).run Tryd.prog w = .ok (.string t1) w := fun w => by rw [h1]; exact run_string_add_sum w _ _ (by omega)
    have a2 : ∀ w, (Op.stringOp .add pa o).run Tryd.prog w = .ok (.string px) w := fun w => by rw [hx1]; exact run_string_add_sum w _ _ (by omega)
    have a3 : ∀ w, (Op.stringOp .add px pc).run Tryd.prog w = .ok (.string t2) w := fun w => by rw [h2]; exact run_string_add_sum w _ _ (by omega)
    have a4 : ∀ w, (Op.stringOp .add s o).run Tryd.prog w = .ok (.string t3) w := fun w => by rw [h3]; exact run_string_add_sum w _ _ (by omega)
    have a5 : ∀ w, (Op.stringOp .add o s).run Tryd.prog w = .ok (.string t4) w := fun w => by rw [h4]; exact run_string_add_sum w _ _ (by omega)
    have a6 : ∀ w, (Op.stringOp .add px pb).run Tryd.prog w = .ok (.string t5) w := fun w => by rw [h5]; exact run_string_add_sum w _ _ (by omega)
    have n1 : ¬ Like t1 dateF := fun L => by have := L.1; rw [h1, ByteArray.size_append, za, zb] at this; change _ = 10 at this; omega
    have n2 : ¬ Like t2 dateF := fun L => by have := L.1; rw [h2, ByteArray.size_append, zx, zc] at this; change _ = 10 at this; omega
    have n3 : ¬ Like t3 dateF := fun L => by have := L.1; rw [h3, ByteArray.size_append, z, zo] at this; change _ = 10 at this; omega
    have n4 : ¬ Like t4 dateF := fun L => by have := L.1; rw [h4, ByteArray.size_append, z, zo] at this; change _ = 10 at this; omega
    have m1 : t1.size ≤ maxLen := by rw [h1, ByteArray.size_append, za, zb]; unfold maxLen; omega
    have m2 : t2.size ≤ maxLen := by rw [h2, ByteArray.size_append, zx, zc]; unfold maxLen; omega
    have m3 : t3.size ≤ maxLen := by rw [h3, ByteArray.size_append, z, zo]; unfold maxLen; omega
    have m4 : t4.size ≤ maxLen := by rw [h4, ByteArray.size_append, z, zo]; unfold maxLen; omega
    have hcv : ∀ w2 : World, (convert 50 9 (.slice (some ⟨w2.heap.size, 0, none⟩) 1 1)).run Tryd.prog (w2.alloc (.cells #[.int .u8 b] 5)) = .ok (.string o) (w2.alloc (.cells #[.int .u8 b] 5)) := fun w2 => by
      rw [ho]
      exact run_convert_bytes_back (P := Tryd.prog) (w2.alloc (.cells #[.int .u8 b] 5)) 50 9 5 ⟨w2.heap.size, 0, none⟩ 1 [x] Tryd.underlying50 Tryd.underlying5 Tryd.underlying9 (fun j hj => by
          obtain rfl : j = 0 := by simpa using hj
          simp [go_sem, hx])
    have HO := Lib.hid (And.intro ho hx)
    clear ho hx
    have HLS := Lib.hid LS
    clear LS
    have HN := Lib.hid (And.intro n1 (And.intro n2 (And.intro n3 n4)))
    have HM := Lib.hid (And.intro m1 (And.intro m2 (And.intro m3 m4)))
    have H5 := Lib.hid (And.intro hpa (And.intro hpb (And.intro hx1 h5)))
    have HD := Lib.hid hpd
    clear hpd n1 n2 n3 n4 m1 m2 m3 m4 h1 h2 h3 h4 h5 hx1 hpa hpb hpc za zb zc zx zo
    clear ok hn
    go_enter Tryd.func14, Tryd.ntmps14
    go_wp2_with fail
    refine (cl _ tb).mono ?_
    rintro e w1 ⟨rfl, hb⟩
    have B1 := bthen (Below.refl _ w) hb
    clear hb
    go_wp2_with fail
    refine (c1 _ (tb.kept B1)).mono ?_
    rintro e w2 ⟨rfl, hb⟩
    replace B1 := bthen B1 hb
    clear hb cl c1
    have hconv := hcv w2
    obtain ⟨W1, hW1⟩ : ∃ W1 : World, w2.alloc (.cells #[.int .u8 b] 5) = W1 := ⟨_, rfl⟩
    have BW : Below w.heap.size w W1 := by rw [← hW1]; exact balloc B1 _
    rw [hW1] at hconv
    clear B1
    have w10 : IntKind.i64.wrap ((k : Int) + 1) = (k : Int) + 1 := IntWalk.i64_in _ (by omega)
    go_wp2
    clear hW1
    go_still_tail 23, (by kernel_rfl)
    by_cases dig : 48 ≤ b ∧ b ≤ 57
    · obtain ⟨g0, g1⟩ := dig
      have HC : Hid (∀ i, i < 4 → ¬ Like ([t1, t2, t3, t4].getD i t1) dateF ∧ ([t1, t2, t3, t4].getD i t1).size ≤ maxLen) := Lib.hid (fun i hi => by
        obtain ⟨n1, n2, n3, n4⟩ := HN.out
        obtain ⟨m1, m2, m3, m4⟩ := HM.out
        have hi : i = 0 ∨ i = 1 ∨ i = 2 ∨ i = 3 := by omega
        rcases hi with rfl | rfl | rfl | rfl
        · exact ⟨n1, m1⟩
        · exact ⟨n2, m2⟩
        · exact ⟨n3, m3⟩
        · exact ⟨n4, m4⟩)
      clear e1 e2 e3 e4 a1 a2 a3 a4 a5 a6 hconv hcv ta hk w10
      go_wp2
      go_loopw [88] (fun I wr => ∃ i : Nat, i ≤ 4 ∧ I = .int .i64 i ∧ Below w.heap.size w wr ∧ W1.heap.size < wr.heap.size ∧ ∀ i, i < 4 → wr.cell? ⟨W1.heap.size, i, none⟩ = some (.string ([t1, t2, t3, t4].getD i t1))) (fun I _ => 4 - (intOf I).toNat)
      case atStart =>
        refine ⟨0, by omega, rfl, balloc BW.drew _, by simp [go_sem], fun i hi => ?_⟩
        have hi : i = 0 ∨ i = 1 ∨ i = 2 ∨ i = 3 := by omega
        rcases hi with rfl | rfl | rfl | rfl <;> simp [go_sem]
      case round =>
        clear z
        obtain ⟨i, hi, rfl, hb, hlt, hc⟩ := hrel
        by_cases c : i < 4
        · have ci := hc i c
          obtain ⟨no, mm⟩ := HC.out i c
          generalize [t1, t2, t3, t4].getD i t1 = t at *
          have cp := fun w T => Parse_t t 0 5 w mm (.inr ⟨no, rfl, rfl⟩) T
          have HH := Lib.hid hc
          clear hc
          have pp : (0 : Int) ≤ (i : Int) := by omega
          have bp : (i : Int) < 4 := by omega
          go_wp2_with fail
          refine (cp _ (tb.kept hb)).mono ?_
          rintro e w9 ⟨rfl, hb9⟩
          go_wp2
          go_roundw
          case rel => exact ⟨i + 1, by omega, by go_num, bthen hb hb9, Nat.lt_of_lt_of_le hlt hb9.size, fun i hi => (hb9.cell (p := ⟨W1.heap.size, i, none⟩) hlt).trans (HH.out i hi)⟩
          case measure => simp [intOf]; omega
        · obtain rfl : i = 4 := by omega
          go_wp2
          go_ret
          exact ⟨rfl, hb⟩
    · have nd : b < 48 ∨ (48 ≤ b ∧ 57 < b) := by omega
      clear dig
      by_cases same : (o.toList == pd.toList) = true
      · have same2 : (!(o.toList == pd.toList)) = false := by rw [same]; rfl
        rcases nd with g0 | ⟨g0, g1⟩
        all_goals
          have HC : Hid (∀ i, i < 4 → ¬ Like ([t1, t2, t3, t4].getD i t1) dateF ∧ ([t1, t2, t3, t4].getD i t1).size ≤ maxLen) := Lib.hid (fun i hi => by
            obtain ⟨n1, n2, n3, n4⟩ := HN.out
            obtain ⟨m1, m2, m3, m4⟩ := HM.out
            have hi : i = 0 ∨ i = 1 ∨ i = 2 ∨ i = 3 := by omega
            rcases hi with rfl | rfl | rfl | rfl
            · exact ⟨n1, m1⟩
            · exact ⟨n2, m2⟩
            · exact ⟨n3, m3⟩
            · exact ⟨n4, m4⟩)
          clear e1 e2 e3 a1 a2 a3 a4 a5 a6 hconv hcv ta hk w10
          go_wp2
          go_loopw [88] (fun I wr => ∃ i : Nat, i ≤ 4 ∧ I = .int .i64 i ∧ Below w.heap.size w wr ∧ W1.heap.size < wr.heap.size ∧ ∀ i, i < 4 → wr.cell? ⟨W1.heap.size, i, none⟩ = some (.string ([t1, t2, t3, t4].getD i t1))) (fun I _ => 4 - (intOf I).toNat)
          case atStart =>
            refine ⟨0, by omega, rfl, balloc BW.drew _, by simp [go_sem], fun i hi => ?_⟩
            have hi : i = 0 ∨ i = 1 ∨ i = 2 ∨ i = 3 := by omega
            rcases hi with rfl | rfl | rfl | rfl <;> simp [go_sem]
          case round =>
            clear z
            obtain ⟨i, hi, rfl, hb, hlt, hc⟩ := hrel
            by_cases c : i < 4
            · have ci := hc i c
              obtain ⟨no, mm⟩ := HC.out i c
              generalize [t1, t2, t3, t4].getD i t1 = t at *
              have cp := fun w T => Parse_t t 0 5 w mm (.inr ⟨no, rfl, rfl⟩) T
              have HH := Lib.hid hc
              clear hc
              have pp : (0 : Int) ≤ (i : Int) := by omega
              have bp : (i : Int) < 4 := by omega
              go_wp2_with fail
              refine (cp _ (tb.kept hb)).mono ?_
              rintro e w9 ⟨rfl, hb9⟩
              go_wp2
              go_roundw
              case rel => exact ⟨i + 1, by omega, by go_num, bthen hb hb9, Nat.lt_of_lt_of_le hlt hb9.size, fun i hi => (hb9.cell (p := ⟨W1.heap.size, i, none⟩) hlt).trans (HH.out i hi)⟩
              case measure => simp [intOf]; omega
            · obtain rfl : i = 4 := by omega
              go_wp2
              go_ret
              exact ⟨rfl, hb⟩
      · have same' : (o.toList == pd.toList) = false := by simpa using same
        have n5 : ¬ Like t5 dateF := by
          obtain ⟨g1, g2, g3, g4⟩ := H5.out
          obtain ⟨g5, g6⟩ := HO.out
          rw [g4, g3, g1, g2, g5]
          exact turned_not HLS.out (by omega) (by omega) (by rw [← g5, ← HD.out]; exact same')
        have m5 : t5.size ≤ maxLen := by
          obtain ⟨g1, g2, g3, g4⟩ := H5.out
          obtain ⟨g5, g6⟩ := HO.out
          rw [g4, g3, g1, g2, g5]
          simp only [ByteArray.size_append, ByteArray.size_extract, z]
          show _ + 1 + _ ≤ _
          unfold maxLen; omega
        have HC : Hid (∀ i, i < 5 → ¬ Like ([t1, t2, t3, t4, t5].getD i t1) dateF ∧ ([t1, t2, t3, t4, t5].getD i t1).size ≤ maxLen) := Lib.hid (fun i hi => by
          obtain ⟨n1, n2, n3, n4⟩ := HN.out
          obtain ⟨m1, m2, m3, m4⟩ := HM.out
          have hi : i = 0 ∨ i = 1 ∨ i = 2 ∨ i = 3 ∨ i = 4 := by omega
          rcases hi with rfl | rfl | rfl | rfl | rfl
          · exact ⟨n1, m1⟩
          · exact ⟨n2, m2⟩
          · exact ⟨n3, m3⟩
          · exact ⟨n4, m4⟩
          · exact ⟨n5, m5⟩)
        obtain ⟨i0, hi, hz0, hz1, hz2⟩ := info_parts sinfo
        clear same n5 m5 hcv ta hk
        obtain ⟨W2, hW2⟩ : ∃ W2 : World, (W1.alloc (.cells #[.string t1, .string t2, .string t3, .string t4] 9)).drew = W2 := ⟨_, rfl⟩
        have B2 : Below w.heap.size w W2 := by rw [← hW2]; exact (balloc BW _).drew
        have HS : Hid (∀ X : World, Below W2.heap.size W2 X → ∀ j u, [Value.string t1, .string t2, .string t3, .string t4][j]? = some u → X.cell? ((⟨W1.heap.size, 0, none⟩ : Addr).add j) = some u) := Lib.hid (fun X hX j u hj => by
          have lt : W1.heap.size < W2.heap.size := by rw [← hW2]; simp
          have e : X.cell? ((⟨W1.heap.size, 0, none⟩ : Addr).add j) = W2.cell? ((⟨W1.heap.size, 0, none⟩ : Addr).add j) := hX.cell (by unfold Addr.add; split <;> exact lt)
          rw [e, ← hW2]
          match j, hj with
          | 0, hj => simp at hj; subst hj; simp [go_sem]
          | 1, hj => simp at hj; subst hj; simp [go_sem]
          | 2, hj => simp at hj; subst hj; simp [go_sem]
          | 3, hj => simp at hj; subst hj; simp [go_sem]
          | j + 4, hj => simp at hj)
        have HK : Hid (∀ (X : World) (v' : Value) (w' : World), Below W2.heap.size W2 X → w'.ownsRow X.heap.size 9 1 v' (4 + 1) ([Value.string t1, .string t2, .string t3, .string t4] ++ [.string t5]) → X.grownBy w' none →
            ∃ g cap, v' = .slice (some ⟨g, 0, none⟩) 5 cap ∧ g < w'.heap.size ∧ Below w.heap.size w w' ∧ ∀ i, i < 5 → w'.cell? ⟨g, i, none⟩ = some (.string ([t1, t2, t3, t4, t5].getD i t1))) := Lib.hid (fun X v' w' hX own gr => by
          obtain ⟨g, cap, rfl, h3, h4⟩ := own.form (by omega)
          refine ⟨g, cap, rfl, h4, Rk.below_grown (bthen B2 hX) gr (fun k h => by cases h) (Nat.le_refl _), fun i hi => ?_⟩
          rw [own.cellAt i (by omega)]
          have hi : i = 0 ∨ i = 1 ∨ i = 2 ∨ i = 3 ∨ i = 4 := by omega
          rcases hi with rfl | rfl | rfl | rfl | rfl <;> rfl)
        rcases nd with g0 | ⟨g0, g1⟩
        all_goals
          go_wp2
          clear hW2
          go_region_law ((refine step_append_grows rfl (.tmp 73) (.tmp 84) 51 rfl 9 i0 (.string ⟨#[]⟩) 1 16 sunder hi hz0 hz1 hz2 rfl (by decide) (some ⟨W1.heap.size, 0, none⟩) 4 4 [.string t1, .string t2, .string t3, .string t4] (by simp [Act.eval, Act.put]) (fun h => by cases h) rfl (fun b hb j u hj => by cases hb; exact HS.out _ (by first | exact balloc (Below.refl _ _) _ | exact balloc (Below.refl _ _).drew _ | exact (balloc (Below.refl _ _) _).drew) j u hj) ⟨W2.heap.size, 0, none⟩ 1 1 [.string t5] (by simp [Act.eval, Act.put]) rfl (fun j u hj => by match j, hj with
            | 0, hj => simp at hj; subst hj; simp [go_sem, Addr.add]
            | j + 1, hj => simp at hj) (fun u hu => by simp at hu; subst hu; rfl) (by decide) (by unfold maxLen; omega) (by omega) ?_); intro v' w' own gr; obtain ⟨g, cap, rfl, hlt, hb, hc⟩ := HK.out _ v' w' (by first | exact balloc (Below.refl _ _) _ | exact balloc (Below.refl _ _).drew _ | exact (balloc (Below.refl _ _) _).drew) own gr; clear own gr)
          clear HK HS B2 hi hz0 hz1 hz2 e1 e2 e3 e4 a1 a2 a3 a4 a5 a6 w10
          go_wp2
          go_loopw [88] (fun I wr => ∃ i : Nat, i ≤ 5 ∧ I = .int .i64 i ∧ Below w.heap.size w wr ∧ g < wr.heap.size ∧ ∀ i, i < 5 → wr.cell? ⟨g, i, none⟩ = some (.string ([t1, t2, t3, t4, t5].getD i t1))) (fun I _ => 5 - (intOf I).toNat)
          case atStart => exact ⟨0, by omega, rfl, hb, hlt, hc⟩
          case round =>
            clear z hb hlt hc
            obtain ⟨i, hi, rfl, hb, hlt, hc⟩ := hrel
            by_cases c : i < 5
            · have ci := hc i c
              obtain ⟨no, mm⟩ := HC.out i c
              generalize [t1, t2, t3, t4, t5].getD i t1 = t at *
              have cp := fun w T => Parse_t t 0 5 w mm (.inr ⟨no, rfl, rfl⟩) T
              have HH := Lib.hid hc
              clear hc
              have pp : (0 : Int) ≤ (i : Int) := by omega
              have bp : (i : Int) < 5 := by omega
              go_wp2_with fail
              refine (cp _ (tb.kept hb)).mono ?_
              rintro e w9 ⟨rfl, hb9⟩
              go_wp2
              go_roundw
              case rel => exact ⟨i + 1, by omega, by go_num, bthen hb hb9, Nat.lt_of_lt_of_le hlt hb9.size, fun i hi => (hb9.cell (p := ⟨g, i, none⟩) hlt).trans (HH.out i hi)⟩
              case measure => simp [intOf]; omega
            · obtain rfl : i = 5 := by omega
              go_wp2
              go_ret
              exact ⟨rfl, hb⟩
  · have c1 := fun w => Print_any n _ 4 w (.inr ⟨h, rfl, rfl⟩)
    clear h
    go_enter Tryd.func14, Tryd.ntmps14
    go_wp2_with fail
    refine (cl _ tb).mono ?_
    rintro e w1 ⟨rfl, hb⟩
    have B1 := bthen (Below.refl _ w) hb
    clear hb
    go_wp2_with fail
    refine (c1 _ (tb.kept B1)).mono ?_
    rintro e w2 ⟨rfl, hb⟩
    replace B1 := bthen B1 hb
    go_wp2
    go_ret
    exact ⟨by simp, B1⟩

end Go.Proofs.YtodpmdmfdnbehaaDoor.Tl
