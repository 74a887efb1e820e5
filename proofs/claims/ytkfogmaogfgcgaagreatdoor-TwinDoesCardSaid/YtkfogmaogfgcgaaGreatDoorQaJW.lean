/- Texts that are joined: Hcode4, Hcode5, Hcode6. -/
import Derived.Test.YtkfogmaogfgcgaaGreatDoorQaJH
namespace Go.Proofs.YtkfogmaogfgcgaaGreatDoor.Hp
set_option linter.unusedSimpArgs false
set_option linter.unusedVariables false
open Go.RowKit Bn Bx Cp Am Fp Ap Cm Em Ep Rk

set_option maxHeartbeats 2000000

theorem hinfoN : (Tryz.prog.info? 3).map (fun i => (i.zero, i.size, i.bytes)) = some (some (.int .i64 0), 1, 8) := by kernel_rfl
theorem hunderN : Tryz.prog.underlying 65 = some (.slice 3) := by kernel_rfl

def fend (c : CalZ) (y : Int) (i : Nat) : Int := pend c y ((i : Int) + 1)
def fwk (c : CalZ) (y : Int) (i : Nat) : Int := wks c y ((i : Int) + 1)

set_option maxRecDepth 100000 in
theorem endsFrom_any (c : CalZ) (y a : Int) (n : Nat) (w : World) (ok : CalOk c) (y0 : 1601 ≤ y) (y1 : y ≤ 9997) (ha : a = pend c y 0 + 1) (hn : (n : Int) = per c) (hm : c.nm.size ≤ maxLen) (T : FTab w) :
    Calls Tryz.prog 236 #[.agg #[.string c.nm, .int .i64 c.k, .int .i64 c.d, .int .i64 c.m, .int .i64 c.s, .int .i64 c.sh, .int .i64 c.p0, .int .i64 c.p1, .int .i64 c.p2, .int .i64 c.cy, .int .i64 c.ex, .int .i64 c.fi, .int .i64 c.la, .int .i64 c.po], .int .i64 y, .int .i64 a] w (IntsOne w n (fend c y)) := by
  have C := CalIn.new w c 24
  have B := balloc (Below.refl _ w) (.cells #[.string c.nm, .int .i64 c.k, .int .i64 c.d, .int .i64 c.m, .int .i64 c.s, .int .i64 c.sh, .int .i64 c.p0, .int .i64 c.p1, .int .i64 c.p2, .int .i64 c.cy, .int .i64 c.ex, .int .i64 c.fi, .int .i64 c.la, .int .i64 c.po] 24)
  replace T := T.alloc (.cells #[.string c.nm, .int .i64 c.k, .int .i64 c.d, .int .i64 c.m, .int .i64 c.s, .int .i64 c.sh, .int .i64 c.p0, .int .i64 c.p1, .int .i64 c.p2, .int .i64 c.cy, .int .i64 c.ex, .int .i64 c.fi, .int .i64 c.la, .int .i64 c.po] 24)
  have pb := per_bd ok.1
  have n0 : 0 < n := by omega
  have n1 : n ≤ 52 := by omega
  have cp := fun w T => Periods_any c (n : Int) 0 w (.inl ⟨ok, hn, rfl⟩) hm T
  have CM : Hid (∀ k : Nat, k < n → ∃ f v : Int, f = pend c y k + 1 ∧ v = fend c y k ∧ 0 ≤ f ∧ f ≤ 3068037 ∧ 0 ≤ v ∧ v ≤ 3068036 ∧ ∀ w, FTab w → Calls Tryz.prog 248 #[.agg #[.string c.nm, .int .i64 c.k, .int .i64 c.d, .int .i64 c.m, .int .i64 c.s, .int .i64 c.sh, .int .i64 c.p0, .int .i64 c.p1, .int .i64 c.p2, .int .i64 c.cy, .int .i64 c.ex, .int .i64 c.fi, .int .i64 c.la, .int .i64 c.po], .int .i64 y, .int .i64 ((k : Int) + 1), .int .i64 f] w fun e w' => e = .returned (.int .i64 v) ∧ Below w.heap.size w w') :=
    Lib.hid (fun k hk => by
      have b0 := pend_bd ok.1 y0 y1 (p := (k : Int)) (by omega) (by omega)
      have b1 := pend_bd ok.1 y0 y1 (p := (k : Int) + 1) (by omega) (by omega)
      exact ⟨_, _, rfl, rfl, by omega, by omega, b1.1, b1.2, fun w T => pendOf_any c y ((k : Int) + 1) _ _ w ok y0 y1 (by omega) (by omega) (by rw [show (k : Int) + 1 - 1 = k by omega]) rfl hm T⟩)
  have HA : Hid (a = pend c y (0 : Nat) + 1) := Lib.hid ha
  obtain ⟨i0, hi, hz0, hz1, hz2⟩ := info_parts hinfoN
  clear ok ha hn pb
  go_enter Tryz.func236, Tryz.ntmps236
  go_upto_region 1 with fail
  generalize w.alloc (.cells #[.string c.nm, .int .i64 c.k, .int .i64 c.d, .int .i64 c.m, .int .i64 c.s, .int .i64 c.sh, .int .i64 c.p0, .int .i64 c.p1, .int .i64 c.p2, .int .i64 c.cy, .int .i64 c.ex, .int .i64 c.fi, .int .i64 c.la, .int .i64 c.po] 24) = W0 at *
  obtain ⟨_, c0, c1, c2, c3, c4, c5, c6, c7, c8, c9, c10, c11, c12, c13⟩ := id C
  go_wp2_with fail
  refine (cp _ T).mono ?_
  rintro e w1 ⟨rfl, hb⟩
  replace C := C.kept hb
  replace B := bthen B hb
  replace T := T.kept hb
  clear hb c0 c1 c2 c3 c4 c5 c6 c7 c8 c9 c10 c11 c12 c13
  obtain ⟨_, c0, c1, c2, c3, c4, c5, c6, c7, c8, c9, c10, c11, c12, c13⟩ := id C
  clear cp c0 c1 c2 c3 c4 c5 c6 c7 c8 c9 c10 c11 c12 c13
  go_wp2
  go_loopw [2, 9, 10] (fun X O Y wr => ∃ k : Nat, k ≤ n ∧ Y = .int .i64 ((k : Int) + 1) ∧ (∃ f : Int, X = .int .i64 f ∧ Hid (f = pend c y k + 1)) ∧ One 3 w1 wr O k (fend c y)) (fun _ _ Y _ => (54 - intOf Y).toNat)
  case atStart => exact ⟨0, by omega, rfl, ⟨a, rfl, HA⟩, One.start _ w1 (Below.refl _ w1) _⟩
  case round =>
    obtain ⟨k, hk, rfl, ⟨f, rfl, hf⟩, X⟩ := hrel
    by_cases hlt : k < n
    · obtain ⟨f', v, e1, e2, f0, f1, v0, v1, cc⟩ := CM.out k hlt
      obtain rfl : f = f' := hf.out.trans e1.symm
      have Ck := C.kept X.below
      have E2 := Lib.hid e2
      have E3 : Hid (v + 1 = pend c y ((k + 1 : Nat) : Int) + 1) := Lib.hid (by rw [e2]; unfold fend; rw [show ((k + 1 : Nat) : Int) = (k : Int) + 1 by omega])
      have ck := cc wr (T.kept X.below)
      clear e1 e2 cc hf
      obtain ⟨_, c0, c1, c2, c3, c4, c5, c6, c7, c8, c9, c10, c11, c12, c13⟩ := id Ck
      go_wp2_with fail
      refine ck.mono ?_
      rintro e w3 ⟨rfl, hb⟩
      replace X := X.kept hb
      have sz := X.below.size
      clear hb ck Ck c0 c1 c2 c3 c4 c5 c6 c7 c8 c9 c10 c11 c12 c13
      go_wp2_with (first
        | (at_builtin; refine wpList_append_lies _ rfl _ _ 65 rfl w1.heap.size 3 i0 (.int .i64 0) 1 8 hunderN hi hz0 hz1 hz2 rfl (by decide) _ k (lst (fend c y) k) rfl (X.a.alloc _) ⟨w3.heap.size, 0, none⟩ 1 1 [.int .i64 v] rfl rfl ?q1 ?q2 (by omega) ?q3 ?q4 ?q5 _ rfl ?q6))
      case q1 =>
        intro j u hj
        match j, hj with
        | 0, hj => simp at hj; subst hj; simp [Addr.add, go_sem]
      case q2 => intro u hu; simp at hu; subst hu; rfl
      case q3 => unfold maxLen; omega
      case q4 => omega
      case q5 => simp; omega
      case q6 =>
        intro g1 cap1 w4 hown1 hgrow1 hat1 hlt1
        have X2 := X.next (o1 := .cells #[.int .i64 v] 3) E2.out hown1 hgrow1
        clear hown1 hgrow1 hat1 hlt1 X sz
        go_wp2
        go_roundw
        case rel => exact ⟨k + 1, by omega, by go_num, ⟨v + 1, rfl, E3⟩, X2⟩
        case measure => simp [intOf]; omega
    · obtain rfl : k = n := by omega
      obtain ⟨g1, cap1, rfl, hg1, R1⟩ := X.out n0
      have Y : IntsOne w k (fend c y) (.returned (.slice (some ⟨g1, 0, none⟩) k cap1)) wr := ⟨g1, cap1, rfl, R1, Nat.le_trans B.size hg1, bthen B X.below⟩
      have HY := Lib.hid Y
      have dk : decide ((k : Int) + 1 ≤ (k : Int)) = false := decide_eq_false (by omega)
      clear Y X R1
      go_wp2
      exact bodyPost_ret (v := .slice (some ⟨g1, 0, none⟩) k cap1) (by simp [results, Tryz.results236, go_sem]) rfl HY.out

set_option maxRecDepth 100000 in
theorem Ends_ok (c : CalZ) (y : Int) (n : Nat) (w : World) (ok : CalOk c) (y0 : 1601 ≤ y) (y1 : y ≤ 9997) (hn : (n : Int) = per c) (hm : c.nm.size ≤ maxLen) (T : FTab w) :
    Calls Tryz.prog 200 #[.agg #[.string c.nm, .int .i64 c.k, .int .i64 c.d, .int .i64 c.m, .int .i64 c.s, .int .i64 c.sh, .int .i64 c.p0, .int .i64 c.p1, .int .i64 c.p2, .int .i64 c.cy, .int .i64 c.ex, .int .i64 c.fi, .int .i64 c.la, .int .i64 c.po], .int .i64 y] w (IntsOut w n (fend c y)) := by
  have C := CalIn.new w c 24
  have B := balloc (Below.refl _ w) (.cells #[.string c.nm, .int .i64 c.k, .int .i64 c.d, .int .i64 c.m, .int .i64 c.s, .int .i64 c.sh, .int .i64 c.p0, .int .i64 c.p1, .int .i64 c.p2, .int .i64 c.cy, .int .i64 c.ex, .int .i64 c.fi, .int .i64 c.la, .int .i64 c.po] 24)
  replace T := T.alloc (.cells #[.string c.nm, .int .i64 c.k, .int .i64 c.d, .int .i64 c.m, .int .i64 c.s, .int .i64 c.sh, .int .i64 c.p0, .int .i64 c.p1, .int .i64 c.p2, .int .i64 c.cy, .int .i64 c.ex, .int .i64 c.fi, .int .i64 c.la, .int .i64 c.po] 24)
  obtain ⟨a, ha⟩ : ∃ a, a = pend c y 0 + 1 := ⟨_, rfl⟩
  have bd := pend_bd ok.1 y0 y1 (p := 0) (by omega) (by have := per_bd ok.1; omega)
  have cs := fun w T => Start_any c y a 0 w (.inl ⟨ok, y0, y1, by rw [ha, pend_zero], rfl⟩) hm T
  have ce := fun w T => endsFrom_any c y a n w ok y0 y1 ha hn hm T
  obtain ⟨b0, b1⟩ : 0 ≤ a ∧ a ≤ 3068037 := by omega
  clear ok hn ha bd
  go_enter Tryz.func200, Tryz.ntmps200
  go_upto_region 1 with fail
  generalize w.alloc (.cells #[.string c.nm, .int .i64 c.k, .int .i64 c.d, .int .i64 c.m, .int .i64 c.s, .int .i64 c.sh, .int .i64 c.p0, .int .i64 c.p1, .int .i64 c.p2, .int .i64 c.cy, .int .i64 c.ex, .int .i64 c.fi, .int .i64 c.la, .int .i64 c.po] 24) = W0 at *
  obtain ⟨_, c0, c1, c2, c3, c4, c5, c6, c7, c8, c9, c10, c11, c12, c13⟩ := id C
  go_wp2_with fail
  refine (cs _ T).mono ?_
  rintro e w1 ⟨rfl, hb⟩
  replace C := C.kept hb
  replace B := bthen B hb
  replace T := T.kept hb
  clear hb c0 c1 c2 c3 c4 c5 c6 c7 c8 c9 c10 c11 c12 c13
  obtain ⟨_, c0, c1, c2, c3, c4, c5, c6, c7, c8, c9, c10, c11, c12, c13⟩ := id C
  go_wp2_with fail
  refine (ce _ T).mono ?_
  rintro e w2 ⟨g, cap, rfl, R, hg, hb⟩
  have Y : IntsOut w n (fend c y) (.returned (.tuple #[.slice (some ⟨g, 0, none⟩) n cap, .int .i64 0])) w2 := ⟨g, cap, rfl, R, Nat.le_trans B.size hg, bthen B hb⟩
  have HY := Lib.hid Y
  clear Y R hg hb ce cs
  go_wp2
  exact bodyPost_ret (v := .tuple #[.slice (some ⟨g, 0, none⟩) n cap, .int .i64 0]) (by simp [results, Tryz.results200, go_sem]) rfl HY.out

def NoYear (c : CalZ) (y er : Int) : Prop := (CalOk c ∧ ¬ (1601 ≤ y ∧ y ≤ 9997) ∧ er = 11) ∨ (¬ CalOk c ∧ er = 1)
theorem NoYear.er {c : CalZ} {y er : Int} (h : NoYear c y er) : er = 11 ∨ er = 1 := by rcases h with ⟨_, _, h⟩ | ⟨_, h⟩ <;> omega
theorem NoYear.start {c : CalZ} {y er : Int} (h : NoYear c y er) : StartA c y 0 er := by
  rcases h with ⟨a, b, rfl⟩ | ⟨a, rfl⟩
  · exact .inr (.inl ⟨a, b, rfl, rfl⟩)
  · exact .inr (.inr ⟨a, rfl, rfl⟩)

set_option maxRecDepth 100000 in
theorem Weeks_ok (c : CalZ) (y : Int) (n : Nat) (w : World) (ok : CalOk c) (y0 : 1601 ≤ y) (y1 : y ≤ 9997) (hn : (n : Int) = per c) (hm : c.nm.size ≤ maxLen) (T : FTab w) :
    Calls Tryz.prog 233 #[.agg #[.string c.nm, .int .i64 c.k, .int .i64 c.d, .int .i64 c.m, .int .i64 c.s, .int .i64 c.sh, .int .i64 c.p0, .int .i64 c.p1, .int .i64 c.p2, .int .i64 c.cy, .int .i64 c.ex, .int .i64 c.fi, .int .i64 c.la, .int .i64 c.po], .int .i64 y] w (IntsOut w n (fwk c y)) := by
  have C := CalIn.new w c 24
  have B := balloc (Below.refl _ w) (.cells #[.string c.nm, .int .i64 c.k, .int .i64 c.d, .int .i64 c.m, .int .i64 c.s, .int .i64 c.sh, .int .i64 c.p0, .int .i64 c.p1, .int .i64 c.p2, .int .i64 c.cy, .int .i64 c.ex, .int .i64 c.fi, .int .i64 c.la, .int .i64 c.po] 24)
  replace T := T.alloc (.cells #[.string c.nm, .int .i64 c.k, .int .i64 c.d, .int .i64 c.m, .int .i64 c.s, .int .i64 c.sh, .int .i64 c.p0, .int .i64 c.p1, .int .i64 c.p2, .int .i64 c.cy, .int .i64 c.ex, .int .i64 c.fi, .int .i64 c.la, .int .i64 c.po] 24)
  have pb := per_bd ok.1
  have n0 : 0 < n := by omega
  have n1 : n ≤ 52 := by omega
  obtain ⟨a, ha⟩ : ∃ a, a = pend c y 0 + 1 := ⟨_, rfl⟩
  have bd := pend_bd ok.1 y0 y1 (p := 0) (by omega) (by have := per_bd ok.1; omega)
  have cs := fun w T => Start_any c y a 0 w (.inl ⟨ok, y0, y1, by rw [ha, pend_zero], rfl⟩) hm T
  have ce := fun w T => endsFrom_any c y a n w ok y0 y1 ha hn hm T
  obtain ⟨b0, b1⟩ : 0 ≤ a ∧ a ≤ 3068037 := by omega
  have CM : Hid (∀ k : Nat, k < n → ∃ f v m : Int, f = pend c y k + 1 ∧ v = fend c y k ∧ m = fwk c y k ∧ 0 ≤ f ∧ f ≤ 3068037 ∧ 0 ≤ v ∧ v ≤ 3068036 ∧ ∀ w, Calls Tryz.prog 238 #[.int .i64 f, .int .i64 v] w fun e w' => e = .returned (.int .i64 m) ∧ Below w.heap.size w w') :=
    Lib.hid (fun k hk => by
      have b0 := pend_bd ok.1 y0 y1 (p := (k : Int)) (by omega) (by omega)
      have b1 := pend_bd ok.1 y0 y1 (p := (k : Int) + 1) (by omega) (by omega)
      have st := (step_bd ok.1 y0 y1 (p := (k : Int) + 1) (by omega) (by omega)).1
      rw [show (k : Int) + 1 - 1 = k by omega] at st
      exact ⟨_, _, _, rfl, rfl, rfl, by omega, by omega, b1.1, b1.2, fun w => count_any _ _ _ w (by unfold fwk wks fend; rw [show (k : Int) + 1 - 1 = k by omega]; congr 1; omega) (by omega) (by unfold fend; omega) b1.2⟩)
  have HA : Hid (a = pend c y (0 : Nat) + 1) := Lib.hid ha
  obtain ⟨i0, hi, hz0, hz1, hz2⟩ := info_parts hinfoN
  clear ok hn ha bd pb
  go_enter Tryz.func233, Tryz.ntmps233
  go_upto_region 1 with fail
  generalize w.alloc (.cells #[.string c.nm, .int .i64 c.k, .int .i64 c.d, .int .i64 c.m, .int .i64 c.s, .int .i64 c.sh, .int .i64 c.p0, .int .i64 c.p1, .int .i64 c.p2, .int .i64 c.cy, .int .i64 c.ex, .int .i64 c.fi, .int .i64 c.la, .int .i64 c.po] 24) = W0 at *
  obtain ⟨_, c0, c1, c2, c3, c4, c5, c6, c7, c8, c9, c10, c11, c12, c13⟩ := id C
  go_wp2_with fail
  refine (cs _ T).mono ?_
  rintro e w1 ⟨rfl, hb⟩
  replace C := C.kept hb
  replace B := bthen B hb
  replace T := T.kept hb
  clear hb c0 c1 c2 c3 c4 c5 c6 c7 c8 c9 c10 c11 c12 c13
  obtain ⟨_, c0, c1, c2, c3, c4, c5, c6, c7, c8, c9, c10, c11, c12, c13⟩ := id C
  go_wp2_with fail
  refine (ce _ T).mono ?_
  rintro e w2 ⟨g, cap, rfl, R, hg, hb⟩
  replace B := bthen B hb
  clear hb ce cs C T hg c0 c1 c2 c3 c4 c5 c6 c7 c8 c9 c10 c11 c12 c13
  go_wp2
  go_loopw [6, 8, 25] (fun X O Y wr => ∃ k : Nat, k ≤ n ∧ Y = .int .i64 (k : Int) ∧ (∃ f : Int, X = .int .i64 f ∧ Hid (f = pend c y k + 1)) ∧ One 3 w2 wr O k (fwk c y)) (fun _ _ Y _ => (54 - intOf Y).toNat)
  case atStart => exact ⟨0, by omega, rfl, ⟨a, rfl, HA⟩, One.start _ w2 (Below.refl _ w2) _⟩
  case round =>
    obtain ⟨k, hk, rfl, ⟨f, rfl, hf⟩, X⟩ := hrel
    by_cases hlt : k < n
    · obtain ⟨f', v, m, e1, e2, e3, f0, f1, v0, v1, cc⟩ := CM.out k hlt
      obtain rfl : f = f' := hf.out.trans e1.symm
      have rc := (R.kept X.below).c k hlt
      rw [← e2] at rc
      have E2 := Lib.hid e3
      have E3 : Hid (v + 1 = pend c y ((k + 1 : Nat) : Int) + 1) := Lib.hid (by rw [e2]; unfold fend; rw [show ((k + 1 : Nat) : Int) = (k : Int) + 1 by omega])
      have ck := cc wr
      have pp : (0 : Int) ≤ (k : Int) := by omega
      have bp : (k : Int) < (n : Int) := by omega
      clear e1 e2 e3 cc hf
      go_wp2_with fail
      refine ck.mono ?_
      rintro e w3 ⟨rfl, hb⟩
      replace X := X.kept hb
      have sz := X.below.size
      clear hb ck rc
      go_wp2_with (first
        | (at_builtin; refine wpList_append_lies _ rfl _ _ 65 rfl w2.heap.size 3 i0 (.int .i64 0) 1 8 hunderN hi hz0 hz1 hz2 rfl (by decide) _ k (lst (fwk c y) k) rfl (X.a.alloc _) ⟨w3.heap.size, 0, none⟩ 1 1 [.int .i64 m] rfl rfl ?q1 ?q2 (by omega) ?q3 ?q4 ?q5 _ rfl ?q6))
      case q1 =>
        intro j u hj
        match j, hj with
        | 0, hj => simp at hj; subst hj; simp [Addr.add, go_sem]
      case q2 => intro u hu; simp at hu; subst hu; rfl
      case q3 => unfold maxLen; omega
      case q4 => omega
      case q5 => simp; omega
      case q6 =>
        intro g1 cap1 w4 hown1 hgrow1 hat1 hlt1
        have X2 := X.next (o1 := .cells #[.int .i64 m] 3) E2.out hown1 hgrow1
        clear hown1 hgrow1 hat1 hlt1 X sz
        go_wp2
        go_roundw
        case rel => exact ⟨k + 1, by omega, by go_num, ⟨v + 1, rfl, E3⟩, X2⟩
        case measure => simp [intOf]; omega
    · obtain rfl : k = n := by omega
      obtain ⟨g1, cap1, rfl, hg1, R1⟩ := X.out n0
      have Y : IntsOut w k (fwk c y) (.returned (.tuple #[.slice (some ⟨g1, 0, none⟩) k cap1, .int .i64 0])) wr := ⟨g1, cap1, rfl, R1, Nat.le_trans B.size hg1, bthen B X.below⟩
      have HY := Lib.hid Y
      clear Y X R1
      go_wp2
      exact bodyPost_ret (v := .tuple #[.slice (some ⟨g1, 0, none⟩) k cap1, .int .i64 0]) (by simp [results, Tryz.results233, go_sem]) rfl HY.out

end Go.Proofs.YtkfogmaogfgcgaaGreatDoor.Hp

namespace Go.Proofs.YtkfogmaogfgcgaaGreatDoor.Hp
set_option linter.unusedSimpArgs false
set_option linter.unusedVariables false
open Go.RowKit Bn Bx Cp Am Fp Ap Cm Em Ep Rk

set_option maxHeartbeats 2000000

set_option maxRecDepth 100000 in
theorem Quarter_any (c : CalZ) (p v er : Int) (w : World) (R : QuarA c p v er) (hm : c.nm.size ≤ maxLen) (T : FTab w) :
    Calls Tryz.prog 235 #[.agg #[.string c.nm, .int .i64 c.k, .int .i64 c.d, .int .i64 c.m, .int .i64 c.s, .int .i64 c.sh, .int .i64 c.p0, .int .i64 c.p1, .int .i64 c.p2, .int .i64 c.cy, .int .i64 c.ex, .int .i64 c.fi, .int .i64 c.la, .int .i64 c.po], .int .i64 p] w fun e w' => e = .returned (.tuple #[.int .i64 v, .int .i64 er]) ∧ Below w.heap.size w w' := by
  have C := CalIn.new w c 24
  have B := balloc (Below.refl _ w) (.cells #[.string c.nm, .int .i64 c.k, .int .i64 c.d, .int .i64 c.m, .int .i64 c.s, .int .i64 c.sh, .int .i64 c.p0, .int .i64 c.p1, .int .i64 c.p2, .int .i64 c.cy, .int .i64 c.ex, .int .i64 c.fi, .int .i64 c.la, .int .i64 c.po] 24)
  replace T := T.alloc (.cells #[.string c.nm, .int .i64 c.k, .int .i64 c.d, .int .i64 c.m, .int .i64 c.s, .int .i64 c.sh, .int .i64 c.p0, .int .i64 c.p1, .int .i64 c.p2, .int .i64 c.cy, .int .i64 c.ex, .int .i64 c.fi, .int .i64 c.la, .int .i64 c.po] 24)
  rcases R with ⟨ok, p0, p1, hv, rfl⟩ | ⟨ok, h, rfl, rfl⟩ | ⟨no, rfl, rfl⟩
  · obtain ⟨N, hN⟩ : ∃ N, N = per c := ⟨_, rfl⟩
    rw [← hN] at p1 hv
    have pb := per_bd ok.1
    rw [← hN] at pb
    obtain ⟨n0, n1, _⟩ := pb
    have cp := fun w T => Periods_any c N 0 w (.inl ⟨ok, hN, rfl⟩) hm T
    have O : (v = 1 ∧ p ≤ N / 4) ∨ (v = 2 ∧ N / 4 < p ∧ p ≤ N * 2 / 4) ∨ (v = 3 ∧ N / 4 < p ∧ N * 2 / 4 < p ∧ p ≤ N * 3 / 4) ∨ (v = 4 ∧ N / 4 < p ∧ N * 2 / 4 < p ∧ N * 3 / 4 < p) := by
      rw [hv]; unfold quar
      by_cases h1 : p ≤ N / 4
      · rw [if_pos h1]; omega
      · rw [if_neg h1]
        by_cases h2 : p ≤ N * 2 / 4
        · rw [if_pos h2]; omega
        · rw [if_neg h2]
          by_cases h3 : p ≤ N * 3 / 4
          · rw [if_pos h3]; omega
          · rw [if_neg h3]; omega
    clear ok hN hv
    rcases O with ⟨rfl, q1⟩ | ⟨rfl, q1, q2⟩ | ⟨rfl, q1, q2, q3⟩ | ⟨rfl, q1, q2, q3⟩
    · go_enter Tryz.func235, Tryz.ntmps235
      go_upto_region 1 with fail
      generalize w.alloc (.cells #[.string c.nm, .int .i64 c.k, .int .i64 c.d, .int .i64 c.m, .int .i64 c.s, .int .i64 c.sh, .int .i64 c.p0, .int .i64 c.p1, .int .i64 c.p2, .int .i64 c.cy, .int .i64 c.ex, .int .i64 c.fi, .int .i64 c.la, .int .i64 c.po] 24) = W0 at *
      obtain ⟨_, c0, c1, c2, c3, c4, c5, c6, c7, c8, c9, c10, c11, c12, c13⟩ := id C
      go_wp2_with fail
      refine (cp _ T).mono ?_
      rintro e w1 ⟨rfl, hb⟩
      replace C := C.kept hb
      replace B := bthen B hb
      replace T := T.kept hb
      clear hb c0 c1 c2 c3 c4 c5 c6 c7 c8 c9 c10 c11 c12 c13
      obtain ⟨_, c0, c1, c2, c3, c4, c5, c6, c7, c8, c9, c10, c11, c12, c13⟩ := id C
      go_wp2
      refine wp_loop_rounds 1 ?_; rw [rounds_succ]
      go_wp2
      go_ret2
      exact ⟨rfl, B⟩
    · go_enter Tryz.func235, Tryz.ntmps235
      go_upto_region 1 with fail
      generalize w.alloc (.cells #[.string c.nm, .int .i64 c.k, .int .i64 c.d, .int .i64 c.m, .int .i64 c.s, .int .i64 c.sh, .int .i64 c.p0, .int .i64 c.p1, .int .i64 c.p2, .int .i64 c.cy, .int .i64 c.ex, .int .i64 c.fi, .int .i64 c.la, .int .i64 c.po] 24) = W0 at *
      obtain ⟨_, c0, c1, c2, c3, c4, c5, c6, c7, c8, c9, c10, c11, c12, c13⟩ := id C
      go_wp2_with fail
      refine (cp _ T).mono ?_
      rintro e w2 ⟨rfl, hb⟩
      replace C := C.kept hb
      replace B := bthen B hb
      replace T := T.kept hb
      clear hb c0 c1 c2 c3 c4 c5 c6 c7 c8 c9 c10 c11 c12 c13
      obtain ⟨_, c0, c1, c2, c3, c4, c5, c6, c7, c8, c9, c10, c11, c12, c13⟩ := id C
      go_wp2
      refine wp_loop_rounds 2 ?_; rw [rounds_succ]
      go_wp2
      rw [rounds_succ]
      go_wp2
      go_ret2
      exact ⟨rfl, B⟩
    · go_enter Tryz.func235, Tryz.ntmps235
      go_upto_region 1 with fail
      generalize w.alloc (.cells #[.string c.nm, .int .i64 c.k, .int .i64 c.d, .int .i64 c.m, .int .i64 c.s, .int .i64 c.sh, .int .i64 c.p0, .int .i64 c.p1, .int .i64 c.p2, .int .i64 c.cy, .int .i64 c.ex, .int .i64 c.fi, .int .i64 c.la, .int .i64 c.po] 24) = W0 at *
      obtain ⟨_, c0, c1, c2, c3, c4, c5, c6, c7, c8, c9, c10, c11, c12, c13⟩ := id C
      go_wp2_with fail
      refine (cp _ T).mono ?_
      rintro e w3 ⟨rfl, hb⟩
      replace C := C.kept hb
      replace B := bthen B hb
      replace T := T.kept hb
      clear hb c0 c1 c2 c3 c4 c5 c6 c7 c8 c9 c10 c11 c12 c13
      obtain ⟨_, c0, c1, c2, c3, c4, c5, c6, c7, c8, c9, c10, c11, c12, c13⟩ := id C
      go_wp2
      refine wp_loop_rounds 3 ?_; rw [rounds_succ]
      go_wp2
      rw [rounds_succ]
      go_wp2
      rw [rounds_succ]
      go_wp2
      go_ret2
      exact ⟨rfl, B⟩
    · have q4 : ¬ N * 4 / 4 < p := by omega
      have q4' : N * 4 / 4 = N := by omega
      go_enter Tryz.func235, Tryz.ntmps235
      go_upto_region 1 with fail
      generalize w.alloc (.cells #[.string c.nm, .int .i64 c.k, .int .i64 c.d, .int .i64 c.m, .int .i64 c.s, .int .i64 c.sh, .int .i64 c.p0, .int .i64 c.p1, .int .i64 c.p2, .int .i64 c.cy, .int .i64 c.ex, .int .i64 c.fi, .int .i64 c.la, .int .i64 c.po] 24) = W0 at *
      obtain ⟨_, c0, c1, c2, c3, c4, c5, c6, c7, c8, c9, c10, c11, c12, c13⟩ := id C
      go_wp2_with fail
      refine (cp _ T).mono ?_
      rintro e w4 ⟨rfl, hb⟩
      replace C := C.kept hb
      replace B := bthen B hb
      replace T := T.kept hb
      clear hb c0 c1 c2 c3 c4 c5 c6 c7 c8 c9 c10 c11 c12 c13
      obtain ⟨_, c0, c1, c2, c3, c4, c5, c6, c7, c8, c9, c10, c11, c12, c13⟩ := id C
      go_wp2
      refine wp_loop_rounds 4 ?_; rw [rounds_succ]
      go_wp2
      rw [rounds_succ]
      go_wp2
      rw [rounds_succ]
      go_wp2
      rw [rounds_succ]
      go_wp2
      go_ret2
      exact ⟨rfl, B⟩
  · obtain ⟨N, hN⟩ : ∃ N, N = per c := ⟨_, rfl⟩
    rw [← hN] at h
    have pb := per_bd ok.1
    rw [← hN] at pb
    obtain ⟨n0, n1, _⟩ := pb
    have cp := fun w T => Periods_any c N 0 w (.inl ⟨ok, hN, rfl⟩) hm T
    clear ok hN
    by_cases q : p < 1
    · clear h
      go_enter Tryz.func235, Tryz.ntmps235
      go_upto_region 1 with fail
      generalize w.alloc (.cells #[.string c.nm, .int .i64 c.k, .int .i64 c.d, .int .i64 c.m, .int .i64 c.s, .int .i64 c.sh, .int .i64 c.p0, .int .i64 c.p1, .int .i64 c.p2, .int .i64 c.cy, .int .i64 c.ex, .int .i64 c.fi, .int .i64 c.la, .int .i64 c.po] 24) = W0 at *
      obtain ⟨_, c0, c1, c2, c3, c4, c5, c6, c7, c8, c9, c10, c11, c12, c13⟩ := id C
      go_wp2_with fail
      refine (cp _ T).mono ?_
      rintro e w5 ⟨rfl, hb⟩
      replace C := C.kept hb
      replace B := bthen B hb
      replace T := T.kept hb
      clear hb c0 c1 c2 c3 c4 c5 c6 c7 c8 c9 c10 c11 c12 c13
      obtain ⟨_, c0, c1, c2, c3, c4, c5, c6, c7, c8, c9, c10, c11, c12, c13⟩ := id C
      go_wp2
      go_ret2
      exact ⟨rfl, B⟩
    · have q2 : N < p := by omega
      have q3 : 1 ≤ p := by omega
      clear h
      go_enter Tryz.func235, Tryz.ntmps235
      go_upto_region 1 with fail
      generalize w.alloc (.cells #[.string c.nm, .int .i64 c.k, .int .i64 c.d, .int .i64 c.m, .int .i64 c.s, .int .i64 c.sh, .int .i64 c.p0, .int .i64 c.p1, .int .i64 c.p2, .int .i64 c.cy, .int .i64 c.ex, .int .i64 c.fi, .int .i64 c.la, .int .i64 c.po] 24) = W0 at *
      obtain ⟨_, c0, c1, c2, c3, c4, c5, c6, c7, c8, c9, c10, c11, c12, c13⟩ := id C
      go_wp2_with fail
      refine (cp _ T).mono ?_
      rintro e w6 ⟨rfl, hb⟩
      replace C := C.kept hb
      replace B := bthen B hb
      replace T := T.kept hb
      clear hb c0 c1 c2 c3 c4 c5 c6 c7 c8 c9 c10 c11 c12 c13
      obtain ⟨_, c0, c1, c2, c3, c4, c5, c6, c7, c8, c9, c10, c11, c12, c13⟩ := id C
      go_wp2
      go_ret2
      exact ⟨rfl, B⟩
  · have cp := fun w T => Periods_any c 0 1 w (.inr ⟨no, rfl, rfl⟩) hm T
    clear no
    go_enter Tryz.func235, Tryz.ntmps235
    go_upto_region 1 with fail
    generalize w.alloc (.cells #[.string c.nm, .int .i64 c.k, .int .i64 c.d, .int .i64 c.m, .int .i64 c.s, .int .i64 c.sh, .int .i64 c.p0, .int .i64 c.p1, .int .i64 c.p2, .int .i64 c.cy, .int .i64 c.ex, .int .i64 c.fi, .int .i64 c.la, .int .i64 c.po] 24) = W0 at *
    obtain ⟨_, c0, c1, c2, c3, c4, c5, c6, c7, c8, c9, c10, c11, c12, c13⟩ := id C
    go_wp2_with fail
    refine (cp _ T).mono ?_
    rintro e w7 ⟨rfl, hb⟩
    replace C := C.kept hb
    replace B := bthen B hb
    replace T := T.kept hb
    clear hb c0 c1 c2 c3 c4 c5 c6 c7 c8 c9 c10 c11 c12 c13
    obtain ⟨_, c0, c1, c2, c3, c4, c5, c6, c7, c8, c9, c10, c11, c12, c13⟩ := id C
    go_wp2
    go_ret2
    exact ⟨rfl, B⟩

end Go.Proofs.YtkfogmaogfgcgaaGreatDoor.Hp

namespace Go.Proofs.YtkfogmaogfgcgaaGreatDoor.Hp
set_option linter.unusedSimpArgs false
set_option linter.unusedVariables false
open Go.RowKit Bn Bx Cp Am Fp Ap Cm Em Ep Rk

set_option maxHeartbeats 2000000

set_option maxRecDepth 100000 in
theorem Added_any (c : CalZ) (y v er : Int) (w : World) (R : AddedA c y v er) (hm : c.nm.size ≤ maxLen) (T : FTab w) :
    Calls Tryz.prog 208 #[.agg #[.string c.nm, .int .i64 c.k, .int .i64 c.d, .int .i64 c.m, .int .i64 c.s, .int .i64 c.sh, .int .i64 c.p0, .int .i64 c.p1, .int .i64 c.p2, .int .i64 c.cy, .int .i64 c.ex, .int .i64 c.fi, .int .i64 c.la, .int .i64 c.po], .int .i64 y] w fun e w' => e = .returned (.tuple #[.int .i64 v, .int .i64 er]) ∧ Below w.heap.size w w' := by
  have C := CalIn.new w c 24
  have B := balloc (Below.refl _ w) (.cells #[.string c.nm, .int .i64 c.k, .int .i64 c.d, .int .i64 c.m, .int .i64 c.s, .int .i64 c.sh, .int .i64 c.p0, .int .i64 c.p1, .int .i64 c.p2, .int .i64 c.cy, .int .i64 c.ex, .int .i64 c.fi, .int .i64 c.la, .int .i64 c.po] 24)
  replace T := T.alloc (.cells #[.string c.nm, .int .i64 c.k, .int .i64 c.d, .int .i64 c.m, .int .i64 c.s, .int .i64 c.sh, .int .i64 c.p0, .int .i64 c.p1, .int .i64 c.p2, .int .i64 c.cy, .int .i64 c.ex, .int .i64 c.fi, .int .i64 c.la, .int .i64 c.po] 24)
  rcases R with ⟨ok, k6, y0, y1, ⟨n52, rfl⟩ | ⟨n53, hv⟩, rfl⟩ | ⟨ok, k6, hy, rfl, rfl⟩ | ⟨no, rfl, rfl⟩
  · have cw := fun w T => Weeks_any c y 52 0 w (.inl ⟨ok, k6, y0, y1, n52.symm, rfl⟩) hm T
    clear ok k6 n52
    go_enter Tryz.func208, Tryz.ntmps208
    go_upto_region 1 with fail
    generalize w.alloc (.cells #[.string c.nm, .int .i64 c.k, .int .i64 c.d, .int .i64 c.m, .int .i64 c.s, .int .i64 c.sh, .int .i64 c.p0, .int .i64 c.p1, .int .i64 c.p2, .int .i64 c.cy, .int .i64 c.ex, .int .i64 c.fi, .int .i64 c.la, .int .i64 c.po] 24) = W0 at *
    obtain ⟨_, c0, c1, c2, c3, c4, c5, c6, c7, c8, c9, c10, c11, c12, c13⟩ := id C
    go_wp2_with fail
    refine (cw _ T).mono ?_
    rintro e w1 ⟨rfl, hb⟩
    replace C := C.kept hb
    replace B := bthen B hb
    replace T := T.kept hb
    clear hb c0 c1 c2 c3 c4 c5 c6 c7 c8 c9 c10 c11 c12 c13
    obtain ⟨_, c0, c1, c2, c3, c4, c5, c6, c7, c8, c9, c10, c11, c12, c13⟩ := id C
    go_wp2
    go_ret2
    exact ⟨rfl, B⟩
  · have cw := fun w T => Weeks_any c y 53 0 w (.inl ⟨ok, k6, y0, y1, n53.symm, rfl⟩) hm T
    obtain ⟨a, ha⟩ : ∃ a, a = pend c y 0 + 1 := ⟨_, rfl⟩
    have pb := per_bd ok.1
    have bd := pend_bd ok.1 y0 y1 (p := 0) (by omega) (by omega)
    have cs := fun w T => Start_any c y a 0 w (.inl ⟨ok, y0, y1, by rw [ha, pend_zero], rfl⟩) hm T
    obtain ⟨n, hn⟩ : ∃ n : Nat, (n : Int) = per c := ⟨(per c).toNat, by omega⟩
    have ce := fun w T => endsFrom_any c y a n w ok y0 y1 ha hn hm T
    have ex := pb.2.2 k6
    obtain ⟨x, hx⟩ : ∃ x : Nat, (x : Int) = c.ex - 1 := ⟨(c.ex - 1).toNat, by omega⟩
    obtain ⟨u, hu⟩ : ∃ u, u = fend c y x := ⟨_, rfl⟩
    have bu := pend_bd ok.1 y0 y1 (p := c.ex) (by omega) ex.2
    have eu : u = pend c y c.ex := by rw [hu]; unfold fend; rw [hx, show c.ex - 1 + 1 = c.ex by omega]
    have mo := pend_mono ok.1 y0 y1 (a := 0) (b := c.ex) (by omega) (by omega) ex.2
    have ws := wsum_end ok.1 k6 y0 y1 c.ex.toNat (by omega)
    rw [show ((c.ex.toNat : Nat) : Int) = c.ex by omega] at ws
    rw [← eu] at bu mo ws hv
    have cc := fun w => count_any a u v w (by omega) (by omega) (by omega) bu.2
    have hw : IntKind.i64.wrap (c.ex - 1) = (x : Int) := by rw [IntWalk.i64_in _ (by omega)]; omega
    have xn : x < n := by omega
    have xn2 : (x : Int) < (n : Int) := by omega
    have x0 : (0 : Int) ≤ (x : Int) := by omega
    have hu' : some (Value.int .i64 (fend c y x)) = some (Value.int .i64 u) := by rw [hu]
    clear ok k6 n53 ha hn pb bd ex hx hu bu eu mo ws hv
    go_enter Tryz.func208, Tryz.ntmps208
    go_upto_region 1 with fail
    generalize w.alloc (.cells #[.string c.nm, .int .i64 c.k, .int .i64 c.d, .int .i64 c.m, .int .i64 c.s, .int .i64 c.sh, .int .i64 c.p0, .int .i64 c.p1, .int .i64 c.p2, .int .i64 c.cy, .int .i64 c.ex, .int .i64 c.fi, .int .i64 c.la, .int .i64 c.po] 24) = W0 at *
    obtain ⟨_, c0, c1, c2, c3, c4, c5, c6, c7, c8, c9, c10, c11, c12, c13⟩ := id C
    go_wp2_with fail
    refine (cw _ T).mono ?_
    rintro e w2 ⟨rfl, hb⟩
    replace C := C.kept hb
    replace B := bthen B hb
    replace T := T.kept hb
    clear hb c0 c1 c2 c3 c4 c5 c6 c7 c8 c9 c10 c11 c12 c13
    obtain ⟨_, c0, c1, c2, c3, c4, c5, c6, c7, c8, c9, c10, c11, c12, c13⟩ := id C
    go_wp2_with fail
    refine (cs _ T).mono ?_
    rintro e w3 ⟨rfl, hb⟩
    replace C := C.kept hb
    replace B := bthen B hb
    replace T := T.kept hb
    clear hb c0 c1 c2 c3 c4 c5 c6 c7 c8 c9 c10 c11 c12 c13
    obtain ⟨_, c0, c1, c2, c3, c4, c5, c6, c7, c8, c9, c10, c11, c12, c13⟩ := id C
    have CE : ∀ W, Below w3.heap.size w3 W → Calls Tryz.prog 236 #[.agg #[.string c.nm, .int .i64 c.k, .int .i64 c.d, .int .i64 c.m, .int .i64 c.s, .int .i64 c.sh, .int .i64 c.p0, .int .i64 c.p1, .int .i64 c.p2, .int .i64 c.cy, .int .i64 c.ex, .int .i64 c.fi, .int .i64 c.la, .int .i64 c.po], .int .i64 y, .int .i64 a] W (IntsOne W n (fend c y)) := fun W h => ce W (T.kept h)
    clear ce cs cw
    go_wp2
    go_region_with (first | (go_at_call 236; (refine (CE _ (by first | (with_reducible assumption) | (with_reducible exact Below.refl _ _) | (with_reducible exact (Below.refl _ _).drew))).mono ?_; rintro e w5 ⟨g, cap, rfl, R, hg, hb⟩; have hB := bthen (w := w3) (by first | (with_reducible assumption) | (with_reducible exact Below.refl _ _) | (with_reducible exact (Below.refl _ _).drew)) hb; have rc := (R.c x xn).trans hu'; have Ck := C.kept hB; obtain ⟨_, c0, c1, c2, c3, c4, c5, c6, c7, c8, c9, c10, c11, c12, c13⟩ := id Ck; clear hb R Ck)) | (go_at_call 238; (refine (cc _).mono ?_; rintro e w6 ⟨rfl, hb⟩; have hB2 := bthen (w := w3) (by first | (with_reducible assumption) | (with_reducible exact Below.refl _ _) | (with_reducible exact (Below.refl _ _).drew)) hb; clear hb)))
    all_goals go_wp2
    all_goals
      go_ret2
      exact ⟨rfl, bthen B hB2⟩
  · have cw := fun w T => Weeks_any c y 0 11 w (.inr (.inl ⟨ok, k6, hy, rfl, rfl⟩)) hm T
    clear ok k6 hy
    go_enter Tryz.func208, Tryz.ntmps208
    go_upto_region 1 with fail
    generalize w.alloc (.cells #[.string c.nm, .int .i64 c.k, .int .i64 c.d, .int .i64 c.m, .int .i64 c.s, .int .i64 c.sh, .int .i64 c.p0, .int .i64 c.p1, .int .i64 c.p2, .int .i64 c.cy, .int .i64 c.ex, .int .i64 c.fi, .int .i64 c.la, .int .i64 c.po] 24) = W0 at *
    obtain ⟨_, c0, c1, c2, c3, c4, c5, c6, c7, c8, c9, c10, c11, c12, c13⟩ := id C
    go_wp2_with fail
    refine (cw _ T).mono ?_
    rintro e w4 ⟨rfl, hb⟩
    replace C := C.kept hb
    replace B := bthen B hb
    replace T := T.kept hb
    clear hb c0 c1 c2 c3 c4 c5 c6 c7 c8 c9 c10 c11 c12 c13
    obtain ⟨_, c0, c1, c2, c3, c4, c5, c6, c7, c8, c9, c10, c11, c12, c13⟩ := id C
    go_wp2
    go_ret2
    exact ⟨rfl, B⟩
  · have cw := fun w T => Weeks_any c y 0 1 w (.inr (.inr ⟨no, rfl, rfl⟩)) hm T
    clear no
    go_enter Tryz.func208, Tryz.ntmps208
    go_upto_region 1 with fail
    generalize w.alloc (.cells #[.string c.nm, .int .i64 c.k, .int .i64 c.d, .int .i64 c.m, .int .i64 c.s, .int .i64 c.sh, .int .i64 c.p0, .int .i64 c.p1, .int .i64 c.p2, .int .i64 c.cy, .int .i64 c.ex, .int .i64 c.fi, .int .i64 c.la, .int .i64 c.po] 24) = W0 at *
    obtain ⟨_, c0, c1, c2, c3, c4, c5, c6, c7, c8, c9, c10, c11, c12, c13⟩ := id C
    go_wp2_with fail
    refine (cw _ T).mono ?_
    rintro e w5 ⟨rfl, hb⟩
    replace C := C.kept hb
    replace B := bthen B hb
    replace T := T.kept hb
    clear hb c0 c1 c2 c3 c4 c5 c6 c7 c8 c9 c10 c11 c12 c13
    obtain ⟨_, c0, c1, c2, c3, c4, c5, c6, c7, c8, c9, c10, c11, c12, c13⟩ := id C
    go_wp2
    go_ret2
    exact ⟨rfl, B⟩

end Go.Proofs.YtkfogmaogfgcgaaGreatDoor.Hp

