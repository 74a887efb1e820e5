/- FindLists' walk. -/
import Derived.Test.YtkfogmaogfgcgaaGreatDoorIrl
import Derived.Test.YtkfogmaogfgcgaaGreatDoorIrs
import Derived.Test.YtkfogmaogfgcgaaGreatDoorDlive
import Derived.Test.YtkfogmaogfgcgaaGreatDoorDshort
import Derived.Test.YtkfogmaogfgcgaaGreatDoorFcal
import Derived.Test.YtkfogmaogfgcgaaGreatDoorFrcheck
namespace Go.Proofs.YtkfogmaogfgcgaaGreatDoor.Dl
set_option linter.unusedSimpArgs false
set_option linter.unusedVariables false
open Go.RowKit Go.Maps Go.Proofs.YtkfogmaogfgcgaaGreatDoor.Bn Go.Proofs.YtkfogmaogfgcgaaGreatDoor.Bx Go.Proofs.YtkfogmaogfgcgaaGreatDoor.Cp Go.Proofs.YtkfogmaogfgcgaaGreatDoor.Am Go.Proofs.YtkfogmaogfgcgaaGreatDoor.Fp Go.Proofs.YtkfogmaogfgcgaaGreatDoor.Ap Go.Proofs.YtkfogmaogfgcgaaGreatDoor.Ar Go.Proofs.YtkfogmaogfgcgaaGreatDoor.Cm Go.Proofs.YtkfogmaogfgcgaaGreatDoor.Em Go.Proofs.YtkfogmaogfgcgaaGreatDoor.Ep Go.Proofs.YtkfogmaogfgcgaaGreatDoor.Rk Go.Proofs.YtkfogmaogfgcgaaGreatDoor.Hp Go.Proofs.YtkfogmaogfgcgaaGreatDoor.Hr Go.Proofs.YtkfogmaogfgcgaaGreatDoor.Ip Go.Proofs.YtkfogmaogfgcgaaGreatDoor.Dp Go.Proofs.YtkfogmaogfgcgaaGreatDoor.Jr Go.Proofs.YtkfogmaogfgcgaaGreatDoor.Ir Go.Proofs.YtkfogmaogfgcgaaGreatDoor.Rf

set_option maxHeartbeats 8000000

set_option maxRecDepth 100000 in
theorem flists_any (c : CalZ) (L f t a b er es : Int) (l m : List U3) (w : World) (tb : FTab w) (N1 : l.length ≤ 1000000) (N2 : m.length ≤ 1000000)
    (k1 : ∀ w, FTab w → Calls Tryz.prog 17 #[.agg #[.string c.nm, .int .i64 c.k, .int .i64 c.d, .int .i64 c.m, .int .i64 c.s, .int .i64 c.sh, .int .i64 c.p0, .int .i64 c.p1, .int .i64 c.p2, .int .i64 c.cy, .int .i64 c.ex, .int .i64 c.fi, .int .i64 c.la, .int .i64 c.po], .int .i64 L, .int .i64 f, .int .i64 t] w (LstTo w l er))
    (k2 : ∀ w, FTab w → Calls Tryz.prog 18 #[.agg #[.string c.nm, .int .i64 c.k, .int .i64 c.d, .int .i64 c.m, .int .i64 c.s, .int .i64 c.sh, .int .i64 c.p0, .int .i64 c.p1, .int .i64 c.p2, .int .i64 c.cy, .int .i64 c.ex, .int .i64 c.fi, .int .i64 c.la, .int .i64 c.po], .int .i64 L, .int .i64 f, .int .i64 t] w (LstTo w l er))
    (k3 : ∀ w, FTab w → Calls Tryz.prog 19 #[.agg #[.string c.nm, .int .i64 c.k, .int .i64 c.d, .int .i64 c.m, .int .i64 c.s, .int .i64 c.sh, .int .i64 c.p0, .int .i64 c.p1, .int .i64 c.p2, .int .i64 c.cy, .int .i64 c.ex, .int .i64 c.fi, .int .i64 c.la, .int .i64 c.po], .int .i64 L, .agg #[.int .i64 a, .int .i64 b]] w (LstTo w m es))
    (k4 : ∀ w, FTab w → Calls Tryz.prog 20 #[.agg #[.string c.nm, .int .i64 c.k, .int .i64 c.d, .int .i64 c.m, .int .i64 c.s, .int .i64 c.sh, .int .i64 c.p0, .int .i64 c.p1, .int .i64 c.p2, .int .i64 c.cy, .int .i64 c.ex, .int .i64 c.fi, .int .i64 c.la, .int .i64 c.po], .int .i64 L, .agg #[.int .i64 a, .int .i64 b]] w (LstTo w m es)) :
    Calls Tryz.prog 4 #[.agg #[.string c.nm, .int .i64 c.k, .int .i64 c.d, .int .i64 c.m, .int .i64 c.s, .int .i64 c.sh, .int .i64 c.p0, .int .i64 c.p1, .int .i64 c.p2, .int .i64 c.cy, .int .i64 c.ex, .int .i64 c.fi, .int .i64 c.la, .int .i64 c.po], .int .i64 L, .int .i64 f, .int .i64 t, .agg #[.int .i64 a, .int .i64 b]] w fun e w' => e = .returned (.bool true) ∧ Below w.heap.size w w' := by
  have C := CalIn.new w c 24
  have S := Go.Proofs.YtkfogmaogfgcgaaGreatDoor.Pr.Two.new (w.alloc (.cells #[.string c.nm, .int .i64 c.k, .int .i64 c.d, .int .i64 c.m, .int .i64 c.s, .int .i64 c.sh, .int .i64 c.p0, .int .i64 c.p1, .int .i64 c.p2, .int .i64 c.cy, .int .i64 c.ex, .int .i64 c.fi, .int .i64 c.la, .int .i64 c.po] 24)) (.int .i64 a) (.int .i64 b) 34
  rw [World.size_alloc] at S
  replace C := C.alloc (.cells #[.int .i64 a, .int .i64 b] 34)
  have B := balloc (balloc (Below.refl _ w) (.cells #[.string c.nm, .int .i64 c.k, .int .i64 c.d, .int .i64 c.m, .int .i64 c.s, .int .i64 c.sh, .int .i64 c.p0, .int .i64 c.p1, .int .i64 c.p2, .int .i64 c.cy, .int .i64 c.ex, .int .i64 c.fi, .int .i64 c.la, .int .i64 c.po] 24)) (.cells #[.int .i64 a, .int .i64 b] 34)
  have T := (tb.alloc (.cells #[.string c.nm, .int .i64 c.k, .int .i64 c.d, .int .i64 c.m, .int .i64 c.s, .int .i64 c.sh, .int .i64 c.p0, .int .i64 c.p1, .int .i64 c.p2, .int .i64 c.cy, .int .i64 c.ex, .int .i64 c.fi, .int .i64 c.la, .int .i64 c.po] 24)).alloc (.cells #[.int .i64 a, .int .i64 b] 34)
  have n2 : (er == er) = true := beq_self_eq_true er
  have n3 : (es == es) = true := beq_self_eq_true es
  have H1 := Lib.hid N1
  have H2 := Lib.hid N2
  clear N1 N2
  go_enter Tryz.func4, Tryz.ntmps4
  go_upto_region 1 with fail
  generalize (w.alloc (.cells #[.string c.nm, .int .i64 c.k, .int .i64 c.d, .int .i64 c.m, .int .i64 c.s, .int .i64 c.sh, .int .i64 c.p0, .int .i64 c.p1, .int .i64 c.p2, .int .i64 c.cy, .int .i64 c.ex, .int .i64 c.fi, .int .i64 c.la, .int .i64 c.po] 24)).alloc (.cells #[.int .i64 a, .int .i64 b] 34) = W0 at *
  obtain ⟨_, c0, c1, c2, c3, c4, c5, c6, c7, c8, c9, c10, c11, c12, c13⟩ := id C
  obtain ⟨_, s0, s1, fs0, fs1⟩ := id S
  go_wp2_with fail
  refine (dlive_ok _ T).mono ?_
  rintro e w1 ⟨rfl, hb⟩
  replace C := C.kept hb
  replace B := bthen B hb
  replace T := T.kept hb
  replace S := S.kept hb
  clear hb c0 c1 c2 c3 c4 c5 c6 c7 c8 c9 c10 c11 c12 c13 s0 s1 fs0 fs1
  obtain ⟨_, c0, c1, c2, c3, c4, c5, c6, c7, c8, c9, c10, c11, c12, c13⟩ := id C
  obtain ⟨_, s0, s1, fs0, fs1⟩ := id S
  go_wp2_with fail
  refine (short_any c f t _).mono ?_
  rintro e w2 ⟨r, rfl, hb, hr⟩
  replace C := C.kept hb
  replace B := bthen B hb
  replace T := T.kept hb
  replace S := S.kept hb
  clear hb c0 c1 c2 c3 c4 c5 c6 c7 c8 c9 c10 c11 c12 c13 s0 s1 fs0 fs1
  obtain ⟨_, c0, c1, c2, c3, c4, c5, c6, c7, c8, c9, c10, c11, c12, c13⟩ := id C
  obtain ⟨_, s0, s1, fs0, fs1⟩ := id S
  clear hr
  cases r
  · go_wp2
    go_ret
    exact ⟨by simp, B⟩
  go_wp2_with fail
  refine (brief_any c a b _).mono ?_
  rintro e w3 ⟨r2, rfl, hb, hr⟩
  replace C := C.kept hb
  replace B := bthen B hb
  replace T := T.kept hb
  replace S := S.kept hb
  clear hb c0 c1 c2 c3 c4 c5 c6 c7 c8 c9 c10 c11 c12 c13 s0 s1 fs0 fs1
  obtain ⟨_, c0, c1, c2, c3, c4, c5, c6, c7, c8, c9, c10, c11, c12, c13⟩ := id C
  obtain ⟨_, s0, s1, fs0, fs1⟩ := id S
  clear hr
  cases r2
  · go_wp2
    go_ret
    exact ⟨by simp, B⟩
  go_wp2_with fail
  refine (k1 _ T).mono ?_
  rintro e w4 ⟨v1, rfl, A1, hb⟩
  replace C := C.kept hb
  replace B := bthen B hb
  replace T := T.kept hb
  replace S := S.kept hb
  clear hb c0 c1 c2 c3 c4 c5 c6 c7 c8 c9 c10 c11 c12 c13 s0 s1 fs0 fs1
  obtain ⟨_, c0, c1, c2, c3, c4, c5, c6, c7, c8, c9, c10, c11, c12, c13⟩ := id C
  obtain ⟨_, s0, s1, fs0, fs1⟩ := id S
  obtain ⟨_⟩ := id A1
  go_wp2_with fail
  refine (k2 _ T).mono ?_
  rintro e w5 ⟨v2, rfl, A2, hb⟩
  replace C := C.kept hb
  replace B := bthen B hb
  replace T := T.kept hb
  replace S := S.kept hb
  replace A1 := A1.kept hb
  clear hb c0 c1 c2 c3 c4 c5 c6 c7 c8 c9 c10 c11 c12 c13 s0 s1 fs0 fs1
  obtain ⟨_, c0, c1, c2, c3, c4, c5, c6, c7, c8, c9, c10, c11, c12, c13⟩ := id C
  obtain ⟨_, s0, s1, fs0, fs1⟩ := id S
  obtain ⟨_⟩ := id A1
  obtain ⟨_⟩ := id A2
  go_wp2_with fail
  refine (k3 _ T).mono ?_
  rintro e w6 ⟨v3, rfl, A3, hb⟩
  replace C := C.kept hb
  replace B := bthen B hb
  replace T := T.kept hb
  replace S := S.kept hb
  replace A1 := A1.kept hb
  replace A2 := A2.kept hb
  clear hb c0 c1 c2 c3 c4 c5 c6 c7 c8 c9 c10 c11 c12 c13 s0 s1 fs0 fs1
  obtain ⟨_, c0, c1, c2, c3, c4, c5, c6, c7, c8, c9, c10, c11, c12, c13⟩ := id C
  obtain ⟨_, s0, s1, fs0, fs1⟩ := id S
  obtain ⟨_⟩ := id A1
  obtain ⟨_⟩ := id A2
  obtain ⟨_⟩ := id A3
  go_wp2_with fail
  refine (k4 _ T).mono ?_
  rintro e w7 ⟨v4, rfl, A4, hb⟩
  replace C := C.kept hb
  replace B := bthen B hb
  replace T := T.kept hb
  replace S := S.kept hb
  replace A1 := A1.kept hb
  replace A2 := A2.kept hb
  replace A3 := A3.kept hb
  clear hb c0 c1 c2 c3 c4 c5 c6 c7 c8 c9 c10 c11 c12 c13 s0 s1 fs0 fs1
  obtain ⟨_, c0, c1, c2, c3, c4, c5, c6, c7, c8, c9, c10, c11, c12, c13⟩ := id C
  obtain ⟨_, s0, s1, fs0, fs1⟩ := id S
  obtain ⟨_⟩ := id A1
  obtain ⟨_⟩ := id A2
  obtain ⟨_⟩ := id A3
  obtain ⟨_⟩ := id A4
  go_wp2_with fail
  refine (rsame_any l v1 v2 _ H1.out A1 A2).mono ?_
  rintro e w8 ⟨rfl, hb⟩
  replace C := C.kept hb
  replace B := bthen B hb
  replace T := T.kept hb
  replace S := S.kept hb
  replace A1 := A1.kept hb
  replace A2 := A2.kept hb
  replace A3 := A3.kept hb
  replace A4 := A4.kept hb
  clear hb c0 c1 c2 c3 c4 c5 c6 c7 c8 c9 c10 c11 c12 c13 s0 s1 fs0 fs1
  obtain ⟨_, c0, c1, c2, c3, c4, c5, c6, c7, c8, c9, c10, c11, c12, c13⟩ := id C
  obtain ⟨_, s0, s1, fs0, fs1⟩ := id S
  obtain ⟨_⟩ := id A1
  obtain ⟨_⟩ := id A2
  obtain ⟨_⟩ := id A3
  obtain ⟨_⟩ := id A4
  go_wp2_with fail
  refine (rsame_any m v3 v4 _ H2.out A3 A4).mono ?_
  rintro e w9 ⟨rfl, hb⟩
  replace C := C.kept hb
  replace B := bthen B hb
  replace T := T.kept hb
  replace S := S.kept hb
  replace A1 := A1.kept hb
  replace A2 := A2.kept hb
  replace A3 := A3.kept hb
  replace A4 := A4.kept hb
  clear hb c0 c1 c2 c3 c4 c5 c6 c7 c8 c9 c10 c11 c12 c13 s0 s1 fs0 fs1
  obtain ⟨_, c0, c1, c2, c3, c4, c5, c6, c7, c8, c9, c10, c11, c12, c13⟩ := id C
  obtain ⟨_, s0, s1, fs0, fs1⟩ := id S
  obtain ⟨_⟩ := id A1
  obtain ⟨_⟩ := id A2
  obtain ⟨_⟩ := id A3
  obtain ⟨_⟩ := id A4
  go_wp2
  go_ret
  exact ⟨by simp, B⟩

/-- what the program's All and the document's own come to -/
theorem all_both (c : CalZ) (L f t : Int) (hm : c.nm.size ≤ maxLen) (K : ChkSays c) : ∃ (l : List U3) (er : Int), l.length ≤ 1000000 ∧
    (∀ w, FTab w → Calls Tryz.prog 17 #[.agg #[.string c.nm, .int .i64 c.k, .int .i64 c.d, .int .i64 c.m, .int .i64 c.s, .int .i64 c.sh, .int .i64 c.p0, .int .i64 c.p1, .int .i64 c.p2, .int .i64 c.cy, .int .i64 c.ex, .int .i64 c.fi, .int .i64 c.la, .int .i64 c.po], .int .i64 L, .int .i64 f, .int .i64 t] w (LstTo w l er)) ∧ (∀ w, FTab w → Calls Tryz.prog 18 #[.agg #[.string c.nm, .int .i64 c.k, .int .i64 c.d, .int .i64 c.m, .int .i64 c.s, .int .i64 c.sh, .int .i64 c.p0, .int .i64 c.p1, .int .i64 c.p2, .int .i64 c.cy, .int .i64 c.ex, .int .i64 c.fi, .int .i64 c.la, .int .i64 c.po], .int .i64 L, .int .i64 f, .int .i64 t] w (LstTo w l er)) := by
  by_cases h : CalOk c ∧ LevOk L
  · by_cases q : f < c.fi ∨ c.la < t ∨ t < f
    · exact ⟨[], 11, by simp, fun w T => (All_er c L f t 11 w (.inl ⟨h.1, h.2, q, rfl⟩) hm T).mono (fun _ _ => lst_none), fun w T => (rAll_er c L f t 11 w (.inl ⟨h.1, h.2, q, rfl⟩) K T).mono (fun _ _ => lst_none)⟩
    · have sf : Served c f := ⟨by omega, by omega⟩
      have st : Served c t := ⟨by omega, by omega⟩
      have t1 := served_told h.1 sf
      have t2 := served_told h.1 st
      have u1 := ucount_bd (L := L) (y := f) h.1.1 (by omega) (by omega)
      have u2 := ucount_bd (L := L) (y := t) h.1.1 (by omega) (by omega)
      obtain ⟨N, way⟩ := way_ex (c := c) (L := L) (y0 := f) (i0 := 1) (y := t) (n := ucount c t L) ⟨h.1, h.2, st, u2.1, Int.le_refl _⟩ ⟨h.1, h.2, sf, Int.le_refl _, u1.1⟩ (by
        unfold Till
        simp only
        omega)
      exact ⟨_, 0, by rw [ulist_len]; have := way.len; omega, fun w T => (All_ok c L f t N w way hm T).mono (fun _ _ => lst_units), fun w T => (rAll_ok c L f t N w way K hm T).mono (fun _ _ => lst_units)⟩
  · exact ⟨[], 1, by simp, fun w T => (All_er c L f t 1 w (.inr ⟨h, rfl⟩) hm T).mono (fun _ _ => lst_none), fun w T => (rAll_er c L f t 1 w (.inr ⟨h, rfl⟩) K T).mono (fun _ _ => lst_none)⟩
theorem meets_both (c : CalZ) (L a b : Int) (hm : c.nm.size ≤ maxLen) (K : ChkSays c) (O : OfSays c) : ∃ (l : List U3) (er : Int), l.length ≤ 1000000 ∧
    (∀ w, FTab w → Calls Tryz.prog 19 #[.agg #[.string c.nm, .int .i64 c.k, .int .i64 c.d, .int .i64 c.m, .int .i64 c.s, .int .i64 c.sh, .int .i64 c.p0, .int .i64 c.p1, .int .i64 c.p2, .int .i64 c.cy, .int .i64 c.ex, .int .i64 c.fi, .int .i64 c.la, .int .i64 c.po], .int .i64 L, .agg #[.int .i64 a, .int .i64 b]] w (LstTo w l er)) ∧ (∀ w, FTab w → Calls Tryz.prog 20 #[.agg #[.string c.nm, .int .i64 c.k, .int .i64 c.d, .int .i64 c.m, .int .i64 c.s, .int .i64 c.sh, .int .i64 c.p0, .int .i64 c.p1, .int .i64 c.p2, .int .i64 c.cy, .int .i64 c.ex, .int .i64 c.fi, .int .i64 c.la, .int .i64 c.po], .int .i64 L, .agg #[.int .i64 a, .int .i64 b]] w (LstTo w l er)) := by
  have no : ∀ er, MeetsA c L a b er → ∃ (l : List U3) (er : Int), l.length ≤ 1000000 ∧
    (∀ w, FTab w → Calls Tryz.prog 19 #[.agg #[.string c.nm, .int .i64 c.k, .int .i64 c.d, .int .i64 c.m, .int .i64 c.s, .int .i64 c.sh, .int .i64 c.p0, .int .i64 c.p1, .int .i64 c.p2, .int .i64 c.cy, .int .i64 c.ex, .int .i64 c.fi, .int .i64 c.la, .int .i64 c.po], .int .i64 L, .agg #[.int .i64 a, .int .i64 b]] w (LstTo w l er)) ∧ (∀ w, FTab w → Calls Tryz.prog 20 #[.agg #[.string c.nm, .int .i64 c.k, .int .i64 c.d, .int .i64 c.m, .int .i64 c.s, .int .i64 c.sh, .int .i64 c.p0, .int .i64 c.p1, .int .i64 c.p2, .int .i64 c.cy, .int .i64 c.ex, .int .i64 c.fi, .int .i64 c.la, .int .i64 c.po], .int .i64 L, .agg #[.int .i64 a, .int .i64 b]] w (LstTo w l er)) := fun er R =>
    ⟨[], er, by simp, fun w T => (Meets_er c L a b er w R hm T).mono (fun _ _ => lst_none), fun w T => (rMeets_er c L a b er w R K O T).mono (fun _ _ => lst_none)⟩
  obtain ⟨p, q, r, e1, D1⟩ := daya_ex c a L
  obtain ⟨p2, q2, r2, e2, D2⟩ := daya_ex c b L
  have er_ne : ∀ {n p q r e : Int}, DayA c n L p q r e → e ≠ 0 → DayA c n L 0 0 0 e := fun D ne => by
    obtain ⟨rfl, rfl, rfl, _⟩ := daya_er D ne
    exact D
  have ok_eq : ∀ {n p q r : Int}, DayA c n L p q r 0 → DayA c n L L q r 0 := fun D => by
    have h := (daya_to D).2.2.2.1
    rw [h] at D
    exact D
  by_cases h : CalOk c ∧ LevOk L
  · by_cases h2 : b < a
    · exact no 1 (.inr (.inl ⟨h.1, h.2, h2, rfl⟩))
    · by_cases h3 : e1 = 0
      · subst h3
        have D1' := ok_eq D1
        by_cases h4 : e2 = 0
        · subst h4
          have D2' := ok_eq D2
          obtain ⟨u, _⟩ := daya_to D1'
          obtain ⟨v, _⟩ := daya_to D2'
          obtain ⟨N, way⟩ := way_ex v u (till_of D1' D2' (by omega))
          have s1 := served_told v.1 v.2.2.1
          have s2 := served_told u.1 u.2.2.1
          have cb := ucount_bd (L := L) (y := q2) v.1.1 (by omega) (by omega)
          have v4 := v.2.2.2.2
          have u4 := u.2.2.2.1
          exact ⟨_, 0, by rw [ulist_len]; have := way.len; omega, fun w T => (Meets_ok c L a b q r q2 r2 N w way D1' D2' (by omega) hm T).mono (fun _ _ => lst_units), fun w T => (rMeets_ok c L a b q r q2 r2 N w way D1' D2' (by omega) K O hm T).mono (fun _ _ => lst_units)⟩
        · exact no e2 (.inr (.inr (.inr ⟨h.1, h.2, by omega, h4, ⟨q, r, D1'⟩, er_ne D2 h4⟩)))
      · exact no e1 (.inr (.inr (.inl ⟨h.1, h.2, by omega, h3, er_ne D1 h3⟩)))
  · exact no 1 (.inl ⟨h, rfl⟩)

theorem flists_walk (c : CalZ) (L f t a b : Int) (w : World) (wf : CalWf c) (wL : (Lit.int .i64 L).wf = true) (wf1 : (Lit.int .i64 f).wf = true) (wt : (Lit.int .i64 t).wf = true) (wa : (Lit.int .i64 a).wf = true) (wb : (Lit.int .i64 b).wf = true) (tb : FTab w) :
    Calls Tryz.prog 4 #[.agg #[.string c.nm, .int .i64 c.k, .int .i64 c.d, .int .i64 c.m, .int .i64 c.s, .int .i64 c.sh, .int .i64 c.p0, .int .i64 c.p1, .int .i64 c.p2, .int .i64 c.cy, .int .i64 c.ex, .int .i64 c.fi, .int .i64 c.la, .int .i64 c.po], .int .i64 L, .int .i64 f, .int .i64 t, .agg #[.int .i64 a, .int .i64 b]] w fun e w' => e = .returned (.bool true) ∧ Below w.heap.size w w' := by
  have hm := wf.1
  have K : ChkSays c := fun h w R => Go.Proofs.YtkfogmaogfgcgaaGreatDoor.Fr.rCheck_any c h w R hm
  have O : OfSays c := fun n y er w R => Go.Proofs.YtkfogmaogfgcgaaGreatDoor.Jr.rOf_any c n y er w R K
  obtain ⟨l, er, N1, k1, k2⟩ := all_both c L f t hm K
  obtain ⟨m, es, N2, k3, k4⟩ := meets_both c L a b hm K O
  exact flists_any c L f t a b er es l m w tb N1 N2 k1 k2 k3 k4

end Go.Proofs.YtkfogmaogfgcgaaGreatDoor.Dl
