/- What Print, Parse, PrintIso and ParseIso of the reference of layer 7 come to. -/
import Derived.Test.YtodpmdmfdnbehaaDoorTref2
import Derived.Deep.RegionHeld3
namespace Go.Proofs.YtodpmdmfdnbehaaDoor.Tr
set_option linter.unusedSimpArgs false
set_option linter.unusedVariables false
open Go.RowKit Go.Proofs.YtodpmdmfdnbehaaDoor.Bx Go.Proofs.YtodpmdmfdnbehaaDoor.Cm Go.Proofs.YtodpmdmfdnbehaaDoor.Cr Go.Proofs.YtodpmdmfdnbehaaDoor.Em Go.Proofs.YtodpmdmfdnbehaaDoor.Er Go.Proofs.YtodpmdmfdnbehaaDoor.Tm

set_option maxHeartbeats 1000000

theorem ret_str {s t : ByteArray} (h : s = t) : Ending.returned (.tuple #[.string s, .int .i64 0]) = Ending.returned (.tuple #[.string t, .int .i64 0]) := by rw [h]

theorem rPrint_any (n : Int) (s : ByteArray) (er : Int) (w : World) (R : PrRes n s er) :
    Calls Tryd.prog 32 #[.int .i64 n] w fun e w' => e = .returned (.tuple #[.string s, .int .i64 er]) ∧ Below w.heap.size w w' := by
  rcases R with ⟨h0, h1, y, m, d, ok, hn, rfl, rfl⟩ | ⟨h, rfl, rfl⟩
  · have co := fun w => rOf_any n y m d 0 w (.inl ⟨h0, h1, ok, hn, rfl⟩)
    obtain ⟨y0, y1, m0, m1, d0, d1⟩ : 0 ≤ y ∧ y ≤ 9999 ∧ 0 ≤ m ∧ m ≤ 99 ∧ 0 ≤ d ∧ d ≤ 99 := by
      have l := mlen_bd y m
      obtain ⟨⟨a0, a1, a2, a3⟩, a4, a5⟩ := ok
      omega
    have c4 := fun w => rdig4 y w y0 y1
    have cm := fun w => rdig2 m w m0 m1
    have cd := fun w => rdig2 d w d0 d1
    have z4 := s4_size y
    have zm := s2_size m
    have zd := s2_size d
    have E := Lib.hid (dstr_is y m d)
    generalize s4 y = a at *
    generalize s2 m = b at *
    generalize s2 d = c at *
    clear h0 h1 ok hn y0 y1 m0 m1 d0 d1
    go_enter Tryd.func32, Tryd.ntmps32
    go_wp2_with fail
    refine (co _).mono ?_
    rintro e w1 ⟨rfl, hb⟩
    have P := Tri.new w1 (.int .i64 y) (.int .i64 m) (.int .i64 d) 38
    have B1 := balloc hb (.cells #[.int .i64 y, .int .i64 m, .int .i64 d] 38)
    obtain ⟨W, hW⟩ : ∃ W, w1.alloc (.cells #[.int .i64 y, .int .i64 m, .int .i64 d] 38) = W := ⟨_, rfl⟩
    rw [hW] at P B1
    clear hb co
    have H := Lib.hid (fun (X : World) (h : Below W.heap.size W X) => heldT P h)
    clear P
    go_wp2
    clear hW
    go_region_held3 (fun w' => Below W.heap.size W w' ∧ w'.cell? ⟨w1.heap.size, 0, none⟩ = some (.int .i64 y) ∧ w'.cell? ⟨w1.heap.size, 1, none⟩ = some (.int .i64 m) ∧ w'.cell? ⟨w1.heap.size, 2, none⟩ = some (.int .i64 d))
      ((refine H.out _ ?_; first | (with_reducible assumption) | exact (Below.refl _ _).drew))
      ((go_at_call 57; first
        | ((with_reducible refine (c4 _).mono ?_); rintro e w20 ⟨rfl, hb⟩; have hB := bthen (w := W) (by first | (with_reducible assumption) | (with_reducible exact Below.refl _ _) | exact (Below.refl _ _).drew) hb)
        | ((with_reducible refine (cm _).mono ?_); rintro e w20 ⟨rfl, hb⟩; have hB := bthen (w := W) (by first | (with_reducible assumption) | (with_reducible exact Below.refl _ _) | exact (Below.refl _ _).drew) hb)
        | ((with_reducible refine (cd _).mono ?_); rintro e w20 ⟨rfl, hb⟩; have hB := bthen (w := W) (by first | (with_reducible assumption) | (with_reducible exact Below.refl _ _) | exact (Below.refl _ _).drew) hb)))
    all_goals go_wp2
    all_goals
      go_ret2
      exact ⟨ret_str E.out, bthen B1 (by with_reducible assumption)⟩
  · have co := fun w => rOf_any n 0 0 0 4 w (.inr ⟨h, rfl, rfl, rfl, rfl⟩)
    clear h
    go_enter Tryd.func32, Tryd.ntmps32
    go_wp2_with fail
    refine (co _).mono ?_
    rintro e w1 ⟨rfl, hb⟩
    go_wp2
    go_ret2
    exact ⟨rfl, balloc hb _⟩

theorem rPrintIso_any (n : Int) (s : ByteArray) (er : Int) (w : World) (R : PiRes n s er) :
    Calls Tryd.prog 36 #[.int .i64 n] w fun e w' => e = .returned (.tuple #[.string s, .int .i64 er]) ∧ Below w.heap.size w w' := by
  rcases R with ⟨h0, h1, y, m, d, ok, hn, rfl, rfl⟩ | ⟨h, rfl, rfl⟩
  · have co := fun w => rIso_any n y m d 0 w (.inl ⟨h0, h1, ok, hn, rfl⟩)
    obtain ⟨y0, y1, m0, m1, d0, d1⟩ : 0 ≤ y ∧ y ≤ 9999 ∧ 0 ≤ m ∧ m ≤ 99 ∧ 0 ≤ d ∧ d ≤ 9 := by
      have l := weeks_le ok
      obtain ⟨a0, a1, a2, _, a4, a5, _, _⟩ := ok
      omega
    have c4 := fun w => rdig4 y w y0 y1
    have cm := fun w => rdig2 m w m0 m1
    have cd := fun w => rdig1 d w d0 d1
    have z4 := s4_size y
    have zm := s2_size m
    have zd := s1_size d
    have E := Lib.hid (istr_is y m d)
    generalize s4 y = a at *
    generalize s2 m = b at *
    generalize s1 d = c at *
    clear h0 h1 ok hn y0 y1 m0 m1 d0 d1
    go_enter Tryd.func36, Tryd.ntmps36
    go_wp2_with fail
    refine (co _).mono ?_
    rintro e w1 ⟨rfl, hb⟩
    have P := Tri.new w1 (.int .i64 y) (.int .i64 m) (.int .i64 d) 23
    have B1 := balloc hb (.cells #[.int .i64 y, .int .i64 m, .int .i64 d] 23)
    obtain ⟨W, hW⟩ : ∃ W, w1.alloc (.cells #[.int .i64 y, .int .i64 m, .int .i64 d] 23) = W := ⟨_, rfl⟩
    rw [hW] at P B1
    clear hb co
    have H := Lib.hid (fun (X : World) (h : Below W.heap.size W X) => heldT P h)
    clear P
    go_wp2
    clear hW
    go_region_held3 (fun w' => Below W.heap.size W w' ∧ w'.cell? ⟨w1.heap.size, 0, none⟩ = some (.int .i64 y) ∧ w'.cell? ⟨w1.heap.size, 1, none⟩ = some (.int .i64 m) ∧ w'.cell? ⟨w1.heap.size, 2, none⟩ = some (.int .i64 d))
      ((refine H.out _ ?_; first | (with_reducible assumption) | exact (Below.refl _ _).drew))
      ((go_at_call 57; first
        | ((with_reducible refine (c4 _).mono ?_); rintro e w20 ⟨rfl, hb⟩; have hB := bthen (w := W) (by first | (with_reducible assumption) | (with_reducible exact Below.refl _ _) | exact (Below.refl _ _).drew) hb)
        | ((with_reducible refine (cm _).mono ?_); rintro e w20 ⟨rfl, hb⟩; have hB := bthen (w := W) (by first | (with_reducible assumption) | (with_reducible exact Below.refl _ _) | exact (Below.refl _ _).drew) hb)
        | ((with_reducible refine (cd _).mono ?_); rintro e w20 ⟨rfl, hb⟩; have hB := bthen (w := W) (by first | (with_reducible assumption) | (with_reducible exact Below.refl _ _) | exact (Below.refl _ _).drew) hb)))
    all_goals go_wp2
    all_goals
      go_ret2
      exact ⟨ret_str E.out, bthen B1 (by with_reducible assumption)⟩
  · have co := fun w => rIso_any n 0 0 0 4 w (.inr ⟨h, rfl, rfl, rfl, rfl⟩)
    clear h
    go_enter Tryd.func36, Tryd.ntmps36
    go_wp2_with fail
    refine (co _).mono ?_
    rintro e w1 ⟨rfl, hb⟩
    go_wp2
    go_ret2
    exact ⟨rfl, balloc hb _⟩

theorem rParse_any (s : ByteArray) (v er : Int) (w : World) (hm : s.size ≤ maxLen) (R : PaRes s v er) :
    Calls Tryd.prog 34 #[.string s] w fun e w' => e = .returned (.tuple #[.int .i64 v, .int .i64 er]) ∧ Below w.heap.size w w' := by
  rcases R with ⟨y, m, d, y0, y1, m0, m1, d0, d1, hs, R⟩ | ⟨L, rfl, rfl⟩
  · have cf := fun w => rlike_yes s dateF w rfl (by rw [hs]; exact date_like y0 y1 m0 m1 d0 d1)
    have h10 : s.size = 10 := by rw [hs]; rfl
    have cy : ∀ w, Calls Tryd.prog 61 #[.string (s.extract 0 4)] w fun e w' => e = .returned (.int .i64 y) ∧ w = w' := fun w => by rw [hs, dcut_y]; exact rnum4 y w y0 y1
    have cm : ∀ w, Calls Tryd.prog 61 #[.string (s.extract 5 7)] w fun e w' => e = .returned (.int .i64 m) ∧ w = w' := fun w => by rw [hs, dcut_m]; exact rnum2 m w m0 m1
    have cd : ∀ w, Calls Tryd.prog 61 #[.string (s.extract 8 10)] w fun e w' => e = .returned (.int .i64 d) ∧ w = w' := fun w => by rw [hs, dcut_d]; exact rnum2 d w d0 d1
    have cD := fun w => rDay_any y m d v er w R
    clear hs R y0 y1 m0 m1 d0 d1 hm
    go_enter Tryd.func34, Tryd.ntmps34
    go_wp2_with fail
    refine (cf _).mono ?_
    rintro e w1 ⟨rfl, hb1⟩
    clear cf
    go_wp2
    go_region_held3 (fun w' => Below w1.heap.size w1 w')
      (first | (with_reducible assumption) | (with_reducible exact Below.refl _ _) | exact (Below.refl _ _).drew)
      (first
        | (go_at_call 61; first
          | ((with_reducible refine (cy _).mono ?_); rintro e w20 ⟨rfl, rfl⟩)
          | ((with_reducible refine (cm _).mono ?_); rintro e w20 ⟨rfl, rfl⟩)
          | ((with_reducible refine (cd _).mono ?_); rintro e w20 ⟨rfl, rfl⟩))
        | (go_at_call 45; (with_reducible refine (cD _).mono ?_); rintro e w20 ⟨rfl, hb⟩; have hB := bthen (w := w1) (by first | (with_reducible assumption) | (with_reducible exact Below.refl _ _) | exact (Below.refl _ _).drew) hb))
    all_goals go_wp2
    all_goals
      go_ret2
      exact ⟨rfl, bthen hb1 hB⟩
  · have cf := fun w => rlike_no s dateF w rfl hm L
    clear L
    go_enter Tryd.func34, Tryd.ntmps34
    go_wp2_with fail
    refine (cf _).mono ?_
    rintro e w1 ⟨rfl, hb1⟩
    go_wp2
    go_ret2
    exact ⟨rfl, hb1⟩

theorem rParseIso_any (s : ByteArray) (v er : Int) (w : World) (hm : s.size ≤ maxLen) (R : PsRes s v er) :
    Calls Tryd.prog 38 #[.string s] w fun e w' => e = .returned (.tuple #[.int .i64 v, .int .i64 er]) ∧ Below w.heap.size w w' := by
  rcases R with ⟨y, m, d, y0, y1, m0, m1, d0, d1, hs, R⟩ | ⟨L, rfl, rfl⟩
  · have cf := fun w => rlike_yes s isoF w rfl (by rw [hs]; exact iso_like y0 y1 m0 m1 d0 d1)
    have h10 : s.size = 10 := by rw [hs]; rfl
    have cy : ∀ w, Calls Tryd.prog 61 #[.string (s.extract 0 4)] w fun e w' => e = .returned (.int .i64 y) ∧ w = w' := fun w => by rw [hs, icut_y]; exact rnum4 y w y0 y1
    have cm : ∀ w, Calls Tryd.prog 61 #[.string (s.extract 6 8)] w fun e w' => e = .returned (.int .i64 m) ∧ w = w' := fun w => by rw [hs, icut_m]; exact rnum2 m w m0 m1
    have cd : ∀ w, Calls Tryd.prog 61 #[.string (s.extract 9 10)] w fun e w' => e = .returned (.int .i64 d) ∧ w = w' := fun w => by rw [hs, icut_d]; exact rnum1 d w d0 d1
    have cD := fun w => rIDay_any y m d v er w R
    clear hs R y0 y1 m0 m1 d0 d1 hm
    go_enter Tryd.func38, Tryd.ntmps38
    go_wp2_with fail
    refine (cf _).mono ?_
    rintro e w1 ⟨rfl, hb1⟩
    clear cf
    go_wp2
    go_region_held3 (fun w' => Below w1.heap.size w1 w')
      (first | (with_reducible assumption) | (with_reducible exact Below.refl _ _) | exact (Below.refl _ _).drew)
      (first
        | (go_at_call 61; first
          | ((with_reducible refine (cy _).mono ?_); rintro e w20 ⟨rfl, rfl⟩)
          | ((with_reducible refine (cm _).mono ?_); rintro e w20 ⟨rfl, rfl⟩)
          | ((with_reducible refine (cd _).mono ?_); rintro e w20 ⟨rfl, rfl⟩))
        | (go_at_call 19; (with_reducible refine (cD _).mono ?_); rintro e w20 ⟨rfl, hb⟩; have hB := bthen (w := w1) (by first | (with_reducible assumption) | (with_reducible exact Below.refl _ _) | exact (Below.refl _ _).drew) hb))
    all_goals go_wp2
    all_goals
      go_ret2
      exact ⟨rfl, bthen hb1 hB⟩
  · have cf := fun w => rlike_no s isoF w rfl hm L
    clear L
    go_enter Tryd.func38, Tryd.ntmps38
    go_wp2_with fail
    refine (cf _).mono ?_
    rintro e w1 ⟨rfl, hb1⟩
    go_wp2
    go_ret2
    exact ⟨rfl, hb1⟩

end Go.Proofs.YtodpmdmfdnbehaaDoor.Tr
