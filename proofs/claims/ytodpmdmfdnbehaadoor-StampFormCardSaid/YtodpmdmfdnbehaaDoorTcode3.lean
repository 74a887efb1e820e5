/- What Print, Parse, PrintIso and ParseIso of package stamp come to. -/
import Derived.Test.YtodpmdmfdnbehaaDoorTcode2
namespace Go.Proofs.YtodpmdmfdnbehaaDoor.Tp
set_option linter.unusedSimpArgs false
set_option linter.unusedVariables false
open Go.RowKit Go.Proofs.YtodpmdmfdnbehaaDoor.Bx Go.Proofs.YtodpmdmfdnbehaaDoor.Cm Go.Proofs.YtodpmdmfdnbehaaDoor.Cp Go.Proofs.YtodpmdmfdnbehaaDoor.Em Go.Proofs.YtodpmdmfdnbehaaDoor.Ep Go.Proofs.YtodpmdmfdnbehaaDoor.Tm

set_option maxHeartbeats 1000000

theorem num4 (n : Int) (w : World) (h0 : 0 ≤ n) (h1 : n ≤ 9999) : Calls Tryd.prog 59 #[.string (s4 n)] w fun e w' => e = .returned (.int .i64 n) ∧ Below w.heap.size w w' :=
  number_any (s4 n) 4 (fun i => [n / 1000, n / 100 % 10, n / 10 % 10, n % 10].getD i 0) n w rfl (by omega) (fun i h => by
    have hi : i = 0 ∨ i = 1 ∨ i = 2 ∨ i = 3 := by
      have : i < 4 := h
      omega
    rcases hi with rfl | rfl | rfl | rfl
    · exact ⟨dg_val (k := n / 1000) (by omega) (by omega), by simp; omega, by simp; omega⟩
    · exact ⟨dg_val (k := n / 100 % 10) (by omega) (by omega), by simp; omega, by simp; omega⟩
    · exact ⟨dg_val (k := n / 10 % 10) (by omega) (by omega), by simp; omega, by simp; omega⟩
    · exact ⟨dg_val (k := n % 10) (by omega) (by omega), by simp; omega, by simp; omega⟩) (by simp [vl]; omega)
theorem num2 (n : Int) (w : World) (h0 : 0 ≤ n) (h1 : n ≤ 99) : Calls Tryd.prog 59 #[.string (s2 n)] w fun e w' => e = .returned (.int .i64 n) ∧ Below w.heap.size w w' :=
  number_any (s2 n) 2 (fun i => [n / 10, n % 10].getD i 0) n w rfl (by omega) (fun i h => by
    have hi : i = 0 ∨ i = 1 := by
      have : i < 2 := h
      omega
    rcases hi with rfl | rfl
    · exact ⟨dg_val (k := n / 10) (by omega) (by omega), by simp; omega, by simp; omega⟩
    · exact ⟨dg_val (k := n % 10) (by omega) (by omega), by simp; omega, by simp; omega⟩) (by simp [vl]; omega)
theorem num1 (n : Int) (w : World) (h0 : 0 ≤ n) (h1 : n ≤ 9) : Calls Tryd.prog 59 #[.string (s1 n)] w fun e w' => e = .returned (.int .i64 n) ∧ Below w.heap.size w w' :=
  number_any (s1 n) 1 (fun _ => n) n w rfl (by omega) (fun i h => by
    obtain rfl : i = 0 := by
      have : i < 1 := h
      omega
    exact ⟨dg_val (k := n) (by omega) (by omega), h0, h1⟩) (by simp [vl])

theorem dateF_low : ∀ i (h : i < dateF.size), dateF[i].toNat < 128 := by
  intro i h
  have hi : i = 0 ∨ i = 1 ∨ i = 2 ∨ i = 3 ∨ i = 4 ∨ i = 5 ∨ i = 6 ∨ i = 7 ∨ i = 8 ∨ i = 9 := by
    have : i < 10 := h
    omega
  rcases hi with rfl | rfl | rfl | rfl | rfl | rfl | rfl | rfl | rfl | rfl <;> first | (show (48 : UInt8).toNat < 128; decide) | (show (45 : UInt8).toNat < 128; decide) | (show (87 : UInt8).toNat < 128; decide)
theorem isoF_low : ∀ i (h : i < isoF.size), isoF[i].toNat < 128 := by
  intro i h
  have hi : i = 0 ∨ i = 1 ∨ i = 2 ∨ i = 3 ∨ i = 4 ∨ i = 5 ∨ i = 6 ∨ i = 7 ∨ i = 8 ∨ i = 9 := by
    have : i < 10 := h
    omega
  rcases hi with rfl | rfl | rfl | rfl | rfl | rfl | rfl | rfl | rfl | rfl <;> first | (show (48 : UInt8).toNat < 128; decide) | (show (45 : UInt8).toNat < 128; decide) | (show (87 : UInt8).toNat < 128; decide)

theorem ret_str {s t : ByteArray} (h : s = t) : Ending.returned (.tuple #[.string s, .int .i64 0]) = Ending.returned (.tuple #[.string t, .int .i64 0]) := by rw [h]

theorem Print_any (n : Int) (s : ByteArray) (er : Int) (w : World) (R : PrRes n s er) (T : Tabs w) :
    Calls Tryd.prog 31 #[.int .i64 n] w fun e w' => e = .returned (.tuple #[.string s, .int .i64 er]) ∧ Below w.heap.size w w' := by
  rcases R with ⟨h0, h1, y, m, d, ok, hn, rfl, rfl⟩ | ⟨h, rfl, rfl⟩
  · have co := fun w T => Of_any n y m d 0 w (.inl ⟨h0, h1, ok, hn, rfl⟩) T
    have ml := mlen_bd y m
    have y0 : 1000 ≤ y := by have := ok.1.1; omega
    have y1 : y ≤ 9999 := ok.1.2.1
    have m0 : 0 ≤ m := by have := ok.1.2.2.1; omega
    have m1 : m ≤ 99 := by have := ok.1.2.2.2; omega
    have d0 : 0 ≤ d := by have := ok.2.1; omega
    have d1 : d ≤ 99 := by have := ok.2.2; omega
    have c4 := fun w T => dig4 y w y0 y1 T
    have cm := fun w => dig2 m w m0 m1
    have cd := fun w => dig2 d w d0 d1
    have z4 := s4_size y
    have zm := s2_size m
    have zd := s2_size d
    have E := Lib.hid (dstr_is y m d)
    generalize s4 y = a at *
    generalize s2 m = b at *
    generalize s2 d = c at *
    clear h0 h1 ok hn ml y0 y1 m0 m1 d0 d1
    go_enter Tryd.func31, Tryd.ntmps31
    go_wp2_with fail
    refine (co _ T.tab).mono ?_
    rintro e w1 ⟨rfl, hb⟩
    have P := Tri.new w1 (.int .i64 y) (.int .i64 m) (.int .i64 d) 38
    have B1 := balloc hb (.cells #[.int .i64 y, .int .i64 m, .int .i64 d] 38)
    have T1 := (T.kept hb).alloc (.cells #[.int .i64 y, .int .i64 m, .int .i64 d] 38)
    obtain ⟨W, hW⟩ : ∃ W, w1.alloc (.cells #[.int .i64 y, .int .i64 m, .int .i64 d] 38) = W := ⟨_, rfl⟩
    rw [hW] at P B1 T1
    clear hb co T
    have H := Lib.hid (fun (X : World) (h : Below W.heap.size W X) => heldT P h)
    clear P
    go_wp2
    clear hW
    go_region_held3 (fun w' => Below W.heap.size W w' ∧ w'.cell? ⟨w1.heap.size, 0, none⟩ = some (.int .i64 y) ∧ w'.cell? ⟨w1.heap.size, 1, none⟩ = some (.int .i64 m) ∧ w'.cell? ⟨w1.heap.size, 2, none⟩ = some (.int .i64 d))
      ((refine H.out _ ?_; first | (with_reducible assumption) | exact (Below.refl _ _).drew))
      ((go_at_call 56; first
        | ((with_reducible refine (c4 _ (T1.kept (by first | (with_reducible assumption) | (with_reducible exact Below.refl _ _) | exact (Below.refl _ _).drew))).mono ?_); rintro e w20 ⟨rfl, hb⟩; have hB := bthen (w := W) (by first | (with_reducible assumption) | (with_reducible exact Below.refl _ _) | exact (Below.refl _ _).drew) hb)
        | ((with_reducible refine (cm _).mono ?_); rintro e w20 ⟨rfl, rfl⟩)
        | ((with_reducible refine (cd _).mono ?_); rintro e w20 ⟨rfl, rfl⟩)))
    all_goals go_wp2
    all_goals
      go_ret2
      exact ⟨ret_str E.out, bthen B1 hB⟩
  · have co := fun w T => Of_any n 0 0 0 4 w (.inr ⟨h, rfl, rfl, rfl, rfl⟩) T
    clear h
    go_enter Tryd.func31, Tryd.ntmps31
    go_wp2_with fail
    refine (co _ T.tab).mono ?_
    rintro e w1 ⟨rfl, hb⟩
    go_wp2
    go_ret2
    exact ⟨rfl, balloc hb _⟩

theorem PrintIso_any (n : Int) (s : ByteArray) (er : Int) (w : World) (R : PiRes n s er) (T : Tabs w) :
    Calls Tryd.prog 35 #[.int .i64 n] w fun e w' => e = .returned (.tuple #[.string s, .int .i64 er]) ∧ Below w.heap.size w w' := by
  rcases R with ⟨h0, h1, y, m, d, ok, hn, rfl, rfl⟩ | ⟨h, rfl, rfl⟩
  · have co := fun w T => Iso_any n y m d 0 w (.inl ⟨h0, h1, ok, hn, rfl⟩) T
    have y0 : 1000 ≤ y := by have := ok.1; omega
    have y1 : y ≤ 9999 := ok.2.1
    have m0 : 0 ≤ m := by have := ok.2.2.1; omega
    have m1 : m ≤ 99 := by have := weeks_le ok; omega
    have d0 : 0 ≤ d := by have := ok.2.2.2.2.1; omega
    have d1 : d ≤ 9 := by have := ok.2.2.2.2.2.1; omega
    have c4 := fun w T => dig4 y w y0 y1 T
    have cm := fun w => dig2 m w m0 m1
    have cd := fun w => dig1 d w d0 d1
    have z4 := s4_size y
    have zm := s2_size m
    have zd := s1_size d
    have E := Lib.hid (istr_is y m d)
    generalize s4 y = a at *
    generalize s2 m = b at *
    generalize s1 d = c at *
    clear h0 h1 ok hn y0 y1 m0 m1 d0 d1
    go_enter Tryd.func35, Tryd.ntmps35
    go_wp2_with fail
    refine (co _ T.tab).mono ?_
    rintro e w1 ⟨rfl, hb⟩
    have P := Tri.new w1 (.int .i64 y) (.int .i64 m) (.int .i64 d) 23
    have B1 := balloc hb (.cells #[.int .i64 y, .int .i64 m, .int .i64 d] 23)
    have T1 := (T.kept hb).alloc (.cells #[.int .i64 y, .int .i64 m, .int .i64 d] 23)
    obtain ⟨W, hW⟩ : ∃ W, w1.alloc (.cells #[.int .i64 y, .int .i64 m, .int .i64 d] 23) = W := ⟨_, rfl⟩
    rw [hW] at P B1 T1
    clear hb co T
    have H := Lib.hid (fun (X : World) (h : Below W.heap.size W X) => heldT P h)
    clear P
    go_wp2
    clear hW
    go_region_held3 (fun w' => Below W.heap.size W w' ∧ w'.cell? ⟨w1.heap.size, 0, none⟩ = some (.int .i64 y) ∧ w'.cell? ⟨w1.heap.size, 1, none⟩ = some (.int .i64 m) ∧ w'.cell? ⟨w1.heap.size, 2, none⟩ = some (.int .i64 d))
      ((refine H.out _ ?_; first | (with_reducible assumption) | exact (Below.refl _ _).drew))
      ((go_at_call 56; first
        | ((with_reducible refine (c4 _ (T1.kept (by first | (with_reducible assumption) | (with_reducible exact Below.refl _ _) | exact (Below.refl _ _).drew))).mono ?_); rintro e w20 ⟨rfl, hb⟩; have hB := bthen (w := W) (by first | (with_reducible assumption) | (with_reducible exact Below.refl _ _) | exact (Below.refl _ _).drew) hb)
        | ((with_reducible refine (cm _).mono ?_); rintro e w20 ⟨rfl, rfl⟩)
        | ((with_reducible refine (cd _).mono ?_); rintro e w20 ⟨rfl, rfl⟩)))
    all_goals go_wp2
    all_goals
      go_ret2
      exact ⟨ret_str E.out, bthen B1 hB⟩
  · have co := fun w T => Iso_any n 0 0 0 4 w (.inr ⟨h, rfl, rfl, rfl, rfl⟩) T
    clear h
    go_enter Tryd.func35, Tryd.ntmps35
    go_wp2_with fail
    refine (co _ T.tab).mono ?_
    rintro e w1 ⟨rfl, hb⟩
    go_wp2
    go_ret2
    exact ⟨rfl, balloc hb _⟩

theorem Parse_any (s : ByteArray) (v er : Int) (w : World) (hm : s.size ≤ maxLen) (R : PaRes s v er) (T : Tab w) :
    Calls Tryd.prog 33 #[.string s] w fun e w' => e = .returned (.tuple #[.int .i64 v, .int .i64 er]) ∧ Below w.heap.size w w' := by
  rcases R with ⟨y, m, d, y0, y1, m0, m1, d0, d1, hs, R⟩ | ⟨L, rfl, rfl⟩
  · have cf := fun w => fits_yes s dateF w rfl dateF_low (by rw [hs]; exact date_like y0 y1 m0 m1 d0 d1)
    have h10 : s.size = 10 := by rw [hs]; rfl
    have cy : ∀ w, Calls Tryd.prog 59 #[.string (s.extract 0 4)] w fun e w' => e = .returned (.int .i64 y) ∧ Below w.heap.size w w' := fun w => by rw [hs, dcut_y]; exact num4 y w y0 y1
    have cm : ∀ w, Calls Tryd.prog 59 #[.string (s.extract 5 7)] w fun e w' => e = .returned (.int .i64 m) ∧ Below w.heap.size w w' := fun w => by rw [hs, dcut_m]; exact num2 m w m0 m1
    have cd : ∀ w, Calls Tryd.prog 59 #[.string (s.extract 8 10)] w fun e w' => e = .returned (.int .i64 d) ∧ Below w.heap.size w w' := fun w => by rw [hs, dcut_d]; exact num2 d w d0 d1
    have cD := fun w T => Day_any y m d v er w R T
    clear hs R y0 y1 m0 m1 d0 d1 hm
    go_enter Tryd.func33, Tryd.ntmps33
    go_wp2_with fail
    refine (cf _).mono ?_
    rintro e w1 ⟨rfl, hb1⟩
    have T1 := T.kept hb1
    clear cf T
    go_wp2
    go_region_held3 (fun w' => Below w1.heap.size w1 w')
      (first | (with_reducible assumption) | (with_reducible exact Below.refl _ _) | exact (Below.refl _ _).drew)
      (first
        | (go_at_call 59; first
          | ((with_reducible refine (cy _).mono ?_); rintro e w20 ⟨rfl, hb⟩; have hB := bthen (w := w1) (by first | (with_reducible assumption) | (with_reducible exact Below.refl _ _) | exact (Below.refl _ _).drew) hb)
          | ((with_reducible refine (cm _).mono ?_); rintro e w20 ⟨rfl, hb⟩; have hB := bthen (w := w1) (by first | (with_reducible assumption) | (with_reducible exact Below.refl _ _) | exact (Below.refl _ _).drew) hb)
          | ((with_reducible refine (cd _).mono ?_); rintro e w20 ⟨rfl, hb⟩; have hB := bthen (w := w1) (by first | (with_reducible assumption) | (with_reducible exact Below.refl _ _) | exact (Below.refl _ _).drew) hb))
        | (go_at_call 27; (with_reducible refine (cD _ (T1.kept (by first | (with_reducible assumption) | (with_reducible exact Below.refl _ _) | exact (Below.refl _ _).drew))).mono ?_); rintro e w20 ⟨rfl, hb⟩; have hB := bthen (w := w1) (by first | (with_reducible assumption) | (with_reducible exact Below.refl _ _) | exact (Below.refl _ _).drew) hb))
    all_goals go_wp2
    all_goals
      go_ret2
      exact ⟨rfl, bthen hb1 hB⟩
  · have cf := fun w => fits_no s dateF w rfl dateF_low hm L
    clear L
    go_enter Tryd.func33, Tryd.ntmps33
    go_wp2_with fail
    refine (cf _).mono ?_
    rintro e w1 ⟨rfl, hb1⟩
    go_wp2
    go_ret2
    exact ⟨rfl, hb1⟩

theorem ParseIso_any (s : ByteArray) (v er : Int) (w : World) (hm : s.size ≤ maxLen) (R : PsRes s v er) (T : Tab w) :
    Calls Tryd.prog 37 #[.string s] w fun e w' => e = .returned (.tuple #[.int .i64 v, .int .i64 er]) ∧ Below w.heap.size w w' := by
  rcases R with ⟨y, m, d, y0, y1, m0, m1, d0, d1, hs, R⟩ | ⟨L, rfl, rfl⟩
  · have cf := fun w => fits_yes s isoF w rfl isoF_low (by rw [hs]; exact iso_like y0 y1 m0 m1 d0 d1)
    have h10 : s.size = 10 := by rw [hs]; rfl
    have cy : ∀ w, Calls Tryd.prog 59 #[.string (s.extract 0 4)] w fun e w' => e = .returned (.int .i64 y) ∧ Below w.heap.size w w' := fun w => by rw [hs, icut_y]; exact num4 y w y0 y1
    have cm : ∀ w, Calls Tryd.prog 59 #[.string (s.extract 6 8)] w fun e w' => e = .returned (.int .i64 m) ∧ Below w.heap.size w w' := fun w => by rw [hs, icut_m]; exact num2 m w m0 m1
    have cd : ∀ w, Calls Tryd.prog 59 #[.string (s.extract 9 10)] w fun e w' => e = .returned (.int .i64 d) ∧ Below w.heap.size w w' := fun w => by rw [hs, icut_d]; exact num1 d w d0 d1
    have cD := fun w T => IDay_any y m d v er w R T
    clear hs R y0 y1 m0 m1 d0 d1 hm
    go_enter Tryd.func37, Tryd.ntmps37
    go_wp2_with fail
    refine (cf _).mono ?_
    rintro e w1 ⟨rfl, hb1⟩
    have T1 := T.kept hb1
    clear cf T
    go_wp2
    go_region_held3 (fun w' => Below w1.heap.size w1 w')
      (first | (with_reducible assumption) | (with_reducible exact Below.refl _ _) | exact (Below.refl _ _).drew)
      (first
        | (go_at_call 59; first
          | ((with_reducible refine (cy _).mono ?_); rintro e w20 ⟨rfl, hb⟩; have hB := bthen (w := w1) (by first | (with_reducible assumption) | (with_reducible exact Below.refl _ _) | exact (Below.refl _ _).drew) hb)
          | ((with_reducible refine (cm _).mono ?_); rintro e w20 ⟨rfl, hb⟩; have hB := bthen (w := w1) (by first | (with_reducible assumption) | (with_reducible exact Below.refl _ _) | exact (Below.refl _ _).drew) hb)
          | ((with_reducible refine (cd _).mono ?_); rintro e w20 ⟨rfl, hb⟩; have hB := bthen (w := w1) (by first | (with_reducible assumption) | (with_reducible exact Below.refl _ _) | exact (Below.refl _ _).drew) hb))
        | (go_at_call 18; (with_reducible refine (cD _ (T1.kept (by first | (with_reducible assumption) | (with_reducible exact Below.refl _ _) | exact (Below.refl _ _).drew))).mono ?_); rintro e w20 ⟨rfl, hb⟩; have hB := bthen (w := w1) (by first | (with_reducible assumption) | (with_reducible exact Below.refl _ _) | exact (Below.refl _ _).drew) hb))
    all_goals go_wp2
    all_goals
      go_ret2
      exact ⟨rfl, bthen hb1 hB⟩
  · have cf := fun w => fits_no s isoF w rfl isoF_low hm L
    clear L
    go_enter Tryd.func37, Tryd.ntmps37
    go_wp2_with fail
    refine (cf _).mono ?_
    rintro e w1 ⟨rfl, hb1⟩
    go_wp2
    go_ret2
    exact ⟨rfl, hb1⟩

end Go.Proofs.YtodpmdmfdnbehaaDoor.Tp
