/- The stable sort, whole. -/
import Derived.Test.YtodpmdmfdnbehabOgo
import Derived.Test.YtodpmdmfdnbehabOblk
namespace Go.Proofs.Ytodpmdmfdnbehab.Os
set_option linter.unusedSimpArgs false
set_option linter.unusedVariables false
open Go.RowKit Go.Proofs.Ytodpmdmfdnbehab.Pr Go.Proofs.Ytodpmdmfdnbehab.Rk Go.Proofs.Ytodpmdmfdnbehab.Sm Go.Proofs.Ytodpmdmfdnbehab.Om

set_option maxHeartbeats 1000000

theorem insertion_none (B g n cap a K : Nat) (c : Value) (r : Nat → Int) (f : Nat → Nat) (Wb w : World) (S : St B Wb w g n f) (h3 : a ≤ n) (hn : n ≤ 1000000) :
    Calls Try.prog 66 #[.slice (some ⟨g, 0, none⟩) n cap, .int .i64 a, .int .i64 a, .func (.func K) #[] #[c]] w fun e w' => e = .returned (.tuple #[]) ∧ St B Wb w' g n f := by
  have k1 : IntKind.i64.wrap ((a : Int) + 1) = (a : Int) + 1 := IntWalk.i64_in _ (by omega)
  have d : decide ((a : Int) + 1 < (a : Int)) = false := decide_eq_false (by omega)
  go_enter Try.func66, Try.ntmps66
  go_wp2
  go_loopw [8] (fun x wr => x = .int .i64 ((a : Int) + 1) ∧ St B Wb wr g n f) (fun x _ => 0)
  case atStart => exact ⟨rfl, S⟩
  case round =>
    clear S
    obtain ⟨rfl, X⟩ := hrel
    go_wp2
    exact bodyPost_end (v := .tuple #[]) (by simp [results, Try.results66, go_sem]) rfl ⟨rfl, X⟩

theorem insertion_to (B g n cap a b K : Nat) (c : Value) (r : Nat → Int) (f : Nat → Nat) (x y : Int) (Wb w : World) (HC : CmpOk B n r Wb K #[c]) (S : St B Wb w g n f) (asc : Asc f a b) (h1 : a ≤ b) (h3 : b ≤ n) (hn : n ≤ 1000000) (hx : x = (a : Int)) (hy : y = (b : Int)) :
    Calls Try.prog 66 #[.slice (some ⟨g, 0, none⟩) n cap, .int .i64 x, .int .i64 y, .func (.func K) #[] #[c]] w (Merged B Wb g n r f a b) := by
  subst hx hy
  by_cases e : a = b
  · subst e
    exact (insertion_none B g n cap a K c r f Wb w S h3 hn).mono fun e w' ⟨h1, h2⟩ => ⟨h1, f, h2, fun i j _ _ _ => by omega, Pm.refl _ _ _⟩
  · exact insertion_go B g n cap a b K c r f Wb w HC S asc (by omega) h3 hn
theorem sym_to (B g n cap a m b K : Nat) (c : Value) (r : Nat → Int) (f : Nat → Nat) (x y z : Int) (Wb w : World) (HC : CmpOk B n r Wb K #[c]) (S : St B Wb w g n f) (sl : Srt r f a m) (sr : Srt r f m b) (lo : Lo f a m b) (h1 : a < m) (h2 : m < b) (h3 : b ≤ n) (hn : n ≤ 1000000) (hx : x = (a : Int)) (hy : y = (m : Int)) (hz : z = (b : Int)) :
    Calls Try.prog 67 #[.slice (some ⟨g, 0, none⟩) n cap, .int .i64 x, .int .i64 y, .int .i64 z, .func (.func K) #[] #[c]] w (Merged B Wb g n r f a b) := by
  subst hx hy hz
  exact sym_go B g n cap K c r Wb HC hn (b - a) a m b f w (Nat.le_refl _) S sl sr lo h1 h2 h3

theorem stable_go (B g n cap K : Nat) (c : Value) (r : Nat → Int) (f : Nat → Nat) (Wb w : World) (HC : CmpOk B n r Wb K #[c]) (S : St B Wb w g n f) (asc : Asc f 0 n) (h0 : 0 < n) (hn : n ≤ 1000000) :
    Calls Try.prog 56 #[.slice (some ⟨g, 0, none⟩) n cap, .int .i64 n, .func (.func K) #[] #[c]] w (Merged B Wb g n r f 0 n) := by
  have H0 := Lib.hid (And.intro (Ini.start (r := r) (s := 20) asc) (Pm.refl f 0 n))
  have HH := Lib.hid HC
  clear asc HC
  go_enter Try.func56, Try.ntmps56
  go_wp2
  go_loopw [7, 8] (fun x y wr => ∃ (k a : Nat) (fk : Nat → Nat), a ≤ n ∧ x = .int .i64 a ∧ y = .int .i64 ((a : Int) + 20) ∧ St B Wb wr g n fk ∧ Hid (a = 20 * k ∧ Ini r fk 20 n k ∧ Pm f fk 0 n)) (fun x _ _ => n - (intOf x).toNat)
  case atStart => exact ⟨0, 0, f, by omega, rfl, rfl, S, Lib.hid ⟨rfl, H0.out.1, H0.out.2⟩⟩
  case round =>
    clear S H0
    obtain ⟨k, a, fk, an, rfl, rfl, X, H⟩ := hrel
    by_cases c1 : a + 20 ≤ n
    · have asc : Asc fk a (a + 20) := fun i j x y z => by
        have e := H.out.1
        exact H.out.2.1.asc i j (by omega) y (by omega)
      go_wp2_with fail
      refine (insertion_to B g n cap a (a + 20) K c r fk (a : Int) ((a : Int) + 20) Wb _ HH.out X asc (by omega) c1 hn rfl (by omega)).mono ?_
      rintro e w1 ⟨rfl, f1, X1, s1, p1⟩
      have H2 : Hid (a + 20 = 20 * (k + 1) ∧ Ini r f1 20 n (k + 1) ∧ Pm f f1 0 n) := Lib.hid ⟨by have := H.out.1; omega, H.out.2.1.step H.out.1 c1 p1 s1, H.out.2.2.trans (p1.mono (by omega) c1)⟩
      clear asc s1 p1 X H
      go_wp2
      go_roundw
      case rel => exact ⟨k + 1, a + 20, f1, c1, by go_num, by go_num, X1, H2⟩
      case measure => simp [intOf] <;> omega
    · have asc : Asc fk a n := fun i j x y z => by
        have e := H.out.1
        exact H.out.2.1.asc i j (by omega) y z
      go_wp2_with fail
      refine (insertion_to B g n cap a n K c r fk (a : Int) (n : Int) Wb _ HH.out X asc an (Nat.le_refl _) hn rfl rfl).mono ?_
      rintro e w1 ⟨rfl, f1, X1, s1, p1⟩
      have H2 : Hid (Blk r f1 20 n ∧ Pm f f1 0 n) := Lib.hid ⟨H.out.2.1.last H.out.1 an (by omega) p1 s1, H.out.2.2.trans (p1.mono (by omega) (Nat.le_refl _))⟩
      clear asc s1 p1 X H
      go_wp2
      go_loopw [6] (fun x wr => ∃ (s : Nat) (fs : Nat → Nat), 0 < s ∧ s ≤ 2 * n + 20 ∧ x = .int .i64 s ∧ St B Wb wr g n fs ∧ Hid (Blk r fs s n ∧ Pm f fs 0 n)) (fun x _ => n - (intOf x).toNat)
      case atStart => exact ⟨20, f1, by omega, by omega, rfl, X1, H2⟩
      case round =>
        clear X1 H2 c1 an
        obtain ⟨s, fs, s0, sn, rfl, X, H⟩ := hrel
        by_cases c2 : s < n
        · have q1 : IntKind.i64.wrap (2 * (s : Int)) = 2 * (s : Int) := IntWalk.i64_in _ (by omega)
          have H0 : Hid (Mid r fs s n 0 ∧ Pm f fs 0 n) := Lib.hid ⟨Mid.start H.out.1, H.out.2⟩
          clear H
          go_wp2
          go_loopw [7, 8] (fun x y wr => ∃ (k a : Nat) (fk : Nat → Nat), a ≤ n ∧ x = .int .i64 a ∧ y = .int .i64 ((a : Int) + 2 * (s : Int)) ∧ St B Wb wr g n fk ∧ Hid (a = 2 * s * k ∧ Mid r fk s n k ∧ Pm f fk 0 n)) (fun x _ _ => n - (intOf x).toNat)
          case atStart => exact ⟨0, 0, fs, by omega, rfl, by simp, X, Lib.hid ⟨by simp, H0.out.1, H0.out.2⟩⟩
          case round =>
            clear X H0
            obtain ⟨k, a, fk, an, rfl, rfl, X, H⟩ := hrel
            have q2 : IntKind.i64.wrap ((a : Int) + (s : Int)) = (a : Int) + (s : Int) := IntWalk.i64_in _ (by omega)
            by_cases c3 : a + 2 * s ≤ n
            · have q3 : IntKind.i64.wrap ((a : Int) + 2 * (s : Int) + 2 * (s : Int)) = (a : Int) + 2 * (s : Int) + 2 * (s : Int) := IntWalk.i64_in _ (by omega)
              have P := H.out.2.1.pair H.out.1 (by omega)
              have HP : Hid (Srt r fk a (a + s) ∧ Srt r fk (a + s) (a + 2 * s) ∧ Lo fk a (a + s) (a + 2 * s)) := Lib.hid ⟨P.1, fun i j x y z => P.2.1 i j x y (by omega), fun i j x y z t => P.2.2 i j x y z (by omega)⟩
              clear P
              go_wp2_with fail
              refine (sym_to B g n cap a (a + s) (a + 2 * s) K c r fk _ _ _ Wb _ HH.out X HP.out.1 HP.out.2.1 HP.out.2.2 (by omega) (by omega) c3 hn rfl (by omega) (by omega)).mono ?_
              rintro e w1 ⟨rfl, f2, X2, s2, p2⟩
              have H2 : Hid (a + 2 * s = 2 * s * (k + 1) ∧ Mid r f2 s n (k + 1) ∧ Pm f f2 0 n) := Lib.hid ⟨by rw [H.out.1, Nat.mul_add, Nat.mul_one], H.out.2.1.step H.out.1 c3 p2 s2, H.out.2.2.trans (p2.mono (by omega) c3)⟩
              clear s2 p2 X H HP
              go_wp2
              go_roundw
              case rel => exact ⟨k + 1, a + 2 * s, f2, c3, by go_num, by go_num, X2, H2⟩
              case measure => simp [intOf] <;> omega
            · by_cases c4 : a + s < n
              · have P := H.out.2.1.pair H.out.1 (by omega)
                have HP : Hid (Srt r fk a (a + s) ∧ Srt r fk (a + s) n ∧ Lo fk a (a + s) n) := Lib.hid ⟨P.1, fun i j x y z => P.2.1 i j x y (by omega), P.2.2⟩
                have q4 : IntKind.i64.wrap ((s : Int) * 2) = (s : Int) * 2 := IntWalk.i64_in _ (by omega)
                clear P
                go_wp2_with fail
                refine (sym_to B g n cap a (a + s) n K c r fk _ _ _ Wb _ HH.out X HP.out.1 HP.out.2.1 HP.out.2.2 (by omega) c4 (Nat.le_refl _) hn rfl (by omega) rfl).mono ?_
                rintro e w1 ⟨rfl, f2, X2, s2, p2⟩
                have H2 : Hid (Blk r f2 (2 * s) n ∧ Pm f f2 0 n) := Lib.hid ⟨H.out.2.1.last H.out.1 an (by omega) p2 s2, H.out.2.2.trans (p2.mono (by omega) (Nat.le_refl _))⟩
                clear s2 p2 X H HP
                go_wp2
                go_roundw
                case rel => exact ⟨2 * s, f2, by omega, by omega, by congr 1; omega, X2, H2⟩
                case measure => simp [intOf] <;> omega
              · have H2 : Hid (Blk r fk (2 * s) n ∧ Pm f fk 0 n) := Lib.hid ⟨H.out.2.1.last H.out.1 an (by omega) (Pm.refl _ _ _) (H.out.2.1.alone H.out.1 (by omega)), H.out.2.2⟩
                have q4 : IntKind.i64.wrap ((s : Int) * 2) = (s : Int) * 2 := IntWalk.i64_in _ (by omega)
                clear H
                go_wp2
                go_roundw
                case rel => exact ⟨2 * s, fk, by omega, by omega, by congr 1; omega, X, H2⟩
                case measure => simp [intOf] <;> omega
        · have Y : ∃ f', St B Wb wr g n f' ∧ Srt r f' 0 n ∧ Pm f f' 0 n := ⟨fs, X, H.out.1.whole (by omega), H.out.2⟩
          have HY := Lib.hid Y
          clear Y X H
          go_wp2
          exact bodyPost_end (v := .tuple #[]) (by simp [results, Try.results56, go_sem]) rfl ⟨rfl, HY.out⟩

theorem sort_go (B g n cap K : Nat) (c : Value) (r : Nat → Int) (f : Nat → Nat) (Wb w : World) (HC : CmpOk B n r Wb K #[c]) (S : St B Wb w g n f) (asc : Asc f 0 n) (h0 : 0 < n) (hn : n ≤ 1000000) :
    Calls Try.prog 28 #[.slice (some ⟨g, 0, none⟩) n cap, .func (.func K) #[] #[c]] w (Merged B Wb g n r f 0 n) := by
  have cs := stable_go B g n cap K c r f Wb w HC S asc h0 hn
  clear HC S asc
  go_enter Try.func28, Try.ntmps28
  go_wp2_with fail
  refine cs.mono ?_
  rintro e w1 ⟨rfl, Y⟩
  have HY := Lib.hid Y
  clear Y
  go_wp2
  exact bodyPost_end (v := .tuple #[]) (by simp [results, Try.results28, go_sem]) rfl ⟨rfl, HY.out⟩

end Go.Proofs.Ytodpmdmfdnbehab.Os
