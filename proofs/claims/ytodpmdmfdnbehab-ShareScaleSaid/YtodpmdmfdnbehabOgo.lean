/- Merging of a stable sort, whole. -/
import Derived.Test.YtodpmdmfdnbehabOsymr
namespace Go.Proofs.Ytodpmdmfdnbehab.Os
set_option linter.unusedSimpArgs false
set_option linter.unusedVariables false
open Go.RowKit Go.Proofs.Ytodpmdmfdnbehab.Pr Go.Proofs.Ytodpmdmfdnbehab.Rk Go.Proofs.Ytodpmdmfdnbehab.Sm Go.Proofs.Ytodpmdmfdnbehab.Om

set_option maxHeartbeats 2000000

theorem rotate_to (B g n cap a m b : Nat) (f f' : Nat → Nat) (Wb w : World) (K : Value) (S : St B Wb w g n f) (h1 : a < m) (h2 : m < b) (h3 : b ≤ n) (hn : n ≤ 1000000) (hf : f' = rot f a m b) :
    Calls Try.prog 70 #[.slice (some ⟨g, 0, none⟩) n cap, .int .i64 a, .int .i64 m, .int .i64 b, K] w fun e w' => e = .returned (.tuple #[]) ∧ St B Wb w' g n f' := by
  subst hf
  exact rotate_go B g n cap a m b f Wb w K S h1 h2 h3 hn

/-- what is known behind the search: where the row is turned, and how it is sorted then -/
structure Turned (r : Nat → Int) (f f1 : Nat → Nat) (a s c e b : Nat) : Prop where
  pm : Pm f f1 a b
  l1 : Srt r f1 a s
  l2 : Srt r f1 s c
  l3 : Lo f1 a s c
  r1 : Srt r f1 c e
  r2 : Srt r f1 e b
  r3 : Lo f1 c e b
  x : ∀ p q, a ≤ p → p < c → c ≤ q → q < b → Ahead r (f1 p) (f1 q)

theorem turned {r : Nat → Int} {f : Nat → Nat} {a s m e b c : Nat} (sl : Srt r f a m) (sr : Srt r f m b) (lo : Lo f a m b) (h0 : a ≤ s) (h1 : s ≤ m) (h2 : m ≤ e) (h3 : e ≤ b) (hc : c = s + (e - m))
    (hA : a < s → e < b → Ahead r (f (s - 1)) (f e)) (hB : s < m → m < e → Ahead r (f (e - 1)) (f s)) : Turned r f (rot f s m e) a s c e b := by
  subst hc
  obtain ⟨q1, q2, q3, q4, q5, q6⟩ := rot_parts sl sr lo h0 h1 h2 h3
  exact ⟨(rot_pm f h1 h2).mono h0 h3, q1, q2, q3, q4, q5, q6, cross sl sr h0 h1 h2 h3 hA hB⟩

/-- the whole, out of the two halves -/
theorem Turned.done {B : Nat} {Wb w : World} {g n : Nat} {r : Nat → Int} {f f1 f2 f3 : Nat → Nat} {a s c e b : Nat} (T : Turned r f f1 a s c e b) (ac : a ≤ c) (cb : c ≤ b) (S : St B Wb w g n f3)
    (s2 : Srt r f2 a c) (p2 : Pm f1 f2 a c) (s3 : Srt r f3 c b) (p3 : Pm f2 f3 c b) : ∃ f', St B Wb w g n f' ∧ Srt r f' a b ∧ Pm f f' a b :=
  ⟨f3, S, (halves ac cb T.pm p2 p3 s2 s3 T.x).1, (halves ac cb T.pm p2 p3 s2 s3 T.x).2⟩
/-- the right half's parts stand as they did behind the left half's merge -/
theorem Turned.right {r : Nat → Int} {f f1 f2 : Nat → Nat} {a s c e b : Nat} (T : Turned r f f1 a s c e b) (p2 : Pm f1 f2 a c) (ce : c ≤ e) : Srt r f2 c e ∧ Srt r f2 e b ∧ Lo f2 c e b :=
  ⟨fun i j x y z => by rw [p2.hi i x, p2.hi j (by omega)]; exact T.r1 i j x y z, fun i j x y z => by rw [p2.hi i (by omega), p2.hi j (by omega)]; exact T.r2 i j x y z,
   fun i j x y z t => by rw [p2.hi i x, p2.hi j (by omega)]; exact T.r3 i j x y z t⟩

def SymOk (B g n cap K : Nat) (c : Value) (r : Nat → Int) (Wb : World) (d : Nat) : Prop :=
  ∀ (a m b : Nat) (f : Nat → Nat) (w : World), b - a ≤ d → St B Wb w g n f → Srt r f a m → Srt r f m b → Lo f a m b → a < m → m < b → b ≤ n →
    Calls Try.prog 67 #[.slice (some ⟨g, 0, none⟩) n cap, .int .i64 a, .int .i64 m, .int .i64 b, .func (.func K) #[] #[c]] w (Merged B Wb g n r f a b)

set_option maxRecDepth 100000 in
theorem sym_step (B g n cap a m b K d : Nat) (c : Value) (r : Nat → Int) (f : Nat → Nat) (Wb w : World) (HC : CmpOk B n r Wb K #[c]) (ih : SymOk B g n cap K c r Wb d) (hd : b - a ≤ d + 1) (S : St B Wb w g n f) (sl : Srt r f a m) (sr : Srt r f m b) (lo : Lo f a m b) (h1 : a + 1 < m) (h2 : m + 1 < b) (h3 : b ≤ n) (hn : n ≤ 1000000) :
    Calls Try.prog 67 #[.slice (some ⟨g, 0, none⟩) n cap, .int .i64 a, .int .i64 m, .int .i64 b, .func (.func K) #[] #[c]] w (Merged B Wb g n r f a b) := by
  have hE := HC.1
  have HK := Lib.hid HC.2
  have HL := Lib.hid (And.intro sl (And.intro sr lo))
  have IH := Lib.hid ih
  have t1 : ((m : Int) - (a : Int) == 1) = false := beq_eq_false_iff_ne.2 (by omega)
  have t2 : ((b : Int) - (m : Int) == 1) = false := beq_eq_false_iff_ne.2 (by omega)
  obtain ⟨z, hz⟩ : ∃ z : Nat, ((a : Int) + (b : Int)) / 2 = (z : Int) := ⟨(a + b) / 2, by omega⟩
  have z0 : a < z := by omega
  have z1 : z < b := by omega
  have z2 : a + b ≤ z + z + 1 := by omega
  have z3 : z + z ≤ a + b := by omega
  clear HC ih sl sr lo
  by_cases zm : z < m
  all_goals
    go_enter Try.func67, Try.ntmps67
    go_wp2
    go_loopw [20, 21] (fun x y wr => ∃ (s t : Nat), a ≤ s ∧ s ≤ t ∧ t ≤ m ∧ t ≤ z ∧ z + m ≤ b + s ∧ x = .int .i64 s ∧ y = .int .i64 t ∧ St B Wb wr g n f ∧
      Hid ((a < s → z + m < b + s → Ahead r (f (s - 1)) (f (z + m - s))) ∧ (t < m → t < z → Ahead r (f (z + m - 1 - t)) (f t)))) (fun x y _ => (intOf y).toNat - (intOf x).toNat)
    case atStart =>
      first
      | exact ⟨z + m - b, z, by omega, by omega, by omega, by omega, by omega, by congr 1; omega, by congr 1, S, Lib.hid ⟨fun _ _ => by omega, fun _ _ => by omega⟩⟩
      | exact ⟨a, m, by omega, by omega, by omega, by omega, by omega, by congr 1, by congr 1, S, Lib.hid ⟨fun _ _ => by omega, fun _ _ => by omega⟩⟩
    case round =>
      clear S t1 t2
      obtain ⟨s, t, a0, st, tm, tz, zb, rfl, rfl, X, H⟩ := hrel
      by_cases c1 : s < t
      · obtain ⟨h, hh⟩ : ∃ h : Nat, ((s : Int) + (t : Int)) / 2 = (h : Int) := ⟨(s + t) / 2, by omega⟩
        have h0 : s ≤ h := by omega
        have h1' : h < t := by omega
        obtain ⟨e, he⟩ : ∃ e : Nat, e = z + m - 1 - h := ⟨_, rfl⟩
        obtain ⟨u, hu⟩ : ∃ u : Int, u = (f e : Int) := ⟨_, rfl⟩
        obtain ⟨v, hv⟩ : ∃ v : Int, v = (f h : Int) := ⟨_, rfl⟩
        obtain ⟨q, hq⟩ : ∃ q : Int, q = sg (r (f h)) (r (f e)) := ⟨_, rfl⟩
        have hc := fun q => HK.out wr X.below (f e) (f h) (X.bd e (by omega)) (X.bd h (by omega)) q
        rw [← hu, ← hv, ← hq] at hc
        simp only [List.append_toArray, List.cons_append, List.nil_append] at hc
        have k1 := X.c1 (i := e) (by omega)
        have k2 := X.c1 (i := h) (by omega)
        rw [← hu] at k1
        rw [← hv] at k2
        have pp : (0 : Int) ≤ (z : Int) + (m : Int) - 1 - (h : Int) := by omega
        have bp : (z : Int) + (m : Int) - 1 - (h : Int) < (n : Int) := by omega
        have ep : ((z : Int) + (m : Int) - 1 - (h : Int)).toNat = e := by omega
        have rp : IntKind.i64.wrap ((z : Int) + (m : Int) - 1 - (h : Int)) = (z : Int) + (m : Int) - 1 - (h : Int) := IntWalk.i64_in _ (by omega)
        have pq : (0 : Int) ≤ (h : Int) := by omega
        have bq : (h : Int) < (n : Int) := by omega
        have fl := HL.out.2.2 h e (by omega) (by omega) (by omega) (by omega)
        by_cases lt : r (f h) < r (f e)
        · have d1 : decide (q < 0) = true := decide_eq_true (by rw [hq]; exact sg_neg.2 lt)
          have HX := Lib.hid X
          have HI : Hid ((a < s → z + m < b + s → Ahead r (f (s - 1)) (f (z + m - s))) ∧ (h < m → h < z → Ahead r (f (z + m - 1 - h)) (f h))) := Lib.hid ⟨H.out.1, fun _ _ => by rw [← he]; exact (ahead_lt fl).2 lt⟩
          clear X H hu hv hq lt fl he
          go_wp2_with fail
          go_quiet ((exact hc _))
          have X2 := HX.out.drewN nq
          clear k1 k2 hc HX hh ep
          generalize wr.drewN nq = W2 at X2 ⊢
          go_wp2
          go_roundw
          case rel => exact ⟨s, h, by omega, by omega, by omega, by omega, by omega, rfl, rfl, X2, HI⟩
          case measure => simp [intOf] <;> omega
        · have d1 : decide (q < 0) = false := decide_eq_false (by rw [hq]; exact fun e => lt (sg_neg.1 e))
          have HX := Lib.hid X
          have HI : Hid ((a < h + 1 → z + m < b + (h + 1) → Ahead r (f (h + 1 - 1)) (f (z + m - (h + 1)))) ∧ (t < m → t < z → Ahead r (f (z + m - 1 - t)) (f t))) := Lib.hid ⟨fun _ _ => by
            rw [show z + m - (h + 1) = e by omega]; exact ahead_ge fl lt, H.out.2⟩
          clear X H hu hv hq lt fl he
          go_wp2_with fail
          go_quiet ((exact hc _))
          have X2 := HX.out.drewN nq
          clear k1 k2 hc HX hh ep
          generalize wr.drewN nq = W2 at X2 ⊢
          go_wp2
          go_roundw
          case rel => exact ⟨h + 1, t, by omega, by omega, by omega, by omega, by omega, by go_num, rfl, X2, HI⟩
          case measure => simp [intOf] <;> omega
      · obtain rfl : s = t := by omega
        obtain ⟨e, he⟩ : ∃ e : Nat, (z : Int) + (m : Int) - (s : Int) = (e : Int) := ⟨z + m - s, by omega⟩
        have T := turned HL.out.1 HL.out.2.1 HL.out.2.2 (s := s) (e := e) (c := z) a0 tm (by omega) (by omega) (by omega) (fun x y => by rw [show e = z + m - s by omega]; exact H.out.1 x (by omega)) (fun x y => by rw [show e - 1 = z + m - 1 - s by omega]; exact H.out.2 x (by omega))
        obtain ⟨f1, hf1⟩ : ∃ f1, f1 = rot f s m e := ⟨_, rfl⟩
        rw [← hf1] at T
        have HT := Lib.hid T
        clear T H c1
        have O : (s = m ∧ m < z ∧ e = z) ∨ (s = m ∧ z = m ∧ e = z) ∨ (s < m ∧ s = z ∧ e = m) ∨ (s < m ∧ s < z ∧ m < e ∧ z < e ∧ ((a < s ∧ e < b) ∨ (a < s ∧ e = b) ∨ (s = a ∧ e < b) ∨ (s = a ∧ e = b))) := by omega
        rcases O with ⟨o1, o2, o3⟩ | ⟨o1, o2, o3⟩ | ⟨o1, o2, o3⟩ | ⟨o1, o2, o3, o4, O⟩
        · first
          | (exfalso; omega)
          | (have e1 : f1 = f := by rw [hf1, o1]; exact rot_none_l f (by omega)
             have X1 : St B Wb wr g n f1 := by rw [e1]; exact X
             have q1 : m ≤ s := by omega
             have q2 : e ≤ z := by omega
             have q3 : a < s := by omega
             have q4 : s < z := by omega
             clear o1 o2 o3 e1 X hf1
             go_wp2_with fail
             refine (IH.out a s z f1 _ (by omega) X1 HT.out.l1 HT.out.l2 HT.out.l3 q3 q4 (by omega)).mono ?_
             rintro e' w2 ⟨rfl, f2, X2, s2, p2⟩
             have R := HT.out.right p2 (by omega)
             have HY := Lib.hid (HT.out.done (by omega) (by omega) X2 s2 p2 (fun i j h1 h2 h3 => R.2.1 i j (by omega) h2 h3) (Pm.refl _ _ _))
             clear R s2 p2 X2 X1
             go_wp2
             exact bodyPost_end (v := .tuple #[]) (by simp [results, Try.results67, go_sem]) rfl ⟨rfl, HY.out⟩)
        · first
          | (exfalso; omega)
          | (have e1 : f1 = f := by rw [hf1, o1]; exact rot_none_l f (by omega)
             have X1 : St B Wb wr g n f1 := by rw [e1]; exact X
             have q1 : m ≤ s := by omega
             have q2 : e ≤ z := by omega
             have q3 : a < s := by omega
             have q4 : z ≤ s := by omega
             have HY := Lib.hid (HT.out.done (f2 := f1) (by omega) (by omega) X1 (fun i j h1 h2 h3 => HT.out.l1 i j h1 h2 (by omega)) (Pm.refl _ _ _) (fun i j h1 h2 h3 => HT.out.r2 i j (by omega) h2 h3) (Pm.refl _ _ _))
             clear o1 o2 o3 e1 X X1 hf1
             go_wp2
             exact bodyPost_end (v := .tuple #[]) (by simp [results, Try.results67, go_sem]) rfl ⟨rfl, HY.out⟩)
        · first
          | (exfalso; omega)
          | (have e1 : f1 = f := by rw [hf1, o3]; exact rot_none_r f (by omega)
             have X1 : St B Wb wr g n f1 := by rw [e1]; exact X
             have q1 : e ≤ m := by omega
             have q2 : z < e := by omega
             have q3 : a < s := by omega
             have q4 : z ≤ s := by omega
             have q5 : e < b := by omega
             clear o2 o3 e1 X hf1
             go_wp2_with fail
             refine (IH.out z e b f1 _ (by omega) X1 HT.out.r1 HT.out.r2 HT.out.r3 q2 q5 (by omega)).mono ?_
             rintro e' w2 ⟨rfl, f2, X2, s2, p2⟩
             have HY := Lib.hid (HT.out.done (f2 := f1) (by omega) (by omega) X2 (fun i j h1 h2 h3 => HT.out.l1 i j h1 h2 (by omega)) (Pm.refl _ _ _) s2 p2)
             clear s2 p2 X2 X1
             go_wp2
             exact bodyPost_end (v := .tuple #[]) (by simp [results, Try.results67, go_sem]) rfl ⟨rfl, HY.out⟩)
        · have HF := Lib.hid hf1
          clear hf1
          go_wp2_with fail
          refine (rotate_to B g n cap s m e f f1 Wb _ _ X o1 o3 (by omega) hn HF.out).mono ?_
          rintro e' w1 ⟨rfl, X1⟩
          clear X
          rcases O with ⟨q1, q2⟩ | ⟨q1, q2⟩ | ⟨q1, q2⟩ | ⟨q1, q2⟩
          · go_wp2_with fail
            refine (IH.out a s z f1 _ (by omega) X1 HT.out.l1 HT.out.l2 HT.out.l3 q1 o2 (by omega)).mono ?_
            rintro e' w2 ⟨rfl, f2, X2, s2, p2⟩
            have R := HT.out.right p2 (by omega)
            have HR := Lib.hid (And.intro R (And.intro s2 p2))
            clear R s2 p2 X1
            go_wp2_with fail
            refine (IH.out z e b f2 _ (by omega) X2 HR.out.1.1 HR.out.1.2.1 HR.out.1.2.2 o4 q2 (by omega)).mono ?_
            rintro e' w3 ⟨rfl, f3, X3, s3, p3⟩
            have HY := Lib.hid (HT.out.done (by omega) (by omega) X3 HR.out.2.1 HR.out.2.2 s3 p3)
            clear s3 p3 X2 X3
            go_wp2
            exact bodyPost_end (v := .tuple #[]) (by simp [results, Try.results67, go_sem]) rfl ⟨rfl, HY.out⟩
          · first
            | (exfalso; omega)
            | (have q3 : b ≤ e := by omega
               have Q2 := Lib.hid q2
               clear q2
               go_wp2_with fail
               refine (IH.out a s z f1 _ (by omega) X1 HT.out.l1 HT.out.l2 HT.out.l3 q1 o2 (by omega)).mono ?_
               rintro e' w2 ⟨rfl, f2, X2, s2, p2⟩
               have R := HT.out.right p2 (by omega)
               have HY := Lib.hid (HT.out.done (by omega) (by omega) X2 s2 p2 (fun i j h1 h2 h3 => R.1 i j h1 h2 (by omega)) (Pm.refl _ _ _))
               clear R s2 p2 X1 X2
               go_wp2
               exact bodyPost_end (v := .tuple #[]) (by simp [results, Try.results67, go_sem]) rfl ⟨rfl, HY.out⟩)
          · first
            | (exfalso; omega)
            | (have q3 : s ≤ a := by omega
               clear q1
               go_wp2_with fail
               refine (IH.out z e b f1 _ (by omega) X1 HT.out.r1 HT.out.r2 HT.out.r3 o4 q2 (by omega)).mono ?_
               rintro e' w2 ⟨rfl, f2, X2, s2, p2⟩
               have HY := Lib.hid (HT.out.done (f2 := f1) (by omega) (by omega) X2 (fun i j h1 h2 h3 => HT.out.l2 i j (by omega) h2 h3) (Pm.refl _ _ _) s2 p2)
               clear s2 p2 X1 X2
               go_wp2
               exact bodyPost_end (v := .tuple #[]) (by simp [results, Try.results67, go_sem]) rfl ⟨rfl, HY.out⟩)
          · have q3 : s ≤ a := by omega
            have q4 : b ≤ e := by omega
            have HY := Lib.hid (HT.out.done (f2 := f1) (by omega) (by omega) X1 (fun i j h1 h2 h3 => HT.out.l2 i j (by omega) h2 h3) (Pm.refl _ _ _) (fun i j h1 h2 h3 => HT.out.r1 i j h1 h2 (by omega)) (Pm.refl _ _ _))
            clear q1 q2 X1
            go_wp2
            exact bodyPost_end (v := .tuple #[]) (by simp [results, Try.results67, go_sem]) rfl ⟨rfl, HY.out⟩

theorem sym_go (B g n cap K : Nat) (c : Value) (r : Nat → Int) (Wb : World) (HC : CmpOk B n r Wb K #[c]) (hn : n ≤ 1000000) : ∀ d, SymOk B g n cap K c r Wb d
  | 0 => fun a m b f w hd _ _ _ _ h1 h2 _ => by omega
  | d + 1 => fun a m b f w hd S sl sr lo h1 h2 h3 => by
    by_cases c1 : m = a + 1
    · exact sym_left B g n cap a m b K c r f Wb w HC S sr lo c1 h2 h3 hn
    · by_cases c2 : b = m + 1
      · exact sym_right B g n cap a m b K c r f Wb w HC S sl lo (by omega) c2 h3 hn
      · exact sym_step B g n cap a m b K d c r f Wb w HC (sym_go B g n cap K c r Wb HC hn d) hd S sl sr lo (by omega) (by omega) h3 hn

end Go.Proofs.Ytodpmdmfdnbehab.Os
