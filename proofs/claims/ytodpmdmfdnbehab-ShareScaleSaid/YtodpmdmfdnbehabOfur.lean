/- furthest of package share: the places of a row, sorted by what stands there. -/
import Derived.Test.YtodpmdmfdnbehabOstab
import Derived.Laws.MakeOwn
namespace Go.Proofs.Ytodpmdmfdnbehab.Os
set_option linter.unusedSimpArgs false
set_option linter.unusedVariables false
open Go.RowKit Go.Proofs.Ytodpmdmfdnbehab.Pr Go.Proofs.Ytodpmdmfdnbehab.Rk Go.Proofs.Ytodpmdmfdnbehab.Sm Go.Proofs.Ytodpmdmfdnbehab.Om

set_option maxHeartbeats 1000000

theorem isNaN_any (x : Int) (w : World) :
    Calls Try.prog 57 #[.int .i64 x] w fun e w' => e = .returned (.bool false) ∧ w = w' := by
  go_enter Try.func57, Try.ntmps57
  go_wp2
  go_ret
  exact ⟨by simp, rfl⟩

theorem Compare_any (p q : Int) (w : World) :
    Calls Try.prog 30 #[.int .i64 p, .int .i64 q] w fun e w' => e = .returned (.int .i64 (sg p q)) ∧ w = w' := by
  have c1 := fun w => isNaN_any p w
  have c2 := fun w => isNaN_any q w
  have O : (p < q ∧ sg p q = -1) ∨ (q < p ∧ sg p q = 1) ∨ (p = q ∧ sg p q = 0) := by
    unfold sg; rcases Int.lt_trichotomy p q with h | h | h
    · exact .inl ⟨h, by rw [if_pos h]⟩
    · exact .inr (.inr ⟨h, by rw [if_neg (by omega), if_neg (by omega)]⟩)
    · exact .inr (.inl ⟨h, by rw [if_neg (by omega), if_pos h]⟩)
  generalize sg p q = s at *
  rcases O with ⟨h, rfl⟩ | ⟨h, rfl⟩ | ⟨rfl, rfl⟩
  all_goals
    go_enter Try.func30, Try.ntmps30
    go_wp2_with fail
    refine (c1 _).mono ?_
    rintro e w' ⟨rfl, rfl⟩
    go_wp2_with fail
    refine (c2 _).mono ?_
    rintro e w' ⟨rfl, rfl⟩
    go_wp2
    go_ret
    exact ⟨rfl, rfl⟩

theorem furthest1_go (p gr n cap x y : Nat) (r : Nat → Int) (w : World) (hp : w.cell? ⟨p, 0, none⟩ = some (.slice (some ⟨gr, 0, none⟩) n cap)) (R : Row w gr n r) (hx : x < n) (hy : y < n) (hn : n ≤ 1000000) :
    Calls Try.prog 29 #[.int .i64 x, .int .i64 y, .pointer (some ⟨p, 0, none⟩)] w fun e w' => e = .returned (.int .i64 (sg (r y) (r x))) ∧ ∃ m, w' = w.drewN m := by
  have c1 := R.c x hx
  have c2 := R.c y hy
  have cc := fun w => Compare_any (r y) (r x) w
  generalize r y = u at *
  generalize r x = v at *
  have px : (0 : Int) ≤ (x : Int) := by omega
  have bx : (x : Int) < (n : Int) := by omega
  have py : (0 : Int) ≤ (y : Int) := by omega
  have bY : (y : Int) < (n : Int) := by omega
  clear R hx hy
  go_enter Try.func29, Try.ntmps29
  go_wp2
  go_quiet ((exact (cc _).mono fun _ _ ⟨h1, h2⟩ => ⟨h1, _, h2.symm⟩))
  go_wp2
  go_ret
  exact ⟨rfl, _, rfl⟩

theorem infoN : (Try.prog.info? 3).map (fun i => (i.zero, i.size, i.bytes)) = some (some (.int .i64 0), 1, 8) := by kernel_rfl
theorem infoL : (Try.prog.info? 2).map (fun i => (i.zero, i.size, i.bytes)) = some (some (.int .i64 0), 1, 8) := by kernel_rfl
theorem underN : Try.prog.underlying 40 = some (.slice 3) := by kernel_rfl
theorem underL : Try.prog.underlying 22 = some (.slice 2) := by kernel_rfl

/-- a new row of noughts -/
theorem make_row {t e : TypeId} (info : (Try.prog.info? e).map (fun i => (i.zero, i.size, i.bytes)) = some (some (.int .i64 0), 1, 8)) (under : Try.prog.underlying t = some (.slice e)) (n : Nat) (hn : n ≤ 1000000) :
    ∃ cs : Array Value, (∀ w, (Instr.makeSlice t (.int .i64 (n : Int)) (.int .i64 (n : Int))).run Try.prog w = .ok (.slice (some ⟨w.heap.size, 0, none⟩) n n) (w.alloc (.cells cs e))) ∧ ∀ w : World, Row (w.alloc (.cells cs e)) w.heap.size n (fun _ => 0) := by
  obtain ⟨i, hi, hz0, hz1, hz2⟩ := info_parts info
  have e1 : (n : Int).toNat = n := by omega
  refine ⟨madeCells #[.int .i64 0] n, fun w => ?_, fun w => ⟨by simp, fun i hi => ?_, fun i hi => by simp [go_sem]⟩⟩
  · have h := run_make (P := Try.prog) (w := w) t e i (.int .i64 0) under hi hz0 .i64 .i64 n n (by omega) (by omega) (by rw [hz2]; omega) (by omega)
    rw [e1, hz1, Nat.mul_one] at h
    exact h
  · have : (madeCells #[Value.int .i64 0] n)[i]? = some (.int .i64 0) := by
      rw [← Array.getElem?_toList, toList_madeCells_one]
      simp [hi]
    simp [go_sem, this]

theorem St.congr {B : Nat} {Wb W : World} {g n : Nat} {f f' : Nat → Nat} (x : St B Wb W g n f) (h : ∀ i, i < n → f i = f' i) : St B Wb W g n f' :=
  ⟨row_congr x.row (fun i hi => by rw [h i hi]), x.below, x.bg, fun i hi => by rw [← h i hi]; exact x.bd i hi⟩
theorem St.put {B : Nat} {Wb W : World} {g n : Nat} {f : Nat → Nat} (x : St B Wb W g n f) {k v : Nat} (hk : k < n) (hv : v < n) : St B Wb (W.setCell ⟨g, k, none⟩ (.int .i64 v)) g n (fun j => if j = k then v else f j) :=
  ⟨row_congr (x.row.set _ hk) (fun i hi => by
    by_cases c : i = k
    · simp only [c, if_true]
    · simp only [c, if_false]), x.below.setCell (by simpa using x.bg) _, x.bg, fun i hi => by
    show (if i = k then v else f i) < n
    split
    · exact hv
    · exact x.bd i hi⟩

/-- what furthest tells: all places, who lies furthest first -/
def FurOut (w : World) (n : Nat) (r : Nat → Int) (e : Ending) (w' : World) : Prop :=
  ∃ f : Nat → Nat, e = .returned (.slice (some ⟨w.heap.size + 1, 0, none⟩) n n) ∧ Row w' (w.heap.size + 1) n (fun i => (f i : Int)) ∧ (∀ i, i < n → f i < n) ∧ Srt r f 0 n ∧ Pm (fun i => if i < n then i else 0) f 0 n ∧ Below w.heap.size w w'

theorem furthest_go (gr n cap : Nat) (r : Nat → Int) (w : World) (R : Row w gr n r) (h0 : 0 < n) (hn : n ≤ 1000000) :
    Calls Try.prog 14 #[.slice (some ⟨gr, 0, none⟩) n cap] w (FurOut w n r) := by
  obtain ⟨cs, hmk, hrow⟩ := make_row infoN underN n hn
  -- the world with the box of rests
  obtain ⟨w1, hw1⟩ : ∃ w1, w1 = w.alloc (.cells #[.slice (some ⟨gr, 0, none⟩) n cap] 22) := ⟨_, rfl⟩
  have s1 : w1.heap.size = w.heap.size + 1 := by rw [hw1]; simp
  have b1 : w1.cell? ⟨w.heap.size, 0, none⟩ = some (.slice (some ⟨gr, 0, none⟩) n cap) := by rw [hw1]; simp [go_sem]
  have B1 : Below w.heap.size w w1 := by rw [hw1]; exact balloc (Below.refl _ w) _
  have R1 : Row w1 gr n r := R.kept B1
  have HC : CmpOk (w.heap.size + 1) n r w1 29 #[.pointer (some ⟨w.heap.size, 0, none⟩)] := by
    refine ⟨fun _ _ => by rfl, fun W hb x y hx hy k => ?_⟩
    rw [← s1] at hb
    have R2 := R1.kept hb
    have b2 := (hb.cell (p := ⟨w.heap.size, 0, none⟩) (show w.heap.size < w1.heap.size by omega)).trans b1
    refine (furthest1_go w.heap.size gr n cap x y r (W.drewN k) b2 ⟨R2.lt, R2.c, R2.fz⟩ hx hy hn).mono fun e w' ⟨he, m, hm⟩ => ⟨he, k + m, by rw [hm, World.drewN_drewN]⟩
  have S0 : St (w.heap.size + 1) w1 (w1.alloc (.cells cs 3)) (w.heap.size + 1) n (fun j => if j < 0 then j else 0) := by
    refine ⟨row_congr (by have := hrow w1; rwa [s1] at this) (fun i hi => by simp), ?_, Nat.le_refl _, fun i hi => by simp; exact h0⟩
    rw [← s1]
    exact balloc (Below.refl _ w1) _
  have HH := Lib.hid HC
  have HB := Lib.hid B1
  have HS := Lib.hid s1
  have b0 : w1.cell? ⟨w.heap.size, 0, none⟩ = some (.slice (some ⟨gr, 0, none⟩) n cap) := b1
  have Q0 : 0 < n := h0
  clear HC R R1 B1 hrow
  go_enter Try.func14, Try.ntmps14
  go_wp2_with fail
  rw [← hw1]
  clear hw1 hmk
  go_loopw [10] (fun x wr => ∃ k : Nat, k ≤ n ∧ x = .int .i64 k ∧ St (w.heap.size + 1) w1 wr (w.heap.size + 1) n (fun j => if j < k then j else 0)) (fun x _ => n - (intOf x).toNat)
  case atStart => exact ⟨0, by omega, rfl, S0⟩
  case round =>
    clear S0 b1 b0
    obtain ⟨k, hk, rfl, X⟩ := hrel
    by_cases hlt : k < n
    · have X2 := X.put hlt hlt
      have X3 := X2.congr (f' := fun j => if j < k + 1 then j else 0) (fun j hj => by
        by_cases c1 : j = k
        · subst c1; simp
        · by_cases c2 : j < k
          · rw [if_neg c1, if_pos c2, if_pos (by omega)]
          · rw [if_neg c1, if_neg c2, if_neg (by omega)])
      have c1 := X.c1 hlt
      have f1 := X.f1 hlt
      have pp : (0 : Int) ≤ (k : Int) := by omega
      have bp : (k : Int) < (n : Int) := by omega
      generalize ((if k < k then k else 0 : Nat) : Int) = u at c1
      clear X X2
      go_wp2
      go_roundw
      case rel => exact ⟨k + 1, by omega, by go_num, X3⟩
      case measure => simp [intOf] <;> omega
    · obtain rfl : k = n := by omega
      go_wp2_with fail
      refine (sort_go (w.heap.size + 1) (w.heap.size + 1) k k 29 _ r _ w1 _ HH.out X (fun i j h1 h2 h3 => by
        show (if i < k then i else 0) < (if j < k then j else 0)
        rw [if_pos (by omega), if_pos h3]; exact h2) Q0 hn).mono ?_
      rintro e w2 ⟨rfl, f', X2, t, p⟩
      have Y : FurOut w k r (.returned (.slice (some ⟨w.heap.size + 1, 0, none⟩) k k)) w2 :=
        ⟨f', rfl, X2.row, X2.bd, t, p, by have h := X2.below; rw [← HS.out] at h; exact bthen HB.out h⟩
      have HY := Lib.hid Y
      clear Y X X2 t p
      go_wp2
      exact bodyPost_ret (v := .slice (some ⟨w.heap.size + 1, 0, none⟩) k k) (by simp [results, Try.results14, go_sem]) rfl HY.out

end Go.Proofs.Ytodpmdmfdnbehab.Os
