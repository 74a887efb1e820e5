/- The reader's own steps: a block's end, what may not stand where an item begins, what stands behind an item's name; a new reader. -/
import Derived.Test.YtabhbcedldjjjaaGreatDoorYprw
import Derived.Test.YtabhbcedldjjjaaGreatDoorYpre
import Derived.Test.YtabhbcedldjjjaaGreatDoorJYa
import Derived.LaidEql
namespace Go.Proofs.YtabhbcedldjjjaaGreatDoor.Yp
set_option linter.unusedSimpArgs false
set_option linter.unusedVariables false
open Go.RowKit Go.Proofs.YtabhbcedldjjjaaGreatDoor.Bn Go.Proofs.YtabhbcedldjjjaaGreatDoor.Zm Go.Proofs.YtabhbcedldjjjaaGreatDoor.Ym

set_option maxHeartbeats 8000000
attribute [local go_sem ↓] Go.wp_at_zero Go.wp_at_succ

theorem RdM.kept {w W : World} {base : Nat} {S : Nat → Prop} {rb tb : Nat} {r : Rd} (M : RdM w base S rb tb r) (h : Below w.heap.size w W) : RdM W base S rb tb r := by
  obtain ⟨nb, own, B, O⟩ := M
  obtain ⟨go, top, st⟩ := r
  exact ⟨nb, own, B.kept (gbelow h none) (by simp), O.kept (gbelow h none) (fun x q => by cases q) go⟩
theorem RdM.base {w : World} {base : Nat} {S : Nat → Prop} {rb tb : Nat} {r : Rd} (M : RdM w base S rb tb r) : base ≤ w.heap.size := by
  obtain ⟨nb, own, B, O⟩ := M
  have := O.rb_
  omega
theorem RdRes.ahead {w W w' : World} {base : Nat} {S : Nat → Prop} {rb tb : Nat} {x : Except Nat Rd} {e : Ending} (h : RdRes base S rb tb x W e w') (B : Below w.heap.size w W) (hb : base ≤ w.heap.size) : RdRes base S rb tb x w e w' := by
  cases x with
  | error c => exact ⟨h.1, bthen B h.2⟩
  | ok r =>
    obtain ⟨S', h1, h2, h3, h4⟩ := h
    exact ⟨S', h1, (B.mono hb).trans h2, h3, h4⟩
theorem RdRes.form {w w' : World} {base : Nat} {S : Nat → Prop} {rb tb : Nat} {x : Except Nat Rd} {e : Ending} (h : RdRes base S rb tb x w e w') : ∃ c : Int, e = .returned (.int .i64 c) := by
  cases x with
  | error c => exact ⟨_, h.1⟩
  | ok r =>
    obtain ⟨S', h1, _⟩ := h
    exact ⟨0, h1⟩
theorem RdRes.cell {W0 W w' : World} {base : Nat} {S : Nat → Prop} {rb tb : Nat} {x : Except Nat Rd} {e : Ending} {p : Addr} {v : Value} (h : RdRes base S rb tb x W e w') (B : Below W0.heap.size W0 W) (hp : p.block < W0.heap.size) (hv : W0.cell? p = some v) : ∀ c, x = .error c → w'.cell? p = some v := by
  rintro c rfl
  exact ((bthen B h.2).cell hp).trans hv
theorem RdRes.err {w W : World} {base : Nat} {S : Nat → Prop} {rb tb c : Nat} (B : Below w.heap.size w W) : RdRes base S rb tb (.error c) w (.returned (.int .i64 c)) W := ⟨rfl, B⟩

/-- a block that may be written, as two pointers to it are compared -/
def Pt (W : World) (b : Nat) : Prop := b < W.heap.size ∧ (∃ u, W.cell? ⟨b, 0, none⟩ = some u) ∧ ∀ j, W.frozen? ⟨b, j, none⟩ = false
theorem Pt.kept {w W : World} {b : Nat} (h : Pt w b) (B : Below w.heap.size w W) : Pt W b := by
  obtain ⟨h1, ⟨u, h2⟩, h3⟩ := h
  exact ⟨Nat.lt_of_lt_of_le h1 B.size, ⟨u, (B.cell (p := ⟨b, 0, none⟩) h1).trans h2⟩, fun j => (B.frozen (p := ⟨b, j, none⟩) h1).trans (h3 j)⟩
theorem Ch.textPt {S : Nat → Prop} {W : World} {base : Nat} {EW EN : TypeId} {tb : Nat} {top : List Nd} : ∀ {st : List Fr} {b : Nat} {own : List Nat}, Ch S W base EW EN tb top st b own → Pt W tb
  | [], b, own, h => by
    obtain ⟨e, vw, vk, I, _⟩ := h
    rw [← e]
    exact ⟨I.lt, ⟨_, I.c0⟩, I.z⟩
  | f :: st, b, own, h => by
    obtain ⟨vw, vk, b', own', _, hc, _⟩ := h
    exact Ch.textPt hc
/-- the text itself is open just if nothing else is -/
theorem RdM.text {w : World} {base : Nat} {S : Nat → Prop} {rb tb : Nat} {r : Rd} (M : RdM w base S rb tb r) : ∃ nb, RdB w rb tb nb (fnv r.go rb) ∧ (nb = tb ↔ r.st = []) ∧ Pt w nb ∧ Pt w tb := by
  obtain ⟨nb, own, B, O⟩ := M
  refine ⟨nb, B, ?_, ?_, ?_⟩
  · obtain ⟨go, top, st⟩ := r
    have C := O.ch
    have nd := O.nd
    cases st with
    | nil => exact ⟨fun _ => rfl, fun _ => C.1⟩
    | cons f st =>
      obtain ⟨vw, vk, b', own', I, hc, e⟩ := C
      refine ⟨fun q => ?_, fun q => by cases q⟩
      have := hc.text
      rw [e] at nd
      simp only [List.nodup_cons, List.mem_append, not_or] at nd
      exact absurd (q ▸ this) nd.1.2
  · obtain ⟨f, vw, vk, out, I, _⟩ := O.ch.now
    exact ⟨I.lt, ⟨_, I.c0⟩, I.z⟩
  · exact Ch.textPt O.ch

theorem underP : Tryz.prog.underlying 73 = some (.pointer 78) := by kernel_rfl
theorem infoP : (Tryz.prog.info? 78).map (fun i => i.size) = some 7 := by kernel_rfl
theorem ptr_neq_same (a : Nat) (w : World) : (binOp .neq 73 (.pointer (some ⟨a, 0, none⟩)) (.pointer (some ⟨a, 0, none⟩))).run Tryz.prog w = .ok (.bool false) w := by
  obtain ⟨i, hi, hs⟩ := Option.map_eq_some_iff.1 infoP
  have h : ∀ d : Nat, (Op.equalIn (d + 1) 73 (.pointer (some ⟨a, 0, none⟩)) (.pointer (some ⟨a, 0, none⟩))).run Tryz.prog w = .ok true w := fun d => by
    simp [Op.equalIn, run_underlying underP, sizeOf, typeInfo, hi, hs, run_sameAddr_same]
  simp only [binOp]
  simp [Op.equal, Op.maxDepth, h 9999]
theorem sameAddr_far {w : World} {a b : Nat} {u v : Value} (hne : ¬ a = b) (ha : w.cell? ⟨a, 0, none⟩ = some u) (hb : w.cell? ⟨b, 0, none⟩ = some v) (za : ∀ j, w.frozen? ⟨a, j, none⟩ = false) (zb : ∀ j, w.frozen? ⟨b, j, none⟩ = false) :
    (sameAddr ⟨a, 0, none⟩ ⟨b, 0, none⟩).run Tryz.prog w = .ok false w := by
  obtain ⟨ca, ta, ra, ea⟩ : ∃ c t r, w.heap[a]? = some (.cells c t r) := by
    unfold World.cell? at ha
    simp only at ha
    split at ha
    · exact ⟨_, _, _, by assumption⟩
    · cases ha
  obtain ⟨cb, tb, rb, eb⟩ : ∃ c t r, w.heap[b]? = some (.cells c t r) := by
    unfold World.cell? at hb
    simp only at hb
    split at hb
    · exact ⟨_, _, _, by assumption⟩
    · cases hb
  have sa : w.shape? a = some (ta, ca.size) := by simp [World.shape?, ea]
  have sb : w.shape? b = some (tb, cb.size) := by simp [World.shape?, eb]
  simp [sameAddr, hne, za, zb, noView, viewAt, sa, sb, mayBeOne, stringish]
theorem ptr_neq_far (a b : Nat) (w : World) {u v : Value} (hne : ¬ a = b) (ha : w.cell? ⟨a, 0, none⟩ = some u) (hb : w.cell? ⟨b, 0, none⟩ = some v) (za : ∀ j, w.frozen? ⟨a, j, none⟩ = false) (zb : ∀ j, w.frozen? ⟨b, j, none⟩ = false) :
    (binOp .neq 73 (.pointer (some ⟨a, 0, none⟩)) (.pointer (some ⟨b, 0, none⟩))).run Tryz.prog w = .ok (.bool true) w := by
  obtain ⟨i, hi, hs⟩ := Option.map_eq_some_iff.1 infoP
  have h : ∀ d : Nat, (Op.equalIn (d + 1) 73 (.pointer (some ⟨a, 0, none⟩)) (.pointer (some ⟨b, 0, none⟩))).run Tryz.prog w = .ok false w := fun d => by
    simp [Op.equalIn, run_underlying underP, sizeOf, typeInfo, hi, hs, sameAddr_far hne ha hb za zb]
  simp only [binOp]
  simp [Op.equal, Op.maxDepth, h 9999]
theorem Pt.far {w : World} {a b : Nat} (h : Pt w a) (k : Pt w b) (hne : ¬ a = b) : (binOp .neq 73 (.pointer (some ⟨a, 0, none⟩)) (.pointer (some ⟨b, 0, none⟩))).run Tryz.prog w = .ok (.bool true) w := by
  obtain ⟨_, ⟨u, h2⟩, h3⟩ := h
  obtain ⟨_, ⟨v, k2⟩, k3⟩ := k
  exact ptr_neq_far a b w hne h2 k2 h3 k3
theorem shut_small {n : Nat} {top : List Nd} {st : List Fr} (h : (Rd.mk false top st).Few n) (hn : n ≤ 99999) : (∀ x ∈ (shut top st).st, x.kids.length ≤ 100000) ∧ (shut top st).top.length ≤ 100000 := by
  obtain ⟨h1, h2, h3⟩ : (shut top st).Few (n + 1) := shut_few h.1 h.2.1 h.2.2
  exact ⟨fun x hx => by have := (h3 x hx).1; omega, by omega⟩

set_option maxRecDepth 100000 in
theorem begin_bad (base : Nat) (S : Nat → Prop) (rb tb nb : Nat) (t : Tk) (f : Value) (w : World) (hb : base ≤ w.heap.size) (B : RdB w rb tb nb f) (k1 : ¬ t.k = 1) (h : t.k = 4 → nb = tb) :
    Calls Tryz.prog 46 #[.pointer (some ⟨rb, 0, none⟩), tokv t] w (RdRes base S rb tb (.error 5) w) := by
  have q1 := B.c1
  have q0 := B.c0
  have d1 : ((t.k : Int) == 1) = false := beq_eq_false_iff_ne.2 (by omega)
  have B1 := balloc (Below.refl w.heap.size w) (.cells #[.int .i64 t.k, .int .i64 t.a, .int .i64 t.n, .string ⟨t.s.toArray⟩] 72)
  have bw := B1.mono hb
  replace q1 := (B1.cell (p := ⟨rb, 1, none⟩) B.lt).trans q1
  replace q0 := (B1.cell (p := ⟨rb, 0, none⟩) B.lt).trans q0
  unfold tokv
  by_cases k4 : t.k = 4
  · have d4 : ((t.k : Int) == 4) = true := beq_iff_eq.2 (by omega)
    obtain rfl := h k4
    have pn := fun w => ptr_neq_same nb w
    clear B h k1 k4
    go_enter Tryz.func46, Tryz.ntmps46
    go_upto_region 5 with fail
    go_quiet (fail)
    go_wp2_with fail
    refine bodyPost_ret (v := .int .i64 5) (by simp [results, Tryz.results46, go_sem]) rfl ⟨rfl, bdrewN B1 _⟩
  · have d4 : ((t.k : Int) == 4) = false := beq_eq_false_iff_ne.2 (by omega)
    clear B h k1 k4 q1 q0
    go_enter Tryz.func46, Tryz.ntmps46
    go_upto_region 5 with fail
    go_quiet (fail)
    go_wp2_with fail
    refine bodyPost_ret (v := .int .i64 5) (by simp [results, Tryz.results46, go_sem]) rfl ⟨rfl, bdrewN B1 _⟩

set_option maxRecDepth 100000 in
theorem begin_end (base : Nat) (S : Nat → Prop) (rb tb nb : Nat) (t : Tk) (f : Value) (w : World) (x : Except Nat Rd) (hb : base ≤ w.heap.size) (B : RdB w rb tb nb f) (k4 : t.k = 4) (h : ¬ nb = tb) (pn : Pt w nb) (pt : Pt w tb)
    (ce : ∀ W, Below w.heap.size w W → Calls Tryz.prog 69 #[.pointer (some ⟨rb, 0, none⟩)] W (fun e w' => e = .returned (.tuple #[]) ∧ RdRes base S rb tb x W (.returned (.int .i64 0)) w')) :
    Calls Tryz.prog 46 #[.pointer (some ⟨rb, 0, none⟩), tokv t] w (RdRes base S rb tb x w) := by
  have q1 := B.c1
  have q0 := B.c0
  have B1 := balloc (Below.refl w.heap.size w) (.cells #[.int .i64 t.k, .int .i64 t.a, .int .i64 t.n, .string ⟨t.s.toArray⟩] 72)
  have bw := B1.mono hb
  replace q1 := (B1.cell (p := ⟨rb, 1, none⟩) B.lt).trans q1
  replace q0 := (B1.cell (p := ⟨rb, 0, none⟩) B.lt).trans q0
  unfold tokv
  have d4 : ((t.k : Int) == 4) = true := beq_iff_eq.2 (by omega)
  have d1 : ((t.k : Int) == 1) = false := beq_eq_false_iff_ne.2 (by omega)
  have pn := fun n => ((pn.kept B1).kept (bdrewN (Below.refl _ _) n)).far ((pt.kept B1).kept (bdrewN (Below.refl _ _) n)) h
  clear B k4 pt
  go_enter Tryz.func46, Tryz.ntmps46
  go_upto_region 5 with fail
  go_quiet (fail)
  go_wp2_with fail
  refine (ce _ (bdrewN B1 _)).mono ?_
  rintro e w' ⟨rfl, R⟩
  go_wp2_with fail
  refine bodyPost_ret (v := .int .i64 0) (by simp [results, Tryz.results46, go_sem]) rfl (R.ahead (bdrewN B1 _) hb)

theorem begin_any (base : Nat) (S : Nat → Prop) (rb tb : Nat) (t : Tk) (top : List Nd) (st : List Fr) (w : World) (M : RdM w base S rb tb ⟨false, top, st⟩) (n : Nat) (hF : (Rd.mk false top st).Few n) (hn : n ≤ 99999) :
    Calls Tryz.prog 46 #[.pointer (some ⟨rb, 0, none⟩), tokv t] w (RdRes base S rb tb (take ⟨false, top, st⟩ t) w) := by
  by_cases k1 : t.k = 1
  · exact begin_name base S rb tb t top st w k1 M (by have := hF.2.1; simp only at this; omega)
  obtain ⟨nb, B, hnt, pn, pt⟩ := M.text
  have hb := M.base
  simp only at hnt
  by_cases hc : t.k = 4 ∧ st ≠ []
  · have tk : take ⟨false, top, st⟩ t = .ok (shut top st) := by simp only [take]; rw [if_neg k1, if_pos hc]
    rw [tk]
    obtain ⟨k4, hs⟩ := hc
    cases st with
    | nil => exact absurd rfl hs
    | cons f st =>
      have q := shut_small hF hn
      exact begin_end base S rb tb nb t _ w _ hb B k4 (fun e => hs (hnt.1 e)) pn pt (fun W hW => end_any base S rb tb false f top st W (M.kept hW) q.1 q.2)
  · have tk : take ⟨false, top, st⟩ t = .error 5 := by simp only [take]; rw [if_neg k1, if_neg hc]
    rw [tk]
    exact begin_bad base S rb tb nb t _ w hb B k1 (fun k4 => hnt.2 (Classical.byContradiction fun q => hc ⟨k4, q⟩))

set_option maxRecDepth 100000 in
theorem goOn_any (base : Nat) (S : Nat → Prop) (rb tb : Nat) (t : Tk) (top : List Nd) (f : Fr) (st : List Fr) (w : World) (M : RdM w base S rb tb ⟨true, top, f :: st⟩) (n : Nat) (hF : (Rd.mk true top (f :: st)).Few n) (hn : n ≤ 99999) :
    Calls Tryz.prog 68 #[.pointer (some ⟨rb, 0, none⟩), tokv t] w (RdRes base S rb tb (take ⟨true, top, f :: st⟩ t) w) := by
  have hb := M.base
  have q := shut_small (st := f :: st) (top := top) (n := n) hF hn
  have ce := fun W (hW : Below w.heap.size w W) => end_any base S rb tb true f top st W (M.kept hW) q.1 q.2
  have co := fun W (hW : Below w.heap.size w W) => open_any base S rb tb f top st W (M.kept hW) (by have := hF.2.1; simp at this; omega)
  have ca := fun W (hW : Below w.heap.size w W) => word_any base S rb tb f top st t W (M.kept hW) (hF.2.2 f (by simp)).2
  have B1 := balloc (Below.refl w.heap.size w) (.cells #[.int .i64 t.k, .int .i64 t.a, .int .i64 t.n, .string ⟨t.s.toArray⟩] 72)
  have bw := B1.mono hb
  by_cases k5 : t.k = 5
  · have tk : take ⟨true, top, f :: st⟩ t = .ok (shut top (f :: st)) := by simp only [take]; rw [if_pos k5]
    rw [tk]
    have d5 : ((t.k : Int) == 5) = true := beq_iff_eq.2 (by omega)
    clear tk M hF co ca q k5
    unfold tokv
    go_enter Tryz.func68, Tryz.ntmps68
    go_wp2_with fail
    refine (ce _ B1).mono ?_
    rintro e w' ⟨rfl, R⟩
    go_wp2_with fail
    refine bodyPost_ret (v := .int .i64 0) (by simp [results, Tryz.results68, go_sem]) rfl (R.ahead B1 hb)
  have d5 : ((t.k : Int) == 5) = false := beq_eq_false_iff_ne.2 (by omega)
  by_cases k3 : t.k = 3
  · have tk : take ⟨true, top, f :: st⟩ t = (if 6 < st.length + 1 then .error 7 else .ok ⟨false, top, { f with block := true } :: st⟩) := by simp only [take]; rw [if_neg k5, if_pos k3]
    rw [tk]
    have d3 : ((t.k : Int) == 3) = true := beq_iff_eq.2 (by omega)
    obtain ⟨X, hX⟩ : ∃ X : Except Nat Rd, (if 6 < st.length + 1 then .error 7 else .ok ⟨false, top, { f with block := true } :: st⟩) = X := ⟨_, rfl⟩
    rw [hX] at co ⊢
    clear tk M hF ce ca q k3 k5 hX
    have co := Lib.hid co
    unfold tokv
    go_enter Tryz.func68, Tryz.ntmps68
    go_wp2_with fail
    refine (co.out _ B1).mono ?_
    rintro e w' R
    obtain ⟨c, rfl⟩ := R.form
    have R' := Lib.hid (R.ahead B1 hb)
    clear R co
    go_wp2_with fail
    refine bodyPost_ret (v := .int .i64 c) (by simp [results, Tryz.results68, go_sem]) rfl R'.out
  have d3 : ((t.k : Int) == 3) = false := beq_eq_false_iff_ne.2 (by omega)
  by_cases k4 : t.k = 4
  · have tk : take ⟨true, top, f :: st⟩ t = .error 5 := by simp only [take]; rw [if_neg k5, if_neg k3, if_pos k4]
    rw [tk]
    have d4 : ((t.k : Int) == 4) = true := beq_iff_eq.2 (by omega)
    clear tk M hF ce ca co q k3 k5 k4
    unfold tokv
    go_enter Tryz.func68, Tryz.ntmps68
    go_wp2_with fail
    refine bodyPost_ret (v := .int .i64 5) (by simp [results, Tryz.results68, go_sem]) rfl ⟨rfl, B1⟩
  have d4 : ((t.k : Int) == 4) = false := beq_eq_false_iff_ne.2 (by omega)
  have tk : take ⟨true, top, f :: st⟩ t = (if f.words.length = 8 then .error 6 else .ok ⟨true, top, { f with words := f.words ++ [wd t] } :: st⟩) := by simp only [take]; rw [if_neg k5, if_neg k3, if_neg k4]
  rw [tk]
  obtain ⟨X, hX⟩ : ∃ X : Except Nat Rd, (if f.words.length = 8 then .error 6 else .ok ⟨true, top, { f with words := f.words ++ [wd t] } :: st⟩) = X := ⟨_, rfl⟩
  rw [hX] at ca ⊢
  clear tk M hF ce co q k3 k5 k4 hX
  have ca := Lib.hid ca
  unfold tokv
  go_enter Tryz.func68, Tryz.ntmps68
  go_wp2_with fail
  refine (ca.out _ B1).mono ?_
  rintro e w' R
  obtain ⟨c, rfl⟩ := R.form
  have R' := Lib.hid (R.ahead B1 hb)
  clear R ca
  go_wp2_with fail
  refine bodyPost_ret (v := .int .i64 c) (by simp [results, Tryz.results68, go_sem]) rfl R'.out

/-- a new reader -/
theorem RdM.new {w w' : World} {base tb rb : Nat} (hb : base ≤ w.heap.size) (ht : w.heap.size ≤ tb) (hr : w.heap.size ≤ rb) (ne : tb ≠ rb) (h1 : ∃ T, w'.heap[tb]? = some (.cells #[.string ⟨#[]⟩, .int .i64 0, .slice none 0 0, .bool false, .slice none 0 0, .pointer none, .int .i64 0] T (0, 0)))
    (h2 : ∃ T, w'.heap[rb]? = some (.cells #[.pointer (some ⟨tb, 0, none⟩), .pointer (some ⟨tb, 0, none⟩), fnv false rb] T (0, 0))) : RdM w' base (fun _ => False) rb tb Ym.start := by
  obtain ⟨T, h1⟩ := h1
  obtain ⟨T2, h2⟩ := h2
  have bl := (Array.getElem?_eq_some_iff.1 h1).1
  have rl := (Array.getElem?_eq_some_iff.1 h2).1
  have I : ItB (fun _ => False) w' base 64 50 tb (tf []) (.slice none 0 0) (.slice none 0 0) (.pointer none) 0 := itb_new (s := []) (a := 0) (d := 0) h1
  refine ⟨tb, [tb], ⟨rl, ?_, ?_, ?_, fun j => ?_⟩, ⟨⟨rfl, _, _, I, rfl⟩, by simp, by simpa using fun e => ne e.symm, fun h => h, ⟨by omega, rl⟩, fun x hx => ?_, fun x h => h.elim⟩⟩
  · simp [World.cell?, h2]
  · simp [World.cell?, h2]
  · simp [World.cell?, h2, Ym.start]
  · simp [World.frozen?, h2]
  · simp at hx; subst hx; exact ⟨by omega, bl, fun h => h⟩

set_option maxRecDepth 100000 in
theorem newReader_any (base : Nat) (w : World) (hb : base ≤ w.heap.size) : Calls Tryz.prog 30 #[] w fun e w' => ∃ rb tb, e = .returned (.pointer (some ⟨rb, 0, none⟩)) ∧ Below w.heap.size w w' ∧ RdM w' base (fun _ => False) rb tb Ym.start := by
  go_enter Tryz.func30, Tryz.ntmps30
  go_wp2
  refine bodyPost_ret (v := .pointer (some ⟨w.heap.size + 1, 0, none⟩)) (by simp [results, Tryz.results30, go_sem]) rfl ⟨w.heap.size + 1, w.heap.size, rfl, ?_, ?_⟩
  · exact balloc (balloc (Below.refl _ _) _) _
  · refine RdM.new hb (Nat.le_refl _) (by omega) (by omega) ⟨78, ?_⟩ ⟨76, ?_⟩
    · exact Eq.trans (((balloc (Below.refl _ _) _).block w.heap.size (by simp))) (MapKept.heap_alloc w _).1
    · exact Eq.trans (congrArg _ (by simp)) (MapKept.heap_alloc _ _).1

end Go.Proofs.YtabhbcedldjjjaaGreatDoor.Yp
