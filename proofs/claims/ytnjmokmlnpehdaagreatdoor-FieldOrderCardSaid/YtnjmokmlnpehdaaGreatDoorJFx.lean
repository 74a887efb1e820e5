/- Texts that are joined: Yprf, Yparse, Ylive. -/
import Derived.Test.YtnjmokmlnpehdaaGreatDoorYprw
import Derived.Test.YtnjmokmlnpehdaaGreatDoorYpre
import Derived.Test.YtnjmokmlnpehdaaGreatDoorJFa
import Derived.LaidEql
import Derived.Test.YtnjmokmlnpehdaaGreatDoorJFb
import Derived.Deep.RegionWith
import Derived.Deep.DeepCutAuto
import Derived.OpenShut
namespace Go.Proofs.YtnjmokmlnpehdaaGreatDoor.Yp
set_option linter.unusedSimpArgs false
set_option linter.unusedVariables false
open Go.RowKit Go.Proofs.YtnjmokmlnpehdaaGreatDoor.Bn Go.Proofs.YtnjmokmlnpehdaaGreatDoor.Zm Go.Proofs.YtnjmokmlnpehdaaGreatDoor.Ym

set_option maxHeartbeats 8000000
attribute [local go_sem ↓] Go.wp_at_zero Go.wp_at_succ

theorem RdM.kept {w W : World} {base : Nat} {S : Nat → Prop} {rb tb : Nat} {r : Rd} (M : RdM w base S rb tb r) (h : Below w.heap.size w W) : RdM W base S rb tb r := by
  obtain ⟨nb, own, B, O⟩ := M
  obtain ⟨go, top, st⟩ := r
  exact ⟨nb, own, B.kept (gbelow h none) (by simp), O.kept (gbelow h none) (fun x q => by cases q) go⟩
theorem RdM.base {w : World} {base : Nat} {S : Nat → Prop} {rb tb : Nat} {r : Rd} (M : RdM w base S rb tb r) : base ≤ w.heap.size := by
  obtain ⟨nb, own, B, O⟩ := M
  have := O.rb_
  omega
theorem RdRes.ahead {w W w' : World} {base : Nat} {S : Nat → Prop} {rb tb : Nat} {x : Except Nat Rd} {e : Ending} (h : RdRes base S rb tb x W e w') (B : Below w.heap.size w W) (hb : base ≤ w.heap.size) : RdRes base S rb tb x w e w' := by
  cases x with
  | error c => exact ⟨h.1, bthen B h.2⟩
  | ok r =>
    obtain ⟨S', h1, h2, h3, h4⟩ := h
    exact ⟨S', h1, (B.mono hb).trans h2, h3, h4⟩
theorem RdRes.form {w w' : World} {base : Nat} {S : Nat → Prop} {rb tb : Nat} {x : Except Nat Rd} {e : Ending} (h : RdRes base S rb tb x w e w') : ∃ c : Int, e = .returned (.int .i64 c) := by
  cases x with
  | error c => exact ⟨_, h.1⟩
  | ok r =>
    obtain ⟨S', h1, _⟩ := h
    exact ⟨0, h1⟩
theorem RdRes.cell {W0 W w' : World} {base : Nat} {S : Nat → Prop} {rb tb : Nat} {x : Except Nat Rd} {e : Ending} {p : Addr} {v : Value} (h : RdRes base S rb tb x W e w') (B : Below W0.heap.size W0 W) (hp : p.block < W0.heap.size) (hv : W0.cell? p = some v) : ∀ c, x = .error c → w'.cell? p = some v := by
  rintro c rfl
  exact ((bthen B h.2).cell hp).trans hv
theorem RdRes.err {w W : World} {base : Nat} {S : Nat → Prop} {rb tb c : Nat} (B : Below w.heap.size w W) : RdRes base S rb tb (.error c) w (.returned (.int .i64 c)) W := ⟨rfl, B⟩

/-- a block that may be written, as two pointers to it are compared -/
def Pt (W : World) (b : Nat) : Prop := b < W.heap.size ∧ (∃ u, W.cell? ⟨b, 0, none⟩ = some u) ∧ ∀ j, W.frozen? ⟨b, j, none⟩ = false
theorem Pt.kept {w W : World} {b : Nat} (h : Pt w b) (B : Below w.heap.size w W) : Pt W b := by
  obtain ⟨h1, ⟨u, h2⟩, h3⟩ := h
  exact ⟨Nat.lt_of_lt_of_le h1 B.size, ⟨u, (B.cell (p := ⟨b, 0, none⟩) h1).trans h2⟩, fun j => (B.frozen (p := ⟨b, j, none⟩) h1).trans (h3 j)⟩
theorem Ch.textPt {S : Nat → Prop} {W : World} {base : Nat} {EW EN : TypeId} {tb : Nat} {top : List Nd} : ∀ {st : List Fr} {b : Nat} {own : List Nat}, Ch S W base EW EN tb top st b own → Pt W tb
  | [], b, own, h => by
    obtain ⟨e, vw, vk, I, _⟩ := h
    rw [← e]
    exact ⟨I.lt, ⟨_, I.c0⟩, I.z⟩
  | f :: st, b, own, h => by
    obtain ⟨vw, vk, b', own', _, hc, _⟩ := h
    exact Ch.textPt hc
/-- the text itself is open just if nothing else is -/
theorem RdM.text {w : World} {base : Nat} {S : Nat → Prop} {rb tb : Nat} {r : Rd} (M : RdM w base S rb tb r) : ∃ nb, RdB w rb tb nb (fnv r.go rb) ∧ (nb = tb ↔ r.st = []) ∧ Pt w nb ∧ Pt w tb := by
  obtain ⟨nb, own, B, O⟩ := M
  refine ⟨nb, B, ?_, ?_, ?_⟩
  · obtain ⟨go, top, st⟩ := r
    have C := O.ch
    have nd := O.nd
    cases st with
    | nil => exact ⟨fun _ => rfl, fun _ => C.1⟩
    | cons f st =>
      obtain ⟨vw, vk, b', own', I, hc, e⟩ := C
      refine ⟨fun q => ?_, fun q => by cases q⟩
      have := hc.text
      rw [e] at nd
      simp only [List.nodup_cons, List.mem_append, not_or] at nd
      exact absurd (q ▸ this) nd.1.2
  · obtain ⟨f, vw, vk, out, I, _⟩ := O.ch.now
    exact ⟨I.lt, ⟨_, I.c0⟩, I.z⟩
  · exact Ch.textPt O.ch

theorem underP : Tryz.prog.underlying 81 = some (.pointer 86) := by kernel_rfl
theorem infoP : (Tryz.prog.info? 86).map (fun i => i.size) = some 7 := by kernel_rfl
theorem ptr_neq_same (a : Nat) (w : World) : (binOp .neq 81 (.pointer (some ⟨a, 0, none⟩)) (.pointer (some ⟨a, 0, none⟩))).run Tryz.prog w = .ok (.bool false) w := by
  obtain ⟨i, hi, hs⟩ := Option.map_eq_some_iff.1 infoP
  have h : ∀ d : Nat, (Op.equalIn (d + 1) 81 (.pointer (some ⟨a, 0, none⟩)) (.pointer (some ⟨a, 0, none⟩))).run Tryz.prog w = .ok true w := fun d => by
    simp [Op.equalIn, run_underlying underP, sizeOf, typeInfo, hi, hs, run_sameAddr_same]
  simp only [binOp]
  simp [Op.equal, Op.maxDepth, h 9999]
theorem sameAddr_far {w : World} {a b : Nat} {u v : Value} (hne : ¬ a = b) (ha : w.cell? ⟨a, 0, none⟩ = some u) (hb : w.cell? ⟨b, 0, none⟩ = some v) (za : ∀ j, w.frozen? ⟨a, j, none⟩ = false) (zb : ∀ j, w.frozen? ⟨b, j, none⟩ = false) :
    (sameAddr ⟨a, 0, none⟩ ⟨b, 0, none⟩).run Tryz.prog w = .ok false w := by
  obtain ⟨ca, ta, ra, ea⟩ : ∃ c t r, w.heap[a]? = some (.cells c t r) := by
    unfold World.cell? at ha
    simp only at ha
    split at ha
    · exact ⟨_, _, _, by assumption⟩
    · cases ha
  obtain ⟨cb, tb, rb, eb⟩ : ∃ c t r, w.heap[b]? = some (.cells c t r) := by
    unfold World.cell? at hb
    simp only at hb
    split at hb
    · exact ⟨_, _, _, by assumption⟩
    · cases hb
  have sa : w.shape? a = some (ta, ca.size) := by simp [World.shape?, ea]
  have sb : w.shape? b = some (tb, cb.size) := by simp [World.shape?, eb]
  simp [sameAddr, hne, za, zb, noView, viewAt, sa, sb, mayBeOne, stringish]
theorem ptr_neq_far (a b : Nat) (w : World) {u v : Value} (hne : ¬ a = b) (ha : w.cell? ⟨a, 0, none⟩ = some u) (hb : w.cell? ⟨b, 0, none⟩ = some v) (za : ∀ j, w.frozen? ⟨a, j, none⟩ = false) (zb : ∀ j, w.frozen? ⟨b, j, none⟩ = false) :
    (binOp .neq 81 (.pointer (some ⟨a, 0, none⟩)) (.pointer (some ⟨b, 0, none⟩))).run Tryz.prog w = .ok (.bool true) w := by
  obtain ⟨i, hi, hs⟩ := Option.map_eq_some_iff.1 infoP
  have h : ∀ d : Nat, (Op.equalIn (d + 1) 81 (.pointer (some ⟨a, 0, none⟩)) (.pointer (some ⟨b, 0, none⟩))).run Tryz.prog w = .ok false w := fun d => by
    simp [Op.equalIn, run_underlying underP, sizeOf, typeInfo, hi, hs, sameAddr_far hne ha hb za zb]
  simp only [binOp]
  simp [Op.equal, Op.maxDepth, h 9999]
theorem Pt.far {w : World} {a b : Nat} (h : Pt w a) (k : Pt w b) (hne : ¬ a = b) : (binOp .neq 81 (.pointer (some ⟨a, 0, none⟩)) (.pointer (some ⟨b, 0, none⟩))).run Tryz.prog w = .ok (.bool true) w := by
  obtain ⟨_, ⟨u, h2⟩, h3⟩ := h
  obtain ⟨_, ⟨v, k2⟩, k3⟩ := k
  exact ptr_neq_far a b w hne h2 k2 h3 k3
theorem shut_small {n : Nat} {top : List Nd} {st : List Fr} (h : (Rd.mk false top st).Few n) (hn : n ≤ 99999) : (∀ x ∈ (shut top st).st, x.kids.length ≤ 100000) ∧ (shut top st).top.length ≤ 100000 := by
  obtain ⟨h1, h2, h3⟩ : (shut top st).Few (n + 1) := shut_few h.1 h.2.1 h.2.2
  exact ⟨fun x hx => by have := (h3 x hx).1; omega, by omega⟩

set_option maxRecDepth 100000 in
theorem begin_bad (base : Nat) (S : Nat → Prop) (rb tb nb : Nat) (t : Tk) (f : Value) (w : World) (hb : base ≤ w.heap.size) (B : RdB w rb tb nb f) (k1 : ¬ t.k = 1) (h : t.k = 4 → nb = tb) :
    Calls Tryz.prog 72 #[.pointer (some ⟨rb, 0, none⟩), tokv t] w (RdRes base S rb tb (.error 5) w) := by
  have q1 := B.c1
  have q0 := B.c0
  have d1 : ((t.k : Int) == 1) = false := beq_eq_false_iff_ne.2 (by omega)
  have B1 := balloc (Below.refl w.heap.size w) (.cells #[.int .i64 t.k, .int .i64 t.a, .int .i64 t.n, .string ⟨t.s.toArray⟩] 80)
  have bw := B1.mono hb
  replace q1 := (B1.cell (p := ⟨rb, 1, none⟩) B.lt).trans q1
  replace q0 := (B1.cell (p := ⟨rb, 0, none⟩) B.lt).trans q0
  unfold tokv
  by_cases k4 : t.k = 4
  · have d4 : ((t.k : Int) == 4) = true := beq_iff_eq.2 (by omega)
    obtain rfl := h k4
    have pn := fun w => ptr_neq_same nb w
    clear B h k1 k4
    go_enter Tryz.func72, Tryz.ntmps72
    go_upto_region 5 with fail
    go_quiet (fail)
    go_wp2_with fail
    refine bodyPost_ret (v := .int .i64 5) (by simp [results, Tryz.results72, go_sem]) rfl ⟨rfl, bdrewN B1 _⟩
  · have d4 : ((t.k : Int) == 4) = false := beq_eq_false_iff_ne.2 (by omega)
    clear B h k1 k4 q1 q0
    go_enter Tryz.func72, Tryz.ntmps72
    go_upto_region 5 with fail
    go_quiet (fail)
    go_wp2_with fail
    refine bodyPost_ret (v := .int .i64 5) (by simp [results, Tryz.results72, go_sem]) rfl ⟨rfl, bdrewN B1 _⟩

set_option maxRecDepth 100000 in
theorem begin_end (base : Nat) (S : Nat → Prop) (rb tb nb : Nat) (t : Tk) (f : Value) (w : World) (x : Except Nat Rd) (hb : base ≤ w.heap.size) (B : RdB w rb tb nb f) (k4 : t.k = 4) (h : ¬ nb = tb) (pn : Pt w nb) (pt : Pt w tb)
    (ce : ∀ W, Below w.heap.size w W → Calls Tryz.prog 89 #[.pointer (some ⟨rb, 0, none⟩)] W (fun e w' => e = .returned (.tuple #[]) ∧ RdRes base S rb tb x W (.returned (.int .i64 0)) w')) :
    Calls Tryz.prog 72 #[.pointer (some ⟨rb, 0, none⟩), tokv t] w (RdRes base S rb tb x w) := by
  have q1 := B.c1
  have q0 := B.c0
  have B1 := balloc (Below.refl w.heap.size w) (.cells #[.int .i64 t.k, .int .i64 t.a, .int .i64 t.n, .string ⟨t.s.toArray⟩] 80)
  have bw := B1.mono hb
  replace q1 := (B1.cell (p := ⟨rb, 1, none⟩) B.lt).trans q1
  replace q0 := (B1.cell (p := ⟨rb, 0, none⟩) B.lt).trans q0
  unfold tokv
  have d4 : ((t.k : Int) == 4) = true := beq_iff_eq.2 (by omega)
  have d1 : ((t.k : Int) == 1) = false := beq_eq_false_iff_ne.2 (by omega)
  have pn := fun n => ((pn.kept B1).kept (bdrewN (Below.refl _ _) n)).far ((pt.kept B1).kept (bdrewN (Below.refl _ _) n)) h
  clear B k4 pt
  go_enter Tryz.func72, Tryz.ntmps72
  go_upto_region 5 with fail
  go_quiet (fail)
  go_wp2_with fail
  refine (ce _ (bdrewN B1 _)).mono ?_
  rintro e w' ⟨rfl, R⟩
  go_wp2_with fail
  refine bodyPost_ret (v := .int .i64 0) (by simp [results, Tryz.results72, go_sem]) rfl (R.ahead (bdrewN B1 _) hb)

theorem begin_any (base : Nat) (S : Nat → Prop) (rb tb : Nat) (t : Tk) (top : List Nd) (st : List Fr) (w : World) (M : RdM w base S rb tb ⟨false, top, st⟩) (n : Nat) (hF : (Rd.mk false top st).Few n) (hn : n ≤ 99999) :
    Calls Tryz.prog 72 #[.pointer (some ⟨rb, 0, none⟩), tokv t] w (RdRes base S rb tb (take ⟨false, top, st⟩ t) w) := by
  by_cases k1 : t.k = 1
  · exact begin_name base S rb tb t top st w k1 M (by have := hF.2.1; simp only at this; omega)
  obtain ⟨nb, B, hnt, pn, pt⟩ := M.text
  have hb := M.base
  simp only at hnt
  by_cases hc : t.k = 4 ∧ st ≠ []
  · have tk : take ⟨false, top, st⟩ t = .ok (shut top st) := by simp only [take]; rw [if_neg k1, if_pos hc]
    rw [tk]
    obtain ⟨k4, hs⟩ := hc
    cases st with
    | nil => exact absurd rfl hs
    | cons f st =>
      have q := shut_small hF hn
      exact begin_end base S rb tb nb t _ w _ hb B k4 (fun e => hs (hnt.1 e)) pn pt (fun W hW => end_any base S rb tb false f top st W (M.kept hW) q.1 q.2)
  · have tk : take ⟨false, top, st⟩ t = .error 5 := by simp only [take]; rw [if_neg k1, if_neg hc]
    rw [tk]
    exact begin_bad base S rb tb nb t _ w hb B k1 (fun k4 => hnt.2 (Classical.byContradiction fun q => hc ⟨k4, q⟩))

set_option maxRecDepth 100000 in
theorem goOn_any (base : Nat) (S : Nat → Prop) (rb tb : Nat) (t : Tk) (top : List Nd) (f : Fr) (st : List Fr) (w : World) (M : RdM w base S rb tb ⟨true, top, f :: st⟩) (n : Nat) (hF : (Rd.mk true top (f :: st)).Few n) (hn : n ≤ 99999) :
    Calls Tryz.prog 88 #[.pointer (some ⟨rb, 0, none⟩), tokv t] w (RdRes base S rb tb (take ⟨true, top, f :: st⟩ t) w) := by
  have hb := M.base
  have q := shut_small (st := f :: st) (top := top) (n := n) hF hn
  have ce := fun W (hW : Below w.heap.size w W) => end_any base S rb tb true f top st W (M.kept hW) q.1 q.2
  have co := fun W (hW : Below w.heap.size w W) => open_any base S rb tb f top st W (M.kept hW) (by have := hF.2.1; simp at this; omega)
  have ca := fun W (hW : Below w.heap.size w W) => word_any base S rb tb f top st t W (M.kept hW) (hF.2.2 f (by simp)).2
  have B1 := balloc (Below.refl w.heap.size w) (.cells #[.int .i64 t.k, .int .i64 t.a, .int .i64 t.n, .string ⟨t.s.toArray⟩] 80)
  have bw := B1.mono hb
  by_cases k5 : t.k = 5
  · have tk : take ⟨true, top, f :: st⟩ t = .ok (shut top (f :: st)) := by simp only [take]; rw [if_pos k5]
    rw [tk]
    have d5 : ((t.k : Int) == 5) = true := beq_iff_eq.2 (by omega)
    clear tk M hF co ca q k5
    unfold tokv
    go_enter Tryz.func88, Tryz.ntmps88
    go_wp2_with fail
    refine (ce _ B1).mono ?_
    rintro e w' ⟨rfl, R⟩
    go_wp2_with fail
    refine bodyPost_ret (v := .int .i64 0) (by simp [results, Tryz.results88, go_sem]) rfl (R.ahead B1 hb)
  have d5 : ((t.k : Int) == 5) = false := beq_eq_false_iff_ne.2 (by omega)
  by_cases k3 : t.k = 3
  · have tk : take ⟨true, top, f :: st⟩ t = (if 6 < st.length + 1 then .error 7 else .ok ⟨false, top, { f with block := true } :: st⟩) := by simp only [take]; rw [if_neg k5, if_pos k3]
    rw [tk]
    have d3 : ((t.k : Int) == 3) = true := beq_iff_eq.2 (by omega)
    obtain ⟨X, hX⟩ : ∃ X : Except Nat Rd, (if 6 < st.length + 1 then .error 7 else .ok ⟨false, top, { f with block := true } :: st⟩) = X := ⟨_, rfl⟩
    rw [hX] at co ⊢
    clear tk M hF ce ca q k3 k5 hX
    have co := Lib.hid co
    unfold tokv
    go_enter Tryz.func88, Tryz.ntmps88
    go_wp2_with fail
    refine (co.out _ B1).mono ?_
    rintro e w' R
    obtain ⟨c, rfl⟩ := R.form
    have R' := Lib.hid (R.ahead B1 hb)
    clear R co
    go_wp2_with fail
    refine bodyPost_ret (v := .int .i64 c) (by simp [results, Tryz.results88, go_sem]) rfl R'.out
  have d3 : ((t.k : Int) == 3) = false := beq_eq_false_iff_ne.2 (by omega)
  by_cases k4 : t.k = 4
  · have tk : take ⟨true, top, f :: st⟩ t = .error 5 := by simp only [take]; rw [if_neg k5, if_neg k3, if_pos k4]
    rw [tk]
    have d4 : ((t.k : Int) == 4) = true := beq_iff_eq.2 (by omega)
    clear tk M hF ce ca co q k3 k5 k4
    unfold tokv
    go_enter Tryz.func88, Tryz.ntmps88
    go_wp2_with fail
    refine bodyPost_ret (v := .int .i64 5) (by simp [results, Tryz.results88, go_sem]) rfl ⟨rfl, B1⟩
  have d4 : ((t.k : Int) == 4) = false := beq_eq_false_iff_ne.2 (by omega)
  have tk : take ⟨true, top, f :: st⟩ t = (if f.words.length = 8 then .error 6 else .ok ⟨true, top, { f with words := f.words ++ [wd t] } :: st⟩) := by simp only [take]; rw [if_neg k5, if_neg k3, if_neg k4]
  rw [tk]
  obtain ⟨X, hX⟩ : ∃ X : Except Nat Rd, (if f.words.length = 8 then .error 6 else .ok ⟨true, top, { f with words := f.words ++ [wd t] } :: st⟩) = X := ⟨_, rfl⟩
  rw [hX] at ca ⊢
  clear tk M hF ce co q k3 k5 k4 hX
  have ca := Lib.hid ca
  unfold tokv
  go_enter Tryz.func88, Tryz.ntmps88
  go_wp2_with fail
  refine (ca.out _ B1).mono ?_
  rintro e w' R
  obtain ⟨c, rfl⟩ := R.form
  have R' := Lib.hid (R.ahead B1 hb)
  clear R ca
  go_wp2_with fail
  refine bodyPost_ret (v := .int .i64 c) (by simp [results, Tryz.results88, go_sem]) rfl R'.out

/-- a new reader -/
theorem RdM.new {w w' : World} {base tb rb : Nat} (hb : base ≤ w.heap.size) (ht : w.heap.size ≤ tb) (hr : w.heap.size ≤ rb) (ne : tb ≠ rb) (h1 : ∃ T, w'.heap[tb]? = some (.cells #[.string ⟨#[]⟩, .int .i64 0, .slice none 0 0, .bool false, .slice none 0 0, .pointer none, .int .i64 0] T (0, 0)))
    (h2 : ∃ T, w'.heap[rb]? = some (.cells #[.pointer (some ⟨tb, 0, none⟩), .pointer (some ⟨tb, 0, none⟩), fnv false rb] T (0, 0))) : RdM w' base (fun _ => False) rb tb Ym.start := by
  obtain ⟨T, h1⟩ := h1
  obtain ⟨T2, h2⟩ := h2
  have bl := (Array.getElem?_eq_some_iff.1 h1).1
  have rl := (Array.getElem?_eq_some_iff.1 h2).1
  have I : ItB (fun _ => False) w' base 45 25 tb (tf []) (.slice none 0 0) (.slice none 0 0) (.pointer none) 0 := itb_new (s := []) (a := 0) (d := 0) h1
  refine ⟨tb, [tb], ⟨rl, ?_, ?_, ?_, fun j => ?_⟩, ⟨⟨rfl, _, _, I, rfl⟩, by simp, by simpa using fun e => ne e.symm, fun h => h, ⟨by omega, rl⟩, fun x hx => ?_, fun x h => h.elim⟩⟩
  · simp [World.cell?, h2]
  · simp [World.cell?, h2]
  · simp [World.cell?, h2, Ym.start]
  · simp [World.frozen?, h2]
  · simp at hx; subst hx; exact ⟨by omega, bl, fun h => h⟩

set_option maxRecDepth 100000 in
theorem newReader_any (base : Nat) (w : World) (hb : base ≤ w.heap.size) : Calls Tryz.prog 52 #[] w fun e w' => ∃ rb tb, e = .returned (.pointer (some ⟨rb, 0, none⟩)) ∧ Below w.heap.size w w' ∧ RdM w' base (fun _ => False) rb tb Ym.start := by
  go_enter Tryz.func52, Tryz.ntmps52
  go_wp2
  refine bodyPost_ret (v := .pointer (some ⟨w.heap.size + 1, 0, none⟩)) (by simp [results, Tryz.results52, go_sem]) rfl ⟨w.heap.size + 1, w.heap.size, rfl, ?_, ?_⟩
  · exact balloc (balloc (Below.refl _ _) _) _
  · refine RdM.new hb (Nat.le_refl _) (by omega) (by omega) ⟨86, ?_⟩ ⟨84, ?_⟩
    · exact Eq.trans (((balloc (Below.refl _ _) _).block w.heap.size (by simp))) (MapKept.heap_alloc w _).1
    · exact Eq.trans (congrArg _ (by simp)) (MapKept.heap_alloc _ _).1

end Go.Proofs.YtnjmokmlnpehdaaGreatDoor.Yp

namespace Go.Proofs.YtnjmokmlnpehdaaGreatDoor.Yp
set_option linter.unusedSimpArgs false
set_option linter.unusedVariables false
open Go.RowKit Go.Proofs.YtnjmokmlnpehdaaGreatDoor.Bn Go.Proofs.YtnjmokmlnpehdaaGreatDoor.Zm Go.Proofs.YtnjmokmlnpehdaaGreatDoor.Zr Go.Proofs.YtnjmokmlnpehdaaGreatDoor.Zp Go.Proofs.YtnjmokmlnpehdaaGreatDoor.Zk Go.Proofs.YtnjmokmlnpehdaaGreatDoor.Ym

set_option maxHeartbeats 4000000

/-- what Parse tells of a text -/
def parseR (s : ByteArray) : Except (Nat × Nat) (List Nd) := if 65536 < s.size then .error (6, 0) else parse (by_ s)
/-- .. in memory: all that is told lies in blocks that the call made -/
def ParRes (R : Except (Nat × Nat) (List Nd)) (w : World) (e : Ending) (w' : World) : Prop :=
  match R with
  | .ok l => ∃ (v : Value) (S : Nat → Prop), e = .returned (.tuple #[v, .int .i64 0, .int .i64 0]) ∧ Below w.heap.size w w' ∧ NdsV S w' v l ∧ ∀ b, S b → w.heap.size ≤ b ∧ b < w'.heap.size
  | .error (er, q) => e = .returned (.tuple #[.slice none 0 0, .int .i64 (q : Nat), .int .i64 (er : Nat)]) ∧ Below w.heap.size w w'

theorem take_err {r : Rd} {t : Tk} {c : Nat} (h : take r t = .error c) : c = 5 ∨ c = 6 ∨ c = 7 := by
  obtain ⟨go, top, st⟩ := r
  cases go with
  | false =>
    simp only [take] at h
    split at h
    · cases h
    · split at h
      · cases h
      · injection h with h; omega
  | true =>
    cases st with
    | nil => simp only [take] at h; injection h with h; omega
    | cons f st =>
      simp only [take] at h
      split at h
      · cases h
      · split at h
        · split at h
          · injection h with h; omega
          · cases h
        · split at h
          · injection h with h; omega
          · split at h
            · injection h with h; omega
            · cases h

theorem cut_er {s : ByteArray} {er q : Nat} (h : cutR s = .error (er, q)) : er = 5 ∨ er = 6 := by
  unfold cutR at h
  split at h
  · injection h with h; injection h with h _; exact .inr h.symm
  · obtain ⟨_, _, _, he, _⟩ := cut_ahead _ _ _ _ _ _ (Nat.le_refl _) h
    exact he
theorem cutR_ok {s : ByteArray} {a : List Tk} (h : cutR s = .ok a) : ¬ 65536 < s.size ∧ cut (by_ s) 0 0 = .ok a := by
  rw [cutR] at h
  split at h
  · cases h
  · exact ⟨by assumption, h⟩
theorem parseR_cut {s : ByteArray} {x : Nat × Nat} (h : cutR s = .error x) : parseR s = .error x := by
  rw [cutR] at h
  rw [parseR]
  split
  · rename_i hs; rw [if_pos hs] at h; cases h; rfl
  · rename_i hs; rw [if_neg hs] at h; rw [parse, h]
theorem parseR_run {s : ByteArray} {a : List Tk} (h : cutR s = .ok a) : parseR s = match run a Ym.start with | .error x => .error x | .ok r => if r.st = [] then .ok r.top else .error (5, s.size) := by
  obtain ⟨h1, h2⟩ := cutR_ok h
  rw [parseR, if_neg h1, parse, h2]
  simp only [by_len]
  cases run a Ym.start <;> rfl

/-- the next token is taken, whatever may stand there -/
theorem take_any (base : Nat) (S : Nat → Prop) (rb tb : Nat) (r : Rd) (t : Tk) (w : World) (M : RdM w base S rb tb r) (hO : r.Ok) (n : Nat) (hF : r.Few n) (hn : n ≤ 99999) :
    Calls Tryz.prog (if r.go then 88 else 72) #[.pointer (some ⟨rb, 0, none⟩), tokv t] w (RdRes base S rb tb (take r t) w) := by
  obtain ⟨go, top, st⟩ := r
  cases go with
  | false => exact begin_any base S rb tb t top st w M n hF hn
  | true =>
    cases st with
    | nil => exact absurd hO (by simp [Rd.Ok])
    | cons f st => exact goOn_any base S rb tb t top f st w M n hF hn

/-- what stands in the text, once it is read -/
theorem RdM.kids {w : World} {base : Nat} {S : Nat → Prop} {rb tb : Nat} {r : Rd} (M : RdM w base S rb tb r) (h : r.st = []) : ∃ (v : Value) (S2 : Nat → Prop), (∃ p c, v = .slice p r.top.length c) ∧ w.cell? ⟨tb, 4, none⟩ = some v ∧ NdsV S2 w v r.top ∧ ∀ b, S2 b → base ≤ b ∧ b < w.heap.size := by
  obtain ⟨nb, own, B, O⟩ := M
  obtain ⟨go, top, st⟩ := r
  simp only at h
  subst h
  obtain ⟨e, vw, vk, I, e2⟩ := O.ch
  obtain ⟨xs, k1, k2⟩ := I.kk
  rw [e] at I
  refine ⟨vk, fun y => S y ∨ vk.ownBlock = some y, row_form k1, I.c4, row_kids k1 (k2.mono (fun y hy => .inl hy)) (fun y hy => .inr hy), ?_⟩
  rintro y (hy | hy)
  · exact O.sb y hy
  · exact row_in k1 hy

set_option maxRecDepth 100000 in
theorem Parse_any (s : ByteArray) (w : World) (R : Except (Nat × Nat) (List Nd)) (hm : s.size ≤ maxLen) (hR : Hid (parseR s = R)) :
    Calls Tryz.prog 26 #[.string s] w (ParRes R w) := by
  obtain ⟨C, hC⟩ : ∃ C, cutR s = C := ⟨_, rfl⟩
  have cc := fun w => Cut_any s w C hm (Lib.hid hC)
  cases C with
  | error x =>
    obtain ⟨er, q⟩ := x
    have Y : Hid (R = .error (er, q)) := Lib.hid (by rw [← hR.out, parseR_cut hC])
    have d3 : ((er : Int) != 0) = true := by rcases cut_er hC with rfl | rfl <;> rfl
    clear hC hR
    go_enter Tryz.func26, Tryz.ntmps26
    go_wp2_with fail
    refine (cc _).mono ?_
    rintro e w1 ⟨rfl, hb⟩
    clear cc
    go_wp2_with fail
    refine bodyPost_ret (v := .tuple #[.slice none 0 0, .int .i64 (q : Nat), .int .i64 (er : Nat)]) (by simp [results, Tryz.results26, go_sem]) rfl ?_
    rw [Y.out]; exact ⟨rfl, hb⟩
  | ok a =>
    have HR : Hid ((match run a Ym.start with | .error x => .error x | .ok r => if r.st = [] then .ok r.top else .error (5, s.size)) = R) := Lib.hid (by rw [← hR.out, parseR_run hC])
    obtain ⟨hs, hcut⟩ := cutR_ok hC
    have hal : a.length ≤ 8192 := by
      have := cut_tokens _ _ _ _ _ (Nat.le_refl _) hcut
      omega
    clear hC hR hcut
    go_enter Tryz.func26, Tryz.ntmps26
    go_wp2_with fail
    refine (cc _).mono ?_
    rintro e w1 ⟨v, rfl, hO⟩
    have T := TokAt.of_own hO
    have hB1 := hO.below
    clear cc hO
    go_wp2_with fail
    refine (newReader_any w1.heap.size w1 (Nat.le_refl _)).mono ?_
    rintro e w2 ⟨rb, tb, rfl, hb2, M⟩
    obtain ⟨ptr, cap, rfl, hT⟩ := T
    go_wp2_with fail
    go_loopw [25] (fun I wr => ∃ (k : Nat) (r : Rd) (S : Nat → Prop), k ≤ a.length ∧ I = .int .i64 k ∧ Hid (run (a.take k) Ym.start = .ok r) ∧ r.Few k ∧ RdM wr w1.heap.size S rb tb r ∧ Below w1.heap.size w1 wr) (fun I _ => a.length - (intOf I).toNat)
    case atStart => exact ⟨0, Ym.start, _, by omega, rfl, Lib.hid (by simp [run]), start_few, M, hb2⟩
    case round =>
      clear M hb2
      obtain ⟨k, r, S, hk, rfl, HK, hF, M, hB⟩ := hrel
      by_cases hlt : k < a.length
      · obtain ⟨g, o, rfl, hg, hc⟩ := hT.resolve_left (by omega)
        obtain ⟨c0, c1, c2, c3⟩ := hc k hlt
        have hgz : (a.getD k ⟨0, 0, 0, []⟩) = a[k] := by simp [List.getD, hlt]
        rw [hgz] at c0 c1 c2 c3
        simp only [tkI] at c0 c1 c2 c3
        replace c0 := (hB.cell (p := ⟨g, _, none⟩) hg).trans c0
        replace c1 := (hB.cell (p := ⟨g, _, none⟩) hg).trans c1
        replace c2 := (hB.cell (p := ⟨g, _, none⟩) hg).trans c2
        replace c3 := (hB.cell (p := ⟨g, _, none⟩) hg).trans c3
        have hgr := Nat.lt_of_lt_of_le hg hB.size
        have hOk := run_ok start_ok HK.out
        have ct := fun W (hW : Below wr.heap.size wr W) => take_any w1.heap.size S rb tb r a[k] W (M.kept hW) hOk k hF (by omega)
        have HE : Hid (∀ c, take r a[k] = .error c → run a Ym.start = .error (c, a[k].a)) := Lib.hid (fun c h => by
          have := run_stop (a.take k) a[k] (a.drop (k + 1)) r c HK.out h
          rwa [List.getElem_cons_drop, List.take_append_drop] at this)
        have HN : Hid (∀ r', take r a[k] = .ok r' → run (a.take (k + 1)) Ym.start = .ok r' ∧ r'.Few (k + 1)) := Lib.hid (fun r' h => ⟨by
          rw [List.take_add_one, List.getElem?_eq_getElem hlt]
          exact run_step (a.take k) a[k] [] r r' HK.out h, take_few hF h⟩)
        obtain ⟨nb, B, _⟩ := M.text
        have q2 := B.c2
        have hrb := B.lt
        have hbW := hB.size
        obtain ⟨X, hX⟩ : ∃ X, take r a[k] = X := ⟨_, rfl⟩
        have HX := Lib.hid hX
        rw [hX] at HE HN
        simp only [hX] at ct
        have ct := Lib.hid ct
        clear HK hF M hc hgz hOk B
        obtain ⟨go, hgo⟩ : ∃ go, r.go = go := ⟨_, rfl⟩
        rw [hgo] at q2 ct
        have K := Box.new wr #[.int .i64 a[k].k, .int .i64 a[k].a, .int .i64 a[k].n, .string ⟨a[k].s.toArray⟩] 80
        have B1 := balloc (Below.refl wr.heap.size wr) (.cells #[.int .i64 a[k].k, .int .i64 a[k].a, .int .i64 a[k].n, .string ⟨a[k].s.toArray⟩] 80)
        generalize a[k] = t at *
        clear hX hT hgo hgr
        cases go with
        | false =>
          have q2 : wr.cell? ⟨rb, 2, none⟩ = some (.func (.func 72) #[.pointer (some ⟨rb, 0, none⟩)] #[]) := q2
          replace q2 := (B1.cell (p := ⟨rb, 2, none⟩) hrb).trans q2
          have ct : Hid (∀ W, Below wr.heap.size wr W → Calls Tryz.prog 72 #[.pointer (some ⟨rb, 0, none⟩), tokv t] W (RdRes w1.heap.size S rb tb X W)) := ct
          unfold tokv at ct
          go_upto_region 8 with fail
          have BB := Below.refl (wr.alloc (.cells #[.int .i64 t.k, .int .i64 t.a, .int .i64 t.n, .string ⟨t.s.toArray⟩] 80)).heap.size (wr.alloc (.cells #[.int .i64 t.k, .int .i64 t.a, .int .i64 t.n, .string ⟨t.s.toArray⟩] 80))
          generalize wr.alloc (.cells #[.int .i64 t.k, .int .i64 t.a, .int .i64 t.n, .string ⟨t.s.toArray⟩] 80) = W0 at *
          obtain ⟨tl, k0, k1, k2, k3, z0, z1, z2, z3⟩ := K.four
          first
          | go_region_with (first | (go_at_call 72; refine (ct.out _ (by repeat (first | (with_reducible exact B1) | (with_reducible refine Below.drew ?_)))).mono ?_; rintro e w3 R3; have R3' := Lib.hid (R3.ahead (by repeat (first | (with_reducible exact B1) | (with_reducible refine Below.drew ?_))) hbW); have KE := Lib.hid (R3.cell (W0 := W0) (p := ⟨wr.heap.size, 1, none⟩) (by repeat (first | (with_reducible exact BB) | (with_reducible refine Below.drew ?_))) tl k1); obtain ⟨c, rfl⟩ := R3.form; clear R3) | fail)
          | fail
          all_goals
            clear K k0 k1 k2 k3 z0 z1 z2 z3 q2 ct B1 BB tl
            cases X with
            | error c0 =>
              obtain ⟨e0, hB3⟩ := R3'.out
              obtain rfl : c = c0 := by injection e0 with e0; injection e0
              have hc := take_err HX.out
              have d3 : ((c0 : Int) != 0) = true := by rcases hc with rfl | rfl | rfl <;> rfl
              have k1 := KE.out _ rfl
              have Y : Hid (R = .error (c0, t.a)) := Lib.hid (by rw [← HR.out, HE.out _ rfl])
              have hB4 := bthen hB1 (bthen hB hB3)
              clear KE R3' hB3 e0 hc HE HN HX HR
              go_wp2_with fail
              go_quiet (fail)
              go_wp2_with fail
              refine bodyPost_ret (v := .tuple #[.slice none 0 0, .int .i64 (t.a : Nat), .int .i64 (c0 : Nat)]) (by simp [results, Tryz.results26, go_sem]) rfl ?_
              rw [Y.out]; exact ⟨rfl, by first | exact hB4 | exact bdrewN hB4 _⟩
            | ok r' =>
              obtain ⟨S', e0, hB3, mono, M'⟩ := R3'.out
              obtain rfl : c = 0 := by injection e0 with e0; injection e0
              obtain ⟨n1, n2⟩ := HN.out _ rfl
              have N1 := Lib.hid n1
              have hB4 := hB.trans hB3
              clear KE R3' hB3 e0 HE HN HX n1
              go_wp2_with fail
              go_roundw
              case rel => exact ⟨k + 1, r', S', by omega, by go_num, N1, n2, M', hB4⟩
              case measure => simp [intOf]; omega
        | true =>
          have q2 : wr.cell? ⟨rb, 2, none⟩ = some (.func (.func 88) #[.pointer (some ⟨rb, 0, none⟩)] #[]) := q2
          replace q2 := (B1.cell (p := ⟨rb, 2, none⟩) hrb).trans q2
          have ct : Hid (∀ W, Below wr.heap.size wr W → Calls Tryz.prog 88 #[.pointer (some ⟨rb, 0, none⟩), tokv t] W (RdRes w1.heap.size S rb tb X W)) := ct
          unfold tokv at ct
          go_upto_region 8 with fail
          have BB := Below.refl (wr.alloc (.cells #[.int .i64 t.k, .int .i64 t.a, .int .i64 t.n, .string ⟨t.s.toArray⟩] 80)).heap.size (wr.alloc (.cells #[.int .i64 t.k, .int .i64 t.a, .int .i64 t.n, .string ⟨t.s.toArray⟩] 80))
          generalize wr.alloc (.cells #[.int .i64 t.k, .int .i64 t.a, .int .i64 t.n, .string ⟨t.s.toArray⟩] 80) = W0 at *
          obtain ⟨tl, k0, k1, k2, k3, z0, z1, z2, z3⟩ := K.four
          first
          | go_region_with (first | (go_at_call 88; refine (ct.out _ (by repeat (first | (with_reducible exact B1) | (with_reducible refine Below.drew ?_)))).mono ?_; rintro e w3 R3; have R3' := Lib.hid (R3.ahead (by repeat (first | (with_reducible exact B1) | (with_reducible refine Below.drew ?_))) hbW); have KE := Lib.hid (R3.cell (W0 := W0) (p := ⟨wr.heap.size, 1, none⟩) (by repeat (first | (with_reducible exact BB) | (with_reducible refine Below.drew ?_))) tl k1); obtain ⟨c, rfl⟩ := R3.form; clear R3) | fail)
          | fail
          all_goals
            clear K k0 k1 k2 k3 z0 z1 z2 z3 q2 ct B1 BB tl
            cases X with
            | error c0 =>
              obtain ⟨e0, hB3⟩ := R3'.out
              obtain rfl : c = c0 := by injection e0 with e0; injection e0
              have hc := take_err HX.out
              have d3 : ((c0 : Int) != 0) = true := by rcases hc with rfl | rfl | rfl <;> rfl
              have k1 := KE.out _ rfl
              have Y : Hid (R = .error (c0, t.a)) := Lib.hid (by rw [← HR.out, HE.out _ rfl])
              have hB4 := bthen hB1 (bthen hB hB3)
              clear KE R3' hB3 e0 hc HE HN HX HR
              go_wp2_with fail
              go_quiet (fail)
              go_wp2_with fail
              refine bodyPost_ret (v := .tuple #[.slice none 0 0, .int .i64 (t.a : Nat), .int .i64 (c0 : Nat)]) (by simp [results, Tryz.results26, go_sem]) rfl ?_
              rw [Y.out]; exact ⟨rfl, by first | exact hB4 | exact bdrewN hB4 _⟩
            | ok r' =>
              obtain ⟨S', e0, hB3, mono, M'⟩ := R3'.out
              obtain rfl : c = 0 := by injection e0 with e0; injection e0
              obtain ⟨n1, n2⟩ := HN.out _ rfl
              have N1 := Lib.hid n1
              have hB4 := hB.trans hB3
              clear KE R3' hB3 e0 HE HN HX n1
              go_wp2_with fail
              go_roundw
              case rel => exact ⟨k + 1, r', S', by omega, by go_num, N1, n2, M', hB4⟩
              case measure => simp [intOf]; omega
      · obtain rfl : k = a.length := by omega
        rw [List.take_length] at HK
        obtain ⟨nb, B, hnt, pn, pt⟩ := M.text
        have q0 := B.c0
        have q1 := B.c1
        have hBw := bthen hB1 hB
        by_cases hst : r.st = []
        · obtain rfl := hnt.2 hst
          have pq := fun w => ptr_neq_same nb w
          obtain ⟨v, S2, hv, c4, hN, hS2⟩ := M.kids hst
          have Y : Hid (R = .ok r.top) := Lib.hid (by rw [← HR.out, HK.out]; simp only [if_pos hst])
          have F : Hid (∀ n, ParRes R w (.returned (.tuple #[v, .int .i64 0, .int .i64 0])) (wr.drewN n)) := Lib.hid (fun n => by
            rw [Y.out]
            exact ⟨v, S2, rfl, bdrewN hBw _, hN.kept (fun b _ => rfl), fun b hb => by
              have h1 := hS2 b hb
              have h2 := hB1.size
              exact ⟨by omega, h1.2⟩⟩)
          clear HK hF M B hnt pn pt hst hN hS2 Y HR hT hB hB1 hk hlt
          go_wp2_with fail
          go_quiet (fail)
          go_wp2_with fail
          exact bodyPost_ret (v := .tuple #[v, .int .i64 0, .int .i64 0]) (by simp [results, Tryz.results26, go_sem]) rfl (F.out _)
        · have pq := fun n => (pn.kept (bdrewN (Below.refl _ _) n)).far (pt.kept (bdrewN (Below.refl _ _) n)) (fun e => hst (hnt.1 e))
          have Y : Hid (R = .error (5, s.size)) := Lib.hid (by rw [← HR.out, HK.out]; simp only [if_neg hst])
          clear HK hF M B hnt pn pt hst HR hT hB hB1 hk hlt
          go_wp2_with fail
          go_quiet (fail)
          go_wp2_with fail
          refine bodyPost_ret (v := .tuple #[.slice none 0 0, .int .i64 (s.size : Nat), .int .i64 (5 : Nat)]) (by simp [results, Tryz.results26, go_sem]) rfl ?_
          rw [Y.out]; exact ⟨rfl, by first | exact hBw | exact bdrewN hBw _⟩

end Go.Proofs.YtnjmokmlnpehdaaGreatDoor.Yp

namespace Go.Proofs.YtnjmokmlnpehdaaGreatDoor.Yl
set_option linter.unusedSimpArgs false
set_option linter.unusedVariables false
open Go.RowKit Go.Proofs.YtnjmokmlnpehdaaGreatDoor.Bn Go.Proofs.YtnjmokmlnpehdaaGreatDoor.Zm Go.Proofs.YtnjmokmlnpehdaaGreatDoor.Zr Go.Proofs.YtnjmokmlnpehdaaGreatDoor.Zp Go.Proofs.YtnjmokmlnpehdaaGreatDoor.Zk Go.Proofs.YtnjmokmlnpehdaaGreatDoor.Ym Go.Proofs.YtnjmokmlnpehdaaGreatDoor.Yp

set_option maxHeartbeats 2000000

theorem by_append (a b : ByteArray) : by_ (a ++ b) = by_ a ++ by_ b := by
  show (a ++ b).data.toList = _
  rw [ByteArray.data_append]; simp [by_]
/-- two texts together -/
theorem sum_two (a b : ByteArray) (ha : a.size ≤ 1000000) (hb : b.size ≤ 1000000) : ∃ u : ByteArray, by_ u = by_ a ++ by_ b ∧ u.size = a.size + b.size ∧ ∀ w, (Op.stringOp .add a b).run Tryz.prog w = .ok (.string u) w :=
  ⟨a ++ b, by_append a b, ByteArray.size_append, fun w => run_string_add_sum w _ _ (by omega)⟩
theorem slice_to (s : ByteArray) (b : Nat) (hb : b ≤ s.size) : ∃ t : ByteArray, by_ t = (by_ s).take b ∧ t.size = b ∧
    ∀ w, (Instr.slice 9 (.string s) none (some (.int .i64 (b : Int))) none).run Tryz.prog w = .ok (.string t) w := by
  refine ⟨s.extract 0 b, ?_, ?_, fun w => ?_⟩
  · rw [by_extract s 0 b (by omega) hb, List.drop_zero]
  · rw [ByteArray.size_extract]; omega
  · rw [run_slice_string_to_if _ _ _ _ _ Tryz.underlying9, if_pos ⟨by omega, by omega⟩]; simp

theorem parseR_small {s : ByteArray} (h : s.size ≤ 65536) : parseR s = parse (by_ s) := by rw [parseR, if_neg (by omega)]
theorem run_er {l : List Tk} {r : Rd} {er q : Nat} (h : run l r = .error (er, q)) : er = 5 ∨ er = 6 ∨ er = 7 := by
  induction l generalizing r with
  | nil => cases h
  | cons t l ih =>
    simp only [run] at h
    cases e : take r t with
    | error c => rw [e] at h; injection h with h; injection h with h1 h2; subst h1; exact take_err e
    | ok r' => rw [e] at h; exact ih h
theorem parseR_er {s : ByteArray} {er q : Nat} (h : parseR s = .error (er, q)) : er = 5 ∨ er = 6 ∨ er = 7 := by
  cases hc : cutR s with
  | error x =>
    rw [parseR_cut hc] at h
    injection h with h
    subst h
    rcases cut_er hc with h | h <;> omega
  | ok a =>
    rw [parseR_run hc] at h
    cases hr : run a Ym.start with
    | error x => rw [hr] at h; injection h with h; subst h; exact run_er hr
    | ok r =>
      rw [hr] at h
      simp only at h
      split at h
      · cases h
      · injection h with h; injection h with h1 h2; omega
theorem parseR_cut_ok {s : ByteArray} {l : List Nd} (h : parseR s = .ok l) : ∃ a, cutR s = .ok a := by
  cases hc : cutR s with
  | error x => rw [parseR_cut hc] at h; cases h
  | ok a => exact ⟨a, rfl⟩

/-- an item's cells -/
theorem nd_un {S : Nat → Prop} {W : World} {g o : Nat} {nm : List UInt8} {a : Nat} {ws : List Wd} {b : Bool} {ks : List Nd} (h : NdAt S W g o (.mk nm a ws b ks)) :
    S g ∧ W.cell? ⟨g, o, none⟩ = some (.string ⟨nm.toArray⟩) ∧ W.cell? ⟨g, o + 1, none⟩ = some (.int .i64 a) ∧ (∃ v, W.cell? ⟨g, o + 2, none⟩ = some v ∧ WdsV S W v ws) ∧ W.cell? ⟨g, o + 3, none⟩ = some (.bool b) ∧
    ∃ v, W.cell? ⟨g, o + 4, none⟩ = some v ∧ NdsV S W v ks := by
  simp only [NdAt] at h
  obtain ⟨h0, h1, h2, h3, h4, p, c, h5, h6⟩ := h
  exact ⟨h0, h1, h2, h3, h4, _, h5, p, c, rfl, h6⟩

end Go.Proofs.YtnjmokmlnpehdaaGreatDoor.Yl
