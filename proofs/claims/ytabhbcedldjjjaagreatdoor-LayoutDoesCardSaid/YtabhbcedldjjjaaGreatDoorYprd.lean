/- What the functions of package tree's reader come to. -/
import Derived.Test.YtabhbcedldjjjaaGreatDoorYmem2
import Derived.Test.YtabhbcedldjjjaaGreatDoorZtok
import Derived.Test.YtabhbcedldjjjaaGreatDoorJK
import Derived.BigRegion
import Derived.Laws.EntriesVeiled
import Derived.Deep.Cut
import Derived.Deep.CutRange
import Derived.BigQuiet
import Derived.Deep.RegionLaw
import Derived.Deep.AppendLies
import Derived.Deep.DrawnRows
namespace Go.Proofs.YtabhbcedldjjjaaGreatDoor.Yp
set_option linter.unusedSimpArgs false
set_option linter.unusedVariables false
open Go.RowKit Go.Proofs.YtabhbcedldjjjaaGreatDoor.Bn Go.Proofs.YtabhbcedldjjjaaGreatDoor.Zm Go.Proofs.YtabhbcedldjjjaaGreatDoor.Ym

set_option maxHeartbeats 8000000
attribute [local go_sem ↓] Go.wp_at_zero Go.wp_at_succ

/-- the reader's function value: what may stand next -/
def fnv (go : Bool) (rb : Nat) : Value := .func (.func (if go then 68 else 46)) #[.pointer (some ⟨rb, 0, none⟩)] #[]
def tokv (t : Tk) : Value := .agg #[.int .i64 t.k, .int .i64 t.a, .int .i64 t.n, .string ⟨t.s.toArray⟩]
theorem infoW : (Tryz.prog.info? 64).map (fun i => (i.zero, i.size, i.bytes)) = some (some (.agg #[.bool false, .int .i64 0, .string ⟨#[]⟩, .int .i64 0]), 4, 40) := by kernel_rfl
theorem underW : Tryz.prog.underlying 48 = some (.slice 64) := by kernel_rfl
theorem infoI : (Tryz.prog.info? 50).map (fun i => (i.zero, i.size, i.bytes)) = some (some (.agg #[.string ⟨#[]⟩, .int .i64 0, .slice none 0 0, .bool false, .slice none 0 0]), 5, 80) := by kernel_rfl
theorem underI : Tryz.prog.underlying 22 = some (.slice 50) := by kernel_rfl
/-- the reader stands at r -/
def RdM (W : World) (base : Nat) (S : Nat → Prop) (rb tb : Nat) (r : Rd) : Prop :=
  ∃ nb own, RdB W rb tb nb (fnv r.go rb) ∧ RdO W base 64 50 S rb tb nb own r
def RdRes (base : Nat) (S : Nat → Prop) (rb tb : Nat) (x : Except Nat Rd) (w : World) (e : Ending) (w' : World) : Prop :=
  match x with
  | .error c => e = .returned (.int .i64 (c : Nat)) ∧ Below w.heap.size w w'
  | .ok r' => ∃ S' : Nat → Prop, e = .returned (.int .i64 0) ∧ Below base w w' ∧ (∀ y, S y → S' y) ∧ RdM w' base S' rb tb r'

set_option maxRecDepth 100000 in
theorem wordOf_any (k a n : Int) (s : ByteArray) (w : World) :
    Calls Tryz.prog 88 #[.agg #[.int .i64 k, .int .i64 a, .int .i64 n, .string s]] w fun e w' => e = .returned (.agg #[.bool (k == 2), .int .i64 n, .string s, .int .i64 a]) ∧ Below w.heap.size w w' := by
  go_enter Tryz.func88, Tryz.ntmps88
  go_wp2
  refine bodyPost_ret (v := .agg #[.bool (k == 2), .int .i64 n, .string s, .int .i64 a]) (by simp [results, Tryz.results88, go_sem]) rfl ⟨rfl, ?_⟩
  exact balloc (balloc (Below.refl _ _) _) _

set_option maxRecDepth 100000 in
theorem begin_name (base : Nat) (S : Nat → Prop) (rb tb : Nat) (t : Tk) (top : List Nd) (st : List Fr) (w : World) (hk : t.k = 1) (M : RdM w base S rb tb ⟨false, top, st⟩) (d1 : st.length ≤ 100000) :
    Calls Tryz.prog 46 #[.pointer (some ⟨rb, 0, none⟩), tokv t] w (RdRes base S rb tb (take ⟨false, top, st⟩ t) w) := by
  obtain ⟨nb, own, B, O⟩ := M
  have tk : take ⟨false, top, st⟩ t = .ok ⟨true, top, ⟨t.s, t.a, [], false, []⟩ :: st⟩ := by simp only [take]; rw [if_pos hk]
  rw [tk]
  unfold tokv
  rw [hk]
  obtain ⟨f, vw, vk, out, I, hn, _⟩ := O.ch.now
  have h6 := I.c6
  have hnl := I.lt
  obtain ⟨s, hs⟩ : ∃ s : ByteArray, (⟨t.s.toArray⟩ : ByteArray) = s := ⟨_, rfl⟩
  obtain ⟨a, ha⟩ : ∃ a : Int, (t.a : Int) = a := ⟨_, rfl⟩
  obtain ⟨n, hn'⟩ : ∃ n : Int, (t.n : Int) = n := ⟨_, rfl⟩
  obtain ⟨d, hd⟩ : ∃ d : Int, ((st.length : Nat) : Int) = d := ⟨_, rfl⟩
  rw [hd] at h6
  have d0 : 0 ≤ d ∧ d ≤ 100000 := by omega
  have HH := Lib.hid (And.intro hs (And.intro ha hd))
  have HO := Lib.hid O
  have br := O.rb_
  rw [hs, ha, hn']
  clear hs ha hd hn' I tk hk O d1 hn
  have K := Box.new w #[.int .i64 1, .int .i64 a, .int .i64 n, .string s] 72
  have B1 := balloc (Below.refl w.heap.size w) (.cells #[.int .i64 1, .int .i64 a, .int .i64 n, .string s] 72)
  have g6 := (B1.cell (p := ⟨nb, 6, none⟩) hnl).trans h6
  have R1 := B.kept (gbelow B1 none) (by simp)
  go_enter Tryz.func46, Tryz.ntmps46
  go_upto_region 3 with fail
  generalize w.alloc (.cells #[.int .i64 1, .int .i64 a, .int .i64 n, .string s] 72) = W0 at *
  obtain ⟨_, k0, k1, k2, k3, z0, z1, z2, z3⟩ := K.four
  obtain ⟨IT, hIT⟩ : ∃ IT : Obj, IT = .cells #[.string s, .int .i64 a, .slice none 0 0, .bool false, .slice none 0 0, .pointer (some ⟨nb, 0, none⟩), .int .i64 (d + 1)] 78 := ⟨_, rfl⟩
  have B2 := balloc (Below.refl W0.heap.size W0) IT
  have R2 := (((R1.kept (gbelow B2 none) (by simp)).now W0.heap.size).kept (gdrew _ none) (by simp)).take (fnv true rb)
  have u1 := (B2.cell (p := ⟨rb, 1, none⟩) R1.lt).trans R1.c1
  have v1 := (B2.frozen (p := ⟨rb, 1, none⟩) R1.lt).trans (R1.z 1)
  have x2 : World.cell? _ _ = some (.func (.func 46) #[.pointer (some ⟨rb, 0, none⟩)] #[]) := (B2.cell (p := ⟨rb, 2, none⟩) R1.lt).trans R1.c2
  have y2 := (B2.frozen (p := ⟨rb, 2, none⟩) R1.lt).trans (R1.z 2)
  have q1 := R1.c1
  have f1 := R1.z 1
  have hb : (((W0.alloc IT).setCell ⟨rb, 1, none⟩ (.pointer (some ⟨W0.heap.size, 0, none⟩))).drew.setCell ⟨rb, 2, none⟩ (fnv true rb)).heap[W0.heap.size]? = some IT := by
    have hr : rb ≠ W0.heap.size := by have := R1.lt; omega
    refine (Below.heap_setCell _ _ _ _ (Ne.symm hr)).trans ?_
    refine Eq.trans ?_ (MapKept.heap_alloc W0 IT).1
    exact Below.heap_setCell _ _ _ _ (Ne.symm hr)
  have G : w.grownBy (((W0.alloc IT).setCell ⟨rb, 1, none⟩ (.pointer (some ⟨W0.heap.size, 0, none⟩))).drew.setCell ⟨rb, 2, none⟩ (fnv true rb)) (some rb) :=
    ((((gbelow B1 (some rb)).trans (gbelow B2 (some rb))).trans (gset _ rb 1 _)).trans (gdrew _ (some rb))).trans (gset _ rb 2 _)
  have RES : RdRes base S rb tb (.ok ⟨true, top, ⟨t.s, t.a, [], false, []⟩ :: st⟩) w (.returned (.int .i64 0)) (((W0.alloc IT).setCell ⟨rb, 1, none⟩ (.pointer (some ⟨W0.heap.size, 0, none⟩))).drew.setCell ⟨rb, 2, none⟩ (fnv true rb)) := by
    obtain ⟨e1, e2, e3⟩ := HH
    have hO : RdO w base _ _ S rb tb nb own ⟨false, top, st⟩ := HO
    have bw : base ≤ w.heap.size := by omega
    refine ⟨S, rfl, ?_, fun _ h => h, W0.heap.size, _, R2, hO.push G (b := W0.heap.size) (t := t) (T := 78) ?_ ?_ true⟩
    · exact ((((B1.mono bw).alloc (Nat.le_trans bw B1.size) IT).setCell br.1 _).drew).setCell br.1 _
    · rw [hb, hIT, e1, e2, e3]
    · exact B1.size
  clear HH HO G hb R2 B1 B2
  rw [hIT] at x2 y2 u1 v1 RES
  go_region
  all_goals
    go_wp2
    refine bodyPost_ret (v := .int .i64 0) (by simp [results, Tryz.results46, go_sem]) rfl RES

set_option maxRecDepth 100000 in
theorem open_any (base : Nat) (S : Nat → Prop) (rb tb : Nat) (f : Fr) (top : List Nd) (st : List Fr) (w : World) (M : RdM w base S rb tb ⟨true, top, f :: st⟩) (d1 : st.length ≤ 100000) :
    Calls Tryz.prog 78 #[.pointer (some ⟨rb, 0, none⟩)] w (RdRes base S rb tb (if 6 < st.length + 1 then .error 7 else .ok ⟨false, top, { f with block := true } :: st⟩) w) := by
  obtain ⟨nb, own, B, O⟩ := M
  obtain ⟨vw, vk, b', own', I, C, e⟩ := O.head
  have br := O.rb_
  have bn := O.ob_ nb (by rw [e]; simp)
  have ne : rb ≠ nb := fun q => O.rn (by rw [e, q]; simp)
  have B' := (B.kept (gset w nb 3 (.bool true)) (fun q => ne (by cases q; rfl))).take (fnv false rb)
  have O' := (O.block false).kept (gset _ rb 2 (fnv false rb)) (fun x q => by cases q; exact ⟨O.rn, O.rS⟩) false
  have q1 := B.c1
  have h6 := I.c6
  have h3 := I.c3
  have z3 := I.z 3
  have q2 : w.cell? ⟨rb, 2, none⟩ = some (.func (.func 68) #[.pointer (some ⟨rb, 0, none⟩)] #[]) := B.c2
  have y2 := B.z 2
  obtain ⟨d, hd⟩ : ∃ d : Int, ((st.length + 1 : Nat) : Int) = d := ⟨_, rfl⟩
  rw [hd] at h6
  by_cases hl : 6 < st.length + 1
  · rw [if_pos hl]
    have hd6 : 6 < d := by omega
    clear B' O' O I C B e ne
    go_enter Tryz.func78, Tryz.ntmps78
    go_wp2
    refine bodyPost_ret (v := .int .i64 7) (by simp [results, Tryz.results78, go_sem]) rfl ⟨rfl, ?_⟩
    exact Below.refl _ _
  · rw [if_neg hl]
    have hd6 : ¬ 6 < d := by omega
    have RES : RdRes base S rb tb (.ok ⟨false, top, { f with block := true } :: st⟩) w (.returned (.int .i64 0)) ((w.setCell ⟨nb, 3, none⟩ (.bool true)).setCell ⟨rb, 2, none⟩ (fnv false rb)) :=
      ⟨S, rfl, ((Below.refl base w).setCell bn.1 _).setCell br.1 _, fun _ h => h, nb, own, B', O'⟩
    clear B' O' O I C B e
    go_enter Tryz.func78, Tryz.ntmps78
    go_wp2
    refine bodyPost_ret (v := .int .i64 0) (by simp [results, Tryz.results78, go_sem]) rfl RES

theorem app_same {w W wz : World} {v : Value} {b : Nat} (hb : Below w.heap.size w W) (hg : W.grownBy wz v.ownBlock) (hne : v.ownBlock ≠ some b) (hl : b < w.heap.size) : wz.heap[b]? = w.heap[b]? :=
  (hg.block b (Nat.lt_of_lt_of_le hl hb.size) (fun q => hne q.symm)).trans (hb.block b hl)
theorem app_frz {w wz : World} {b j : Nat} (h : wz.heap[b]? = w.heap[b]?) : wz.frozen? ⟨b, j, none⟩ = w.frozen? ⟨b, j, none⟩ := by simp only [World.frozen?, h]
theorem app_below {w W wz : World} {v : Value} {base : Nat} (hb : Below w.heap.size w W) (hg : W.grownBy wz v.ownBlock) (hv : ∀ x, v.ownBlock = some x → base ≤ x) (hw : base ≤ w.heap.size) : Below base w wz :=
  ⟨hg.os.trans hb.os, hg.tape.trans hb.tape, hg.output.trans hb.output, Nat.le_trans hb.size hg.size, fun k hk => app_same hb hg (fun q => by have := hv k q; omega) (by omega)⟩

end Go.Proofs.YtabhbcedldjjjaaGreatDoor.Yp
