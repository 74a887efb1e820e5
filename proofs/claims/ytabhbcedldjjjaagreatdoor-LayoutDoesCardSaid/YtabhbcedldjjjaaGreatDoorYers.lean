/- The reference's items. -/
import Derived.Test.YtabhbcedldjjjaaGreatDoorYeri
namespace Go.Proofs.YtabhbcedldjjjaaGreatDoor.Ye
set_option linter.unusedSimpArgs false
set_option linter.unusedVariables false
open Go.RowKit Go.Proofs.YtabhbcedldjjjaaGreatDoor.Bn Go.Proofs.YtabhbcedldjjjaaGreatDoor.Zm Go.Proofs.YtabhbcedldjjjaaGreatDoor.Ym Go.Proofs.YtabhbcedldjjjaaGreatDoor.Zk Go.Proofs.YtabhbcedldjjjaaGreatDoor.Yp
open Go.Proofs.YtabhbcedldjjjaaGreatDoor.Yg (Blk)

set_option maxHeartbeats 4000000

/-- the items read so far -/
structure IB (A : List Tk) (n : Nat) (tv : Value) (deep k : Nat) (w : World) (rb : Nat) (wr : World) (v : Value) (out : List Nd) (xs : List Value) (S : Nat → Prop) (k1 at1 er1 : Nat) : Prop where
  R : RR wr rb tv k1 n at1 er1
  g : G w wr rb
  row : wr.ownsRow w.heap.size 50 5 v out.length xs
  nc : NCells S wr xs out
  hS : ∀ b, S b → w.heap.size ≤ b ∧ b < wr.heap.size ∧ v.ownBlock ≠ some b
  ho : out.length ≤ k1
  hk : k ≤ k1
  hk2 : k1 ≤ A.length + (7 - deep)
  J : IMid A n deep k out k1 at1 er1
section
variable {A : List Tk} {n deep k : Nat} {tv : Value} {w : World} {rb : Nat} {wr W : World} {v : Value} {out : List Nd} {xs : List Value} {S : Nat → Prop} {k1 at1 er1 : Nat}
theorem IB.on (h : IB A n tv deep k w rb wr v out xs S k1 at1 er1) (B : Below wr.heap.size wr W) : IB A n tv deep k w rb W v out xs S k1 at1 er1 :=
  ⟨h.R.kept (gbelow B none) (by simp), h.g.trans (gbelow B _), row_kept h.row (gbelow B none) (fun _ _ q => by cases q), h.nc.kept (fun b hb => B.block b (h.hS b hb).2.1), fun b hb => ⟨(h.hS b hb).1, Nat.lt_of_lt_of_le (h.hS b hb).2.1 B.size, (h.hS b hb).2.2⟩, h.ho, h.hk, h.hk2, h.J⟩
/-- the items are told -/
theorem IB.told {at' er' : Nat} (h : IB A n tv deep k w rb wr v out xs S k1 at1 er1) (hrb : rb < w.heap.size) (g : G wr W rb) (R : RR W rb tv k1 n at' er') (hI : ISaid A n deep k out k1 at' er') : ItemsP A n rb tv deep k w (.returned v) W := by
  have sy : Stay S wr W := fun b hb => g.block b (h.hS b hb).2.1 (fun q => by cases q; have := (h.hS _ hb).1; omega)
  have row := row_kept h.row g (fun x q e => by cases e; have := (row_in h.row q).1; omega)
  refine ⟨v, out, fun b => S b ∨ v.ownBlock = some b, k1, at', er', rfl, row_kids row ((h.nc.kept sy).mono (fun b hb => .inl hb)) (fun x q => .inr q), ?_, h.g.trans g, R, h.hk, h.hk2, hI⟩
  rintro b (hb | hb)
  · exact ⟨(h.hS b hb).1, Nat.lt_of_lt_of_le (h.hS b hb).2.1 g.size⟩
  · exact row_in row hb
/-- an item more -/
theorem IB.push {W3 w4 w5 w6 : World} {S4 : Nat → Prop} {x : List Value} {nd : Nd} {k' at' er' gb cap : Nat} (h : IB A n tv deep k w rb wr v out xs S k1 at1 0) (hrb : rb < w.heap.size) (g3 : G wr W3 rb)
    (hN : NCell S4 w4 x nd) (hS4 : ∀ b, S4 b → W3.heap.size ≤ b ∧ b < w4.heap.size) (g4 : G W3 w4 rb) (R4 : RR w4 rb tv k' n at' er') (hk1 : k1 + 1 ≤ k') (hk2 : k' ≤ A.length + (7 - deep)) (J4 : IMid A n deep k (out ++ [nd]) k' at' er')
    (B5 : Below w4.heap.size w4 w5) (own6 : w6.ownsRow w.heap.size 50 5 (.slice (some ⟨gb, 0, none⟩) (out.length + 1) cap) (out.length + 1) (xs ++ x)) (gr6 : w5.grownBy w6 v.ownBlock) (hat : v.ownBlock = some gb ∨ gb = w5.heap.size) :
    IB A n tv deep k w rb w6 (.slice (some ⟨gb, 0, none⟩) (out.length + 1) cap) (out ++ [nd]) (xs ++ x) (fun b => S b ∨ S4 b) k' at' er' := by
  have z3 := g3.size
  have z4 := g4.size
  have z5 := B5.size
  have z6 := gr6.size
  have z0 := h.g.size
  have hv : ∀ y, v.ownBlock = some y → w.heap.size ≤ y ∧ y < wr.heap.size := fun y q => row_in h.row q
  have st1 : Stay S wr w4 := fun b hb => by
    have := h.hS b hb
    exact (g4.block b (by omega) (fun q => by cases q; omega)).trans (g3.block b this.2.1 (fun q => by cases q; omega))
  have st5 : Stay S w4 w6 := fun b hb => by
    have := h.hS b hb
    exact (gr6.block b (by omega) (fun q => this.2.2 q.symm)).trans (B5.block b (by omega))
  have st4 : Stay S4 w4 w6 := fun b hb => by
    have := hS4 b hb
    exact (gr6.block b (by omega) (fun q => by have := hv b q.symm; omega)).trans (B5.block b (by omega))
  refine ⟨(R4.kept (gbelow B5 none) (by simp)).kept gr6 (fun q => by have := hv rb q; omega), G.row (((h.g.trans g3).trans g4).trans (gbelow B5 _)) gr6 (fun y q => (hv y q).1), by rw [List.length_append]; exact own6,
    (((h.nc.kept st1).kept st5).mono (fun b hb => .inl hb)).snoc ((hN.kept st4).mono (fun b hb => .inr hb)), ?_, by have := h.ho; simp; omega, by have := h.hk; omega, hk2, J4⟩
  rintro b (hb | hb)
  · have := h.hS b hb
    refine ⟨this.1, by omega, fun q => ?_⟩
    have q : gb = b := by simpa [Value.ownBlock] using q
    subst q
    rcases hat with q | q
    · exact this.2.2 q
    · omega
  · have := hS4 b hb
    refine ⟨by omega, by omega, fun q => ?_⟩
    have q : gb = b := by simpa [Value.ownBlock] using q
    subst q
    rcases hat with q | q
    · have := hv _ q; omega
    · omega
end
/-- what may follow a token -/
theorem ialls {A : List Tk} (n : Nat) {deep k k1 at1 : Nat} {out : List Nd} (H : IMid A n deep k out k1 at1 0) (hk : k1 < A.length) : (A[k1].k = 4 → 0 < deep → ISaid A n deep k out k1 at1 0) ∧ (¬ A[k1].k = 1 → ¬ (A[k1].k = 4 ∧ 0 < deep) → ISaid A n deep k out k1 A[k1].a 5) ∧ (A[k1].k = 1 → ∀ nd k' at' er', JSaid A n deep (k1 + 1) (fr0 A[k1]) nd k' at' er' → IMid A n deep k (out ++ [nd]) k' at' er') := by
  refine ⟨fun h4 hd => ?_, fun h1 h4 => .inr ⟨by decide, imid_bad H hk h1 h4⟩, fun h1 nd k' at' er' hJ => imid_item H hk h1 hJ⟩
  rcases H with ⟨_, _, h⟩ | ⟨h, _⟩
  · exact .inl ⟨rfl, fun e => by omega, fun _ => ⟨hk, h4⟩, h⟩
  · exact absurd rfl h
/-- behind the last token -/
theorem iends {A : List Tk} (n : Nat) {deep k k1 at1 : Nat} {out : List Nd} (H : IMid A n deep k out k1 at1 0) (hk : ¬ k1 < A.length) : (deep = 0 → ISaid A n deep k out k1 at1 0) ∧ (0 < deep → ISaid A n deep k out k1 n 5) := by
  refine ⟨fun hd => ?_, fun hd => .inr ⟨by decide, imid_end H (by omega) hd⟩⟩
  rcases H with ⟨_, h2, h⟩ | ⟨h, _⟩
  · exact .inl ⟨rfl, fun e => by omega, fun e => by omega, h⟩
  · exact absurd rfl h
theorem ierr {A : List Tk} {n deep k k1 at1 er1 : Nat} {out : List Nd} (H : IMid A n deep k out k1 at1 er1) (h : ¬ er1 = 0) : ISaid A n deep k out k1 at1 er1 := by
  rcases H with ⟨e, _⟩ | ⟨_, h2⟩
  · exact absurd e h
  · exact .inr ⟨h, h2⟩
/-- the contract of item -/
def ItemC (A : List Tk) (n : Nat) (tv : Value) (deep : Nat) : Prop :=
  ∀ (w : World) (rb k at0 : Nat) (t : Tk), TokR w rb tv A → RR w rb tv k n at0 0 → k ≤ A.length → Calls Tryz.prog 52 #[.pointer (some ⟨rb, 0, none⟩), tokv t, .int .i64 deep] w (ItemP A n rb tv deep k (fr0 t) w)

set_option maxRecDepth 100000 in
theorem items_step (A : List Tk) (n : Nat) (tv : Value) (deep : Nat) (hd : deep ≤ 6) (hA : A.length ≤ 8192) (ci : Hid (ItemC A n tv deep)) : ItemsC A n tv deep := by
  intro w rb k at0 T R hk
  have start : IB A n tv deep k w rb w (.slice none 0 0) [] [] (fun _ => False) k at0 0 :=
    ⟨R, World.grownBy.refl _ _, World.ownsRow_nil _ _ _ _, rfl, fun _ h => h.elim, by simp, Nat.le_refl _, by omega, imid_start A n deep k hk at0⟩
  have HT := Lib.hid T
  have hsz := R.lt
  have HJ0 := Lib.hid start
  clear start R T
  go_enter Tryz.func32, Tryz.ntmps32
  go_wp2_with fail
  go_loopw [5] (fun v wr => ∃ (k1 at1 er1 : Nat) (out : List Nd) (xs : List Value) (S : Nat → Prop), IB A n tv deep k w rb wr v out xs S k1 at1 er1) (fun _ wr => A.length + 1 - kOf wr rb)
  case atStart => exact ⟨_, _, _, _, _, _, HJ0.out⟩
  case round =>
    clear HJ0
    obtain ⟨k1, at1, er1, out, xs, S, J⟩ := hrel
    have HJ := Lib.hid J
    have HKO : Hid (kOf wr rb = k1) := Lib.hid (kOf_is J.R)
    obtain ⟨ptr, cap, rfl, hT⟩ := HT.out.kept J.g
    have hk1 := J.hk2
    have hkk := J.hk
    obtain ⟨vp, vc, rfl⟩ := row_form J.row
    have q0 := J.R.c0
    have q1 := J.R.c1
    have q2 := J.R.c2
    have q4 := J.R.c4
    have rl := J.R.lt
    by_cases he : er1 = 0
    · subst he
      replace q4 : wr.cell? ⟨rb, 4, none⟩ = some (.int .i64 0) := by simpa using q4
      by_cases hlt : k1 < A.length
      · have dl : decide ((k1 : Int) < (A.length : Int)) = true := decide_eq_true (by omega)
        have dl2 : decide (k1 < A.length) = true := decide_eq_true hlt
        obtain ⟨g, o, rfl, hg, hgr, hc⟩ := hT.resolve_left (by omega)
        obtain ⟨c0, c1, c2, c3⟩ := hc k1 hlt
        have HALL := Lib.hid (ialls n J.J hlt)
        clear hT hc J
        go_upto_region 2 with fail
        go_quiet (fail)
        have BD := bdrewN (Below.refl wr.heap.size wr) nq
        have HJ1 := Lib.hid (HJ.out.on BD)
        clear q0 q1 q2 q4 rl HJ
        have q0 := HJ1.out.R.c0
        have q1 := HJ1.out.R.c1
        have rl := HJ1.out.R.lt
        replace c0 := (BD.cell (p := ⟨g, _, none⟩) hg).trans c0
        replace c1 := (BD.cell (p := ⟨g, _, none⟩) hg).trans c1
        replace c2 := (BD.cell (p := ⟨g, _, none⟩) hg).trans c2
        replace c3 := (BD.cell (p := ⟨g, _, none⟩) hg).trans c3
        replace hg := Nat.lt_of_lt_of_le hg BD.size
        clear BD
        generalize wr.drewN nq = W1 at *
        go_upto_region 3 with fail
        go_region
        have BE : Below W1.heap.size W1 (W1.alloc (.cells #[.int .i64 A[k1].k, .int .i64 A[k1].a, .int .i64 A[k1].n, .string ⟨A[k1].s.toArray⟩] 72)).drew := (balloc (Below.refl _ _) _).drew
        have HJ2 := Lib.hid (HJ1.out.on BE)
        have KT : Blk (W1.alloc (.cells #[.int .i64 A[k1].k, .int .i64 A[k1].a, .int .i64 A[k1].n, .string ⟨A[k1].s.toArray⟩] 72)).drew W1.heap.size 72 #[.int .i64 A[k1].k, .int .i64 A[k1].a, .int .i64 A[k1].n, .string ⟨A[k1].s.toArray⟩] := Yg.Blk.at_ (W := W1) rfl
        have hgW : w.heap.size ≤ W1.heap.size := HJ1.out.g.size
        clear BE HJ1 q0 q1 rl c0 c1 c2 c3 hg
        generalize (W1.alloc (.cells #[.int .i64 A[k1].k, .int .i64 A[k1].a, .int .i64 A[k1].n, .string ⟨A[k1].s.toArray⟩] 72)).drew = W2 at *
        generalize W1.heap.size = b3 at *
        generalize A[k1] = x at *
        obtain ⟨xk, xa, xn, xss⟩ := x
        obtain ⟨hshut, hbad, hitem⟩ := HALL.out
        simp only at hshut hbad hitem KT
        have HS := Lib.hid hshut
        have HB := Lib.hid hbad
        have HI := Lib.hid hitem
        clear hshut hbad hitem HALL
        have q1 := HJ2.out.R.c1
        have z1 := HJ2.out.R.z 1
        have rl := HJ2.out.R.lt
        have k0 := KT.cell 0
        have k1' := KT.cell 1
        have k2 := KT.cell 2
        have k3 := KT.cell 3
        simp at k0 k1' k2 k3
        have bl3 := KT.lt
        by_cases h4 : xk = 4
        · subst h4
          by_cases h0 : 0 < deep
          · have d0 : decide ((0 : Int) < (deep : Int)) = true := decide_eq_true (by omega)
            have d0' : decide (0 < deep) = true := decide_eq_true h0
            have Y := Lib.hid (HJ2.out.told hsz (World.grownBy.refl _ _) HJ2.out.R (HS.out rfl h0))
            clear HS HB HI
            go_wp2_with fail
            refine bodyPost_ret (v := .slice vp out.length vc) (by simp [results, Tryz.results32, go_sem]) rfl Y.out
          · have d0 : decide ((0 : Int) < (deep : Int)) = false := decide_eq_false (by omega)
            have d0' : decide (0 < deep) = false := decide_eq_false h0
            clear HS HI
            go_wp2_with fail
            refine (fail_any rb _ k1 n at1 0 xa 5 _ HJ2.out.R).mono ?_
            rintro y w4 ⟨rfl, g4, s4, R4⟩
            rw [if_pos rfl, if_pos rfl] at R4
            have Y := Lib.hid (HJ2.out.told hsz g4 R4 (HB.out (by decide) (fun q => h0 q.2)))
            clear g4 R4
            go_wp2_with fail
            refine bodyPost_ret (v := .slice vp out.length vc) (by simp [results, Tryz.results32, go_sem]) rfl Y.out
        by_cases h1 : xk = 1
        · subst h1
          clear HS HB h4
          have hk2 : ((k1 : Int) + 1) = ((k1 + 1 : Nat) : Int) := by omega
          have R3 : RR (W2.setCell ⟨rb, 1, none⟩ (.int .i64 ((k1 : Int) + 1))) rb (.slice (some ⟨g, o, none⟩) A.length cap) (k1 + 1) n at1 0 := by rw [hk2]; exact HJ2.out.R.next (k1 + 1)
          have g3 := gset W2 rb 1 (.int .i64 ((k1 : Int) + 1))
          have T3 := HT.out.kept (HJ2.out.g.trans g3)
          have KT3 := blk_far KT g3 (fun q => by cases q; omega)
          have HIC := Lib.hid (ci.out _ rb (k1 + 1) at1 ⟨1, xa, xn, xss⟩ T3 R3 (by omega))
          have HG3 := Lib.hid g3
          clear hk2 KT R3 g3 T3
          go_upto_region 10 with fail
          generalize W2.setCell ⟨rb, 1, none⟩ (.int .i64 ((k1 : Int) + 1)) = W3 at *
          clear k0 k1' k2 k3 bl3 q1 z1 rl
          have k0 := KT3.cell 0
          have k1' := KT3.cell 1
          have k2 := KT3.cell 2
          have k3 := KT3.cell 3
          simp at k0 k1' k2 k3
          have bl3 := KT3.lt
          go_wp2_with fail
          refine HIC.out.mono ?_
          rintro y w4 ⟨x, nd, S4, k', at', er', rfl, hN, hS4, g4, R4, hk1', hk2', hJ⟩
          have hN' := hN
          obtain ⟨nm, na, nws, nb, nks⟩ := nd
          obtain ⟨vw, vk, rfl, ⟨wp, wc, rfl, _⟩, ⟨kp, kc, rfl, _⟩⟩ := hN
          have row4 := row_kept (row_kept HJ2.out.row HG3.out (fun x q e => by cases e; have := (row_in HJ2.out.row q).1; omega)) g4 (fun x q e => by cases e; have := (row_in HJ2.out.row q).1; omega)
          have LAY : ∀ o, (w4.alloc o).ownsRow w.heap.size 50 5 (.slice vp out.length vc) out.length xs := fun o => row4.alloc o
          have hbw : w.heap.size ≤ w4.heap.size := ((HJ2.out.g.trans HG3.out).trans g4).size
          have hol := HJ2.out.ho
          have HN4 := Lib.hid hN'
          have HS4 := Lib.hid hS4
          have HG4 := Lib.hid g4
          have HR4 := Lib.hid R4
          have HJ4 := Lib.hid (HI.out (by simp) _ _ _ _ hJ)
          clear hN' hS4 g4 R4 hJ row4 HIC HI k0 k1' k2 k3 bl3 KT3 HT ci
          obtain ⟨j0, hi, hz0, hz1, hz2⟩ := info_parts infoI
          go_wp2_with (first | (at_builtin; refine wpList_append_lies _ rfl _ _ 22 rfl w.heap.size 50 j0 (.agg #[.string ⟨#[]⟩, .int .i64 0, .slice none 0 0, .bool false, .slice none 0 0]) 5 80 underI hi hz0 hz1 hz2 rfl (by decide) _ out.length xs rfl (LAY _) ⟨w4.heap.size, 0, none⟩ 1 1 [.string ⟨nm.toArray⟩, .int .i64 na, .slice wp nws.length wc, .bool nb, .slice kp nks.length kc] rfl rfl (fun j u hj => by (match j, hj with | 0, hj => simp at hj; subst hj; simp [Addr.add, go_sem] | 1, hj => simp at hj; subst hj; simp [Addr.add, go_sem] | 2, hj => simp at hj; subst hj; simp [Addr.add, go_sem] | 3, hj => simp at hj; subst hj; simp [Addr.add, go_sem] | 4, hj => simp at hj; subst hj; simp [Addr.add, go_sem])) (by intro u hu; simp at hu; rcases hu with rfl | rfl | rfl | rfl | rfl <;> rfl) (by decide) (by unfold maxLen; omega) (by omega) (by simp; omega) _ rfl ?_))
          intro g5 cap5 w5 own5 grow5 hat5 lt5
          have HP := Lib.hid (HJ2.out.push hsz HG3.out HN4.out HS4.out HG4.out HR4.out hk1' hk2' HJ4.out (balloc (Below.refl _ _) _) own5 grow5 (hat5.imp id (fun q => by simpa using q)))
          clear own5 grow5 hat5 LAY HN4 HS4 HG4 HR4 HJ4
          go_wp2_with fail
          go_roundw
          case rel => exact ⟨_, _, _, _, _, _, HP.out⟩
          case measure =>
            rw [kOf_is HP.out.R, HKO.out]
            omega
        have d4 : ((xk : Int) == 4) = false := beq_eq_false_iff_ne.2 (by omega)
        have d1 : ((xk : Int) != 1) = true := by
          have : ((xk : Int) == 1) = false := beq_eq_false_iff_ne.2 (by omega)
          simp [bne, this]
        clear HS HI
        go_wp2_with fail
        refine (fail_any rb _ k1 n at1 0 xa 5 _ HJ2.out.R).mono ?_
        rintro y w4 ⟨rfl, g4, s4, R4⟩
        rw [if_pos rfl, if_pos rfl] at R4
        have Y := Lib.hid (HJ2.out.told hsz g4 R4 (HB.out h1 (fun q => h4 q.1)))
        clear g4 R4
        go_wp2_with fail
        refine bodyPost_ret (v := .slice vp out.length vc) (by simp [results, Tryz.results32, go_sem]) rfl Y.out
      · have dl : decide ((k1 : Int) < (A.length : Int)) = false := decide_eq_false (by omega)
        have dl2 : decide (k1 < A.length) = false := decide_eq_false hlt
        have HE := Lib.hid (iends n J.J hlt)
        clear hT J
        go_upto_region 2 with fail
        go_quiet (fail)
        have BD := bdrewN (Below.refl wr.heap.size wr) nq
        have HJ1 := Lib.hid (HJ.out.on BD)
        clear q0 q1 q2 q4 rl HJ
        clear BD
        generalize wr.drewN nq = W1 at *
        have q2 := HJ1.out.R.c2
        have rl := HJ1.out.R.lt
        by_cases h0 : 0 < deep
        · have d0 : decide ((0 : Int) < (deep : Int)) = true := decide_eq_true (by omega)
          have d0' : decide (0 < deep) = true := decide_eq_true h0
          go_wp2_with fail
          refine (fail_any rb _ k1 n at1 0 n 5 _ HJ1.out.R).mono ?_
          rintro y w4 ⟨rfl, g4, s4, R4⟩
          rw [if_pos rfl, if_pos rfl] at R4
          have Y := Lib.hid (HJ1.out.told hsz g4 R4 (HE.out.2 h0))
          clear g4 R4
          go_wp2_with fail
          refine bodyPost_ret (v := .slice vp out.length vc) (by simp [results, Tryz.results32, go_sem]) rfl Y.out
        · have d0 : decide ((0 : Int) < (deep : Int)) = false := decide_eq_false (by omega)
          have d0' : decide (0 < deep) = false := decide_eq_false h0
          have Y := Lib.hid (HJ1.out.told hsz (World.grownBy.refl _ _) HJ1.out.R (HE.out.1 (by omega)))
          go_wp2_with fail
          refine bodyPost_ret (v := .slice vp out.length vc) (by simp [results, Tryz.results32, go_sem]) rfl Y.out
    · have de : ((er1 : Int) == 0) = false := beq_eq_false_iff_ne.2 (by omega)
      have HE := Lib.hid (ierr J.J he)
      clear hT J
      go_upto_region 2 with fail
      go_quiet (fail)
      have BD := bdrewN (Below.refl wr.heap.size wr) nq
      have HJ1 := Lib.hid (HJ.out.on BD)
      clear q0 q1 q2 q4 rl HJ
      clear BD
      generalize wr.drewN nq = W1 at *
      have q2 := HJ1.out.R.c2
      have rl := HJ1.out.R.lt
      by_cases h0 : 0 < deep
      · have d0 : decide ((0 : Int) < (deep : Int)) = true := decide_eq_true (by omega)
        have d0' : decide (0 < deep) = true := decide_eq_true h0
        go_wp2_with fail
        refine (fail_any rb _ k1 n at1 er1 n 5 _ HJ1.out.R).mono ?_
        rintro y w4 ⟨rfl, g4, s4, R4⟩
        rw [if_neg he, if_neg he] at R4
        have Y := Lib.hid (HJ1.out.told hsz g4 R4 (HE.out))
        clear g4 R4
        go_wp2_with fail
        refine bodyPost_ret (v := .slice vp out.length vc) (by simp [results, Tryz.results32, go_sem]) rfl Y.out
      · have d0 : decide ((0 : Int) < (deep : Int)) = false := decide_eq_false (by omega)
        have d0' : decide (0 < deep) = false := decide_eq_false h0
        have Y := Lib.hid (HJ1.out.told hsz (World.grownBy.refl _ _) HJ1.out.R (HE.out))
        go_wp2_with fail
        refine bodyPost_ret (v := .slice vp out.length vc) (by simp [results, Tryz.results32, go_sem]) rfl Y.out

end Go.Proofs.YtabhbcedldjjjaaGreatDoor.Ye
