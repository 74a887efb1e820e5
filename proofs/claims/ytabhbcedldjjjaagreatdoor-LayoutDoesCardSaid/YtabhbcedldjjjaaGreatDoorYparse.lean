/- What Parse of package tree comes to. -/
import Derived.Test.YtabhbcedldjjjaaGreatDoorYprf
import Derived.Test.YtabhbcedldjjjaaGreatDoorZcut
import Derived.Deep.RegionWith
import Derived.Deep.DeepCutAuto
namespace Go.Proofs.YtabhbcedldjjjaaGreatDoor.Yp
set_option linter.unusedSimpArgs false
set_option linter.unusedVariables false
open Go.RowKit Go.Proofs.YtabhbcedldjjjaaGreatDoor.Bn Go.Proofs.YtabhbcedldjjjaaGreatDoor.Zm Go.Proofs.YtabhbcedldjjjaaGreatDoor.Zr Go.Proofs.YtabhbcedldjjjaaGreatDoor.Zp Go.Proofs.YtabhbcedldjjjaaGreatDoor.Zk Go.Proofs.YtabhbcedldjjjaaGreatDoor.Ym

set_option maxHeartbeats 4000000

/-- what Parse tells of a text -/
def parseR (s : ByteArray) : Except (Nat × Nat) (List Nd) := if 65536 < s.size then .error (6, 0) else parse (by_ s)
/-- .. in memory: all that is told lies in blocks that the call made -/
def ParRes (R : Except (Nat × Nat) (List Nd)) (w : World) (e : Ending) (w' : World) : Prop :=
  match R with
  | .ok l => ∃ (v : Value) (S : Nat → Prop), e = .returned (.tuple #[v, .int .i64 0, .int .i64 0]) ∧ Below w.heap.size w w' ∧ NdsV S w' v l ∧ ∀ b, S b → w.heap.size ≤ b ∧ b < w'.heap.size
  | .error (er, q) => e = .returned (.tuple #[.slice none 0 0, .int .i64 (q : Nat), .int .i64 (er : Nat)]) ∧ Below w.heap.size w w'

theorem take_err {r : Rd} {t : Tk} {c : Nat} (h : take r t = .error c) : c = 5 ∨ c = 6 ∨ c = 7 := by
  obtain ⟨go, top, st⟩ := r
  cases go with
  | false =>
    simp only [take] at h
    split at h
    · cases h
    · split at h
      · cases h
      · injection h with h; omega
  | true =>
    cases st with
    | nil => simp only [take] at h; injection h with h; omega
    | cons f st =>
      simp only [take] at h
      split at h
      · cases h
      · split at h
        · split at h
          · injection h with h; omega
          · cases h
        · split at h
          · injection h with h; omega
          · split at h
            · injection h with h; omega
            · cases h

theorem cut_er {s : ByteArray} {er q : Nat} (h : cutR s = .error (er, q)) : er = 5 ∨ er = 6 := by
  unfold cutR at h
  split at h
  · injection h with h; injection h with h _; exact .inr h.symm
  · obtain ⟨_, _, _, he, _⟩ := cut_ahead _ _ _ _ _ _ (Nat.le_refl _) h
    exact he
theorem cutR_ok {s : ByteArray} {a : List Tk} (h : cutR s = .ok a) : ¬ 65536 < s.size ∧ cut (by_ s) 0 0 = .ok a := by
  rw [cutR] at h
  split at h
  · cases h
  · exact ⟨by assumption, h⟩
theorem parseR_cut {s : ByteArray} {x : Nat × Nat} (h : cutR s = .error x) : parseR s = .error x := by
  rw [cutR] at h
  rw [parseR]
  split
  · rename_i hs; rw [if_pos hs] at h; cases h; rfl
  · rename_i hs; rw [if_neg hs] at h; rw [parse, h]
theorem parseR_run {s : ByteArray} {a : List Tk} (h : cutR s = .ok a) : parseR s = match run a Ym.start with | .error x => .error x | .ok r => if r.st = [] then .ok r.top else .error (5, s.size) := by
  obtain ⟨h1, h2⟩ := cutR_ok h
  rw [parseR, if_neg h1, parse, h2]
  simp only [by_len]
  cases run a Ym.start <;> rfl

/-- the next token is taken, whatever may stand there -/
theorem take_any (base : Nat) (S : Nat → Prop) (rb tb : Nat) (r : Rd) (t : Tk) (w : World) (M : RdM w base S rb tb r) (hO : r.Ok) (n : Nat) (hF : r.Few n) (hn : n ≤ 99999) :
    Calls Tryz.prog (if r.go then 68 else 46) #[.pointer (some ⟨rb, 0, none⟩), tokv t] w (RdRes base S rb tb (take r t) w) := by
  obtain ⟨go, top, st⟩ := r
  cases go with
  | false => exact begin_any base S rb tb t top st w M n hF hn
  | true =>
    cases st with
    | nil => exact absurd hO (by simp [Rd.Ok])
    | cons f st => exact goOn_any base S rb tb t top f st w M n hF hn

/-- what stands in the text, once it is read -/
theorem RdM.kids {w : World} {base : Nat} {S : Nat → Prop} {rb tb : Nat} {r : Rd} (M : RdM w base S rb tb r) (h : r.st = []) : ∃ (v : Value) (S2 : Nat → Prop), (∃ p c, v = .slice p r.top.length c) ∧ w.cell? ⟨tb, 4, none⟩ = some v ∧ NdsV S2 w v r.top ∧ ∀ b, S2 b → base ≤ b ∧ b < w.heap.size := by
  obtain ⟨nb, own, B, O⟩ := M
  obtain ⟨go, top, st⟩ := r
  simp only at h
  subst h
  obtain ⟨e, vw, vk, I, e2⟩ := O.ch
  obtain ⟨xs, k1, k2⟩ := I.kk
  rw [e] at I
  refine ⟨vk, fun y => S y ∨ vk.ownBlock = some y, row_form k1, I.c4, row_kids k1 (k2.mono (fun y hy => .inl hy)) (fun y hy => .inr hy), ?_⟩
  rintro y (hy | hy)
  · exact O.sb y hy
  · exact row_in k1 hy

set_option maxRecDepth 100000 in
theorem Parse_any (s : ByteArray) (w : World) (R : Except (Nat × Nat) (List Nd)) (hm : s.size ≤ maxLen) (hR : Hid (parseR s = R)) :
    Calls Tryz.prog 19 #[.string s] w (ParRes R w) := by
  obtain ⟨C, hC⟩ : ∃ C, cutR s = C := ⟨_, rfl⟩
  have cc := fun w => Cut_any s w C hm (Lib.hid hC)
  cases C with
  | error x =>
    obtain ⟨er, q⟩ := x
    have Y : Hid (R = .error (er, q)) := Lib.hid (by rw [← hR.out, parseR_cut hC])
    have d3 : ((er : Int) != 0) = true := by rcases cut_er hC with rfl | rfl <;> rfl
    clear hC hR
    go_enter Tryz.func19, Tryz.ntmps19
    go_wp2_with fail
    refine (cc _).mono ?_
    rintro e w1 ⟨rfl, hb⟩
    clear cc
    go_wp2_with fail
    refine bodyPost_ret (v := .tuple #[.slice none 0 0, .int .i64 (q : Nat), .int .i64 (er : Nat)]) (by simp [results, Tryz.results19, go_sem]) rfl ?_
    rw [Y.out]; exact ⟨rfl, hb⟩
  | ok a =>
    have HR : Hid ((match run a Ym.start with | .error x => .error x | .ok r => if r.st = [] then .ok r.top else .error (5, s.size)) = R) := Lib.hid (by rw [← hR.out, parseR_run hC])
    obtain ⟨hs, hcut⟩ := cutR_ok hC
    have hal : a.length ≤ 8192 := by
      have := cut_tokens _ _ _ _ _ (Nat.le_refl _) hcut
      omega
    clear hC hR hcut
    go_enter Tryz.func19, Tryz.ntmps19
    go_wp2_with fail
    refine (cc _).mono ?_
    rintro e w1 ⟨v, rfl, hO⟩
    have T := TokAt.of_own hO
    have hB1 := hO.below
    clear cc hO
    go_wp2_with fail
    refine (newReader_any w1.heap.size w1 (Nat.le_refl _)).mono ?_
    rintro e w2 ⟨rb, tb, rfl, hb2, M⟩
    obtain ⟨ptr, cap, rfl, hT⟩ := T
    go_wp2_with fail
    go_loopw [25] (fun I wr => ∃ (k : Nat) (r : Rd) (S : Nat → Prop), k ≤ a.length ∧ I = .int .i64 k ∧ Hid (run (a.take k) Ym.start = .ok r) ∧ r.Few k ∧ RdM wr w1.heap.size S rb tb r ∧ Below w1.heap.size w1 wr) (fun I _ => a.length - (intOf I).toNat)
    case atStart => exact ⟨0, Ym.start, _, by omega, rfl, Lib.hid (by simp [run]), start_few, M, hb2⟩
    case round =>
      clear M hb2
      obtain ⟨k, r, S, hk, rfl, HK, hF, M, hB⟩ := hrel
      by_cases hlt : k < a.length
      · obtain ⟨g, o, rfl, hg, hc⟩ := hT.resolve_left (by omega)
        obtain ⟨c0, c1, c2, c3⟩ := hc k hlt
        have hgz : (a.getD k ⟨0, 0, 0, []⟩) = a[k] := by simp [List.getD, hlt]
        rw [hgz] at c0 c1 c2 c3
        simp only [tkI] at c0 c1 c2 c3
        replace c0 := (hB.cell (p := ⟨g, _, none⟩) hg).trans c0
        replace c1 := (hB.cell (p := ⟨g, _, none⟩) hg).trans c1
        replace c2 := (hB.cell (p := ⟨g, _, none⟩) hg).trans c2
        replace c3 := (hB.cell (p := ⟨g, _, none⟩) hg).trans c3
        have hgr := Nat.lt_of_lt_of_le hg hB.size
        have hOk := run_ok start_ok HK.out
        have ct := fun W (hW : Below wr.heap.size wr W) => take_any w1.heap.size S rb tb r a[k] W (M.kept hW) hOk k hF (by omega)
        have HE : Hid (∀ c, take r a[k] = .error c → run a Ym.start = .error (c, a[k].a)) := Lib.hid (fun c h => by
          have := run_stop (a.take k) a[k] (a.drop (k + 1)) r c HK.out h
          rwa [List.getElem_cons_drop, List.take_append_drop] at this)
        have HN : Hid (∀ r', take r a[k] = .ok r' → run (a.take (k + 1)) Ym.start = .ok r' ∧ r'.Few (k + 1)) := Lib.hid (fun r' h => ⟨by
          rw [List.take_add_one, List.getElem?_eq_getElem hlt]
          exact run_step (a.take k) a[k] [] r r' HK.out h, take_few hF h⟩)
        obtain ⟨nb, B, _⟩ := M.text
        have q2 := B.c2
        have hrb := B.lt
        have hbW := hB.size
        obtain ⟨X, hX⟩ : ∃ X, take r a[k] = X := ⟨_, rfl⟩
        have HX := Lib.hid hX
        rw [hX] at HE HN
        simp only [hX] at ct
        have ct := Lib.hid ct
        clear HK hF M hc hgz hOk B
        obtain ⟨go, hgo⟩ : ∃ go, r.go = go := ⟨_, rfl⟩
        rw [hgo] at q2 ct
        have K := Box.new wr #[.int .i64 a[k].k, .int .i64 a[k].a, .int .i64 a[k].n, .string ⟨a[k].s.toArray⟩] 72
        have B1 := balloc (Below.refl wr.heap.size wr) (.cells #[.int .i64 a[k].k, .int .i64 a[k].a, .int .i64 a[k].n, .string ⟨a[k].s.toArray⟩] 72)
        generalize a[k] = t at *
        clear hX hT hgo hgr
        cases go with
        | false =>
          have q2 : wr.cell? ⟨rb, 2, none⟩ = some (.func (.func 46) #[.pointer (some ⟨rb, 0, none⟩)] #[]) := q2
          replace q2 := (B1.cell (p := ⟨rb, 2, none⟩) hrb).trans q2
          have ct : Hid (∀ W, Below wr.heap.size wr W → Calls Tryz.prog 46 #[.pointer (some ⟨rb, 0, none⟩), tokv t] W (RdRes w1.heap.size S rb tb X W)) := ct
          unfold tokv at ct
          go_upto_region 8 with fail
          have BB := Below.refl (wr.alloc (.cells #[.int .i64 t.k, .int .i64 t.a, .int .i64 t.n, .string ⟨t.s.toArray⟩] 72)).heap.size (wr.alloc (.cells #[.int .i64 t.k, .int .i64 t.a, .int .i64 t.n, .string ⟨t.s.toArray⟩] 72))
          generalize wr.alloc (.cells #[.int .i64 t.k, .int .i64 t.a, .int .i64 t.n, .string ⟨t.s.toArray⟩] 72) = W0 at *
          obtain ⟨tl, k0, k1, k2, k3, z0, z1, z2, z3⟩ := K.four
          first
          | go_region_with (first | (go_at_call 46; refine (ct.out _ (by repeat (first | (with_reducible exact B1) | (with_reducible refine Below.drew ?_)))).mono ?_; rintro e w3 R3; have R3' := Lib.hid (R3.ahead (by repeat (first | (with_reducible exact B1) | (with_reducible refine Below.drew ?_))) hbW); have KE := Lib.hid (R3.cell (W0 := W0) (p := ⟨wr.heap.size, 1, none⟩) (by repeat (first | (with_reducible exact BB) | (with_reducible refine Below.drew ?_))) tl k1); obtain ⟨c, rfl⟩ := R3.form; clear R3) | fail)
          | fail
          all_goals
            clear K k0 k1 k2 k3 z0 z1 z2 z3 q2 ct B1 BB tl
            cases X with
            | error c0 =>
              obtain ⟨e0, hB3⟩ := R3'.out
              obtain rfl : c = c0 := by injection e0 with e0; injection e0
              have hc := take_err HX.out
              have d3 : ((c0 : Int) != 0) = true := by rcases hc with rfl | rfl | rfl <;> rfl
              have k1 := KE.out _ rfl
              have Y : Hid (R = .error (c0, t.a)) := Lib.hid (by rw [← HR.out, HE.out _ rfl])
              have hB4 := bthen hB1 (bthen hB hB3)
              clear KE R3' hB3 e0 hc HE HN HX HR
              go_wp2_with fail
              go_quiet (fail)
              go_wp2_with fail
              refine bodyPost_ret (v := .tuple #[.slice none 0 0, .int .i64 (t.a : Nat), .int .i64 (c0 : Nat)]) (by simp [results, Tryz.results19, go_sem]) rfl ?_
              rw [Y.out]; exact ⟨rfl, by first | exact hB4 | exact bdrewN hB4 _⟩
            | ok r' =>
              obtain ⟨S', e0, hB3, mono, M'⟩ := R3'.out
              obtain rfl : c = 0 := by injection e0 with e0; injection e0
              obtain ⟨n1, n2⟩ := HN.out _ rfl
              have N1 := Lib.hid n1
              have hB4 := hB.trans hB3
              clear KE R3' hB3 e0 HE HN HX n1
              go_wp2_with fail
              go_roundw
              case rel => exact ⟨k + 1, r', S', by omega, by go_num, N1, n2, M', hB4⟩
              case measure => simp [intOf]; omega
        | true =>
          have q2 : wr.cell? ⟨rb, 2, none⟩ = some (.func (.func 68) #[.pointer (some ⟨rb, 0, none⟩)] #[]) := q2
          replace q2 := (B1.cell (p := ⟨rb, 2, none⟩) hrb).trans q2
          have ct : Hid (∀ W, Below wr.heap.size wr W → Calls Tryz.prog 68 #[.pointer (some ⟨rb, 0, none⟩), tokv t] W (RdRes w1.heap.size S rb tb X W)) := ct
          unfold tokv at ct
          go_upto_region 8 with fail
          have BB := Below.refl (wr.alloc (.cells #[.int .i64 t.k, .int .i64 t.a, .int .i64 t.n, .string ⟨t.s.toArray⟩] 72)).heap.size (wr.alloc (.cells #[.int .i64 t.k, .int .i64 t.a, .int .i64 t.n, .string ⟨t.s.toArray⟩] 72))
          generalize wr.alloc (.cells #[.int .i64 t.k, .int .i64 t.a, .int .i64 t.n, .string ⟨t.s.toArray⟩] 72) = W0 at *
          obtain ⟨tl, k0, k1, k2, k3, z0, z1, z2, z3⟩ := K.four
          first
          | go_region_with (first | (go_at_call 68; refine (ct.out _ (by repeat (first | (with_reducible exact B1) | (with_reducible refine Below.drew ?_)))).mono ?_; rintro e w3 R3; have R3' := Lib.hid (R3.ahead (by repeat (first | (with_reducible exact B1) | (with_reducible refine Below.drew ?_))) hbW); have KE := Lib.hid (R3.cell (W0 := W0) (p := ⟨wr.heap.size, 1, none⟩) (by repeat (first | (with_reducible exact BB) | (with_reducible refine Below.drew ?_))) tl k1); obtain ⟨c, rfl⟩ := R3.form; clear R3) | fail)
          | fail
          all_goals
            clear K k0 k1 k2 k3 z0 z1 z2 z3 q2 ct B1 BB tl
            cases X with
            | error c0 =>
              obtain ⟨e0, hB3⟩ := R3'.out
              obtain rfl : c = c0 := by injection e0 with e0; injection e0
              have hc := take_err HX.out
              have d3 : ((c0 : Int) != 0) = true := by rcases hc with rfl | rfl | rfl <;> rfl
              have k1 := KE.out _ rfl
              have Y : Hid (R = .error (c0, t.a)) := Lib.hid (by rw [← HR.out, HE.out _ rfl])
              have hB4 := bthen hB1 (bthen hB hB3)
              clear KE R3' hB3 e0 hc HE HN HX HR
              go_wp2_with fail
              go_quiet (fail)
              go_wp2_with fail
              refine bodyPost_ret (v := .tuple #[.slice none 0 0, .int .i64 (t.a : Nat), .int .i64 (c0 : Nat)]) (by simp [results, Tryz.results19, go_sem]) rfl ?_
              rw [Y.out]; exact ⟨rfl, by first | exact hB4 | exact bdrewN hB4 _⟩
            | ok r' =>
              obtain ⟨S', e0, hB3, mono, M'⟩ := R3'.out
              obtain rfl : c = 0 := by injection e0 with e0; injection e0
              obtain ⟨n1, n2⟩ := HN.out _ rfl
              have N1 := Lib.hid n1
              have hB4 := hB.trans hB3
              clear KE R3' hB3 e0 HE HN HX n1
              go_wp2_with fail
              go_roundw
              case rel => exact ⟨k + 1, r', S', by omega, by go_num, N1, n2, M', hB4⟩
              case measure => simp [intOf]; omega
      · obtain rfl : k = a.length := by omega
        rw [List.take_length] at HK
        obtain ⟨nb, B, hnt, pn, pt⟩ := M.text
        have q0 := B.c0
        have q1 := B.c1
        have hBw := bthen hB1 hB
        by_cases hst : r.st = []
        · obtain rfl := hnt.2 hst
          have pq := fun w => ptr_neq_same nb w
          obtain ⟨v, S2, hv, c4, hN, hS2⟩ := M.kids hst
          have Y : Hid (R = .ok r.top) := Lib.hid (by rw [← HR.out, HK.out]; simp only [if_pos hst])
          have F : Hid (∀ n, ParRes R w (.returned (.tuple #[v, .int .i64 0, .int .i64 0])) (wr.drewN n)) := Lib.hid (fun n => by
            rw [Y.out]
            exact ⟨v, S2, rfl, bdrewN hBw _, hN.kept (fun b _ => rfl), fun b hb => by
              have h1 := hS2 b hb
              have h2 := hB1.size
              exact ⟨by omega, h1.2⟩⟩)
          clear HK hF M B hnt pn pt hst hN hS2 Y HR hT hB hB1 hk hlt
          go_wp2_with fail
          go_quiet (fail)
          go_wp2_with fail
          exact bodyPost_ret (v := .tuple #[v, .int .i64 0, .int .i64 0]) (by simp [results, Tryz.results19, go_sem]) rfl (F.out _)
        · have pq := fun n => (pn.kept (bdrewN (Below.refl _ _) n)).far (pt.kept (bdrewN (Below.refl _ _) n)) (fun e => hst (hnt.1 e))
          have Y : Hid (R = .error (5, s.size)) := Lib.hid (by rw [← HR.out, HK.out]; simp only [if_neg hst])
          clear HK hF M B hnt pn pt hst HR hT hB hB1 hk hlt
          go_wp2_with fail
          go_quiet (fail)
          go_wp2_with fail
          refine bodyPost_ret (v := .tuple #[.slice none 0 0, .int .i64 (s.size : Nat), .int .i64 (5 : Nat)]) (by simp [results, Tryz.results19, go_sem]) rfl ?_
          rw [Y.out]; exact ⟨rfl, by first | exact hBw | exact bdrewN hBw _⟩

end Go.Proofs.YtabhbcedldjjjaaGreatDoor.Yp
