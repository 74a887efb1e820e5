/- What tokenOf and rightHead of package tree come to: whether an item's name and words may be. -/
import Derived.Test.YtabhbcedldjjjaaGreatDoorYput
import Derived.Test.YtabhbcedldjjjaaGreatDoorYgen
import Derived.Test.YtabhbcedldjjjaaGreatDoorZjoin
namespace Go.Proofs.YtabhbcedldjjjaaGreatDoor.Yg
set_option linter.unusedSimpArgs false
set_option linter.unusedVariables false
open Go Go.RowKit Go.Proofs.YtabhbcedldjjjaaGreatDoor.Zk Go.Proofs.YtabhbcedldjjjaaGreatDoor.Zm Go.Proofs.YtabhbcedldjjjaaGreatDoor.Ym Go.Proofs.YtabhbcedldjjjaaGreatDoor.Bn Go.Proofs.YtabhbcedldjjjaaGreatDoor.Zp

set_option maxHeartbeats 2000000

def tcI (t : TkI) : List Value := [.int .i64 t.k, .int .i64 t.a, .int .i64 t.n, .string t.s]
def tcs (a : List TkI) : List Value := a.flatMap tcI
theorem tcs_snoc (a : List TkI) (t : TkI) : tcs (a ++ [t]) = tcs a ++ tcI t := by simp [tcs]
theorem tcs_len (a : List TkI) : (tcs a).length = a.length * 4 := by
  induction a with
  | nil => rfl
  | cons t a ih => simp only [tcs, List.flatMap_cons, List.length_append, List.length_cons] at *; rw [ih]; simp [tcI]; omega
theorem tcs_at (a : List TkI) (i j : Nat) (h : i < a.length) (hj : j < 4) : (tcs a)[i * 4 + j]? = (tcI a[i])[j]? := by
  induction a generalizing i with
  | nil => simp at h
  | cons t a ih =>
    show (tcI t ++ tcs a)[i * 4 + j]? = _
    cases i with
    | zero =>
      rw [List.getElem?_append_left (by simp [tcI]; omega)]
      simp
    | succ i =>
      rw [List.getElem?_append_right (by simp [tcI]; omega)]
      simp only [List.length_cons] at h
      rw [show (i + 1) * 4 + j - (tcI t).length = i * 4 + j by simp [tcI]; omega, ih i (by omega)]
      simp
theorem one_tcI (t : TkI) : ∀ u ∈ tcI t, u.oneCell' = true := by
  intro u hu
  simp [tcI] at hu
  rcases hu with rfl | rfl | rfl | rfl <;> rfl
theorem tokAt_of {w W : World} {v : Value} {a : List TkI} (x : OneC 72 4 w W v a.length (tcs a)) : TokAt W v a.length (fun i => a.getD i ⟨0, 0, 0, ⟨#[]⟩⟩) := by
  rcases Nat.eq_zero_or_pos a.length with h0 | h0
  · obtain ⟨p, c, rfl⟩ := x.form
    exact ⟨p, c, rfl, .inl h0⟩
  · obtain ⟨g, cap, rfl, hg, lt1⟩ := x.row.form h0
    refine ⟨_, _, rfl, .inr ⟨g, 0, rfl, lt1, fun i hi => ?_⟩⟩
    have e : a.getD i ⟨0, 0, 0, ⟨#[]⟩⟩ = a[i] := by simp [List.getD, hi]
    have key : ∀ j, j < 4 → W.cell? ⟨g, i * 4 + j, none⟩ = (tcI a[i])[j]? := fun j hj => by
      rw [x.row.cellAt (i * 4 + j) (by omega), tcs_at a i j hi hj]
    simp only [Nat.zero_add, e]
    exact ⟨key 0 (by omega), key 1 (by omega), key 2 (by omega), key 3 (by omega)⟩

/-- the token that a word is -/
def tokI (x : WI) : TkI := ⟨if x.num then 2 else 1, x.a, x.n, x.s⟩
/-- an item's name and words, as tokens -/
def hdT (nm : ByteArray) (ws : List WI) : List TkI := ⟨1, 0, 0, nm⟩ :: ws.map tokI
theorem fine_tokI (x : WI) : FineI (tokI x) ↔ FineW x := by
  obtain ⟨p, n, s, a⟩ := x
  cases p with
  | true =>
    constructor
    · rintro (⟨h, _⟩ | ⟨_, h2, h3, h4⟩ | ⟨h, _⟩)
      · simp [tokI] at h
      · exact .inl ⟨rfl, h2, h3, h4⟩
      · simp [tokI] at h
    · rintro (⟨_, h2, h3, h4⟩ | ⟨h, _⟩)
      · exact .inr (.inl ⟨rfl, h2, h3, h4⟩)
      · cases h
  | false =>
    constructor
    · rintro (⟨_, h2, h3⟩ | ⟨h, _⟩ | ⟨h, _⟩)
      · exact .inr ⟨rfl, h2, h3⟩
      · simp [tokI] at h
      · simp [tokI] at h
    · rintro (⟨h, _⟩ | ⟨_, h2, h3⟩)
      · cases h
      · exact .inl ⟨rfl, h2, h3⟩
theorem fine_head (nm : ByteArray) : FineI ⟨1, 0, 0, nm⟩ ↔ Zm.name nm.data.toList = true := by
  constructor
  · rintro (⟨_, _, h3⟩ | ⟨h, _⟩ | ⟨h, _⟩)
    · exact h3
    · simp at h
    · simp at h
  · exact fun h => .inl ⟨rfl, rfl, h⟩
theorem fine_all (nm : ByteArray) (ws : List WI) : (∀ i, i < (hdT nm ws).length → FineI ((hdT nm ws).getD i ⟨0, 0, 0, ⟨#[]⟩⟩)) ↔ Zm.name nm.data.toList = true ∧ ∀ x ∈ ws, FineW x := by
  constructor
  · intro h
    refine ⟨(fine_head nm).1 (by have := h 0 (by simp [hdT]); simpa [hdT] using this), fun x hx => ?_⟩
    obtain ⟨i, hi, rfl⟩ := List.getElem_of_mem hx
    have := h (i + 1) (by simp [hdT]; exact hi)
    have e : (hdT nm ws).getD (i + 1) ⟨0, 0, 0, ⟨#[]⟩⟩ = tokI ws[i] := by simp [hdT, List.getD, hi]
    rw [e] at this
    exact (fine_tokI _).1 this
  · rintro ⟨h1, h2⟩ i hi
    cases i with
    | zero => simpa [hdT] using (fine_head nm).2 h1
    | succ i =>
      have hi' : i < ws.length := by simpa [hdT] using hi
      have e : (hdT nm ws).getD (i + 1) ⟨0, 0, 0, ⟨#[]⟩⟩ = tokI ws[i] := by simp [hdT, List.getD, hi']
      rw [e]
      exact (fine_tokI _).2 (h2 _ (List.getElem_mem _))
theorem joinIs_ex (n : Nat) (z : Nat → TkI) (hn : n ≤ 1000) : ∃ t er, JoinIs n z t er ∧ ((er = 0 ∧ ∀ i, i < n → FineI (z i)) ∨ (er = 1 ∧ ¬ ∀ i, i < n → FineI (z i))) := by
  by_cases h : ∀ i, i < n → FineI (z i)
  · have hl := join_len (toks z n) (toks_fine h)
    rw [toks_len] at hl
    exact ⟨_, _, .inr ⟨by omega, h, .inr ⟨rfl, rfl, by omega⟩⟩, .inl ⟨rfl, h⟩⟩
  · have : ∃ i, i < n ∧ ¬ FineI (z i) := by
      refine Classical.byContradiction fun hc => h fun i hi => Classical.byContradiction fun hf => hc ⟨i, hi, hf⟩
    exact ⟨_, _, .inl ⟨rfl, rfl, .inr this⟩, .inr ⟨rfl, h⟩⟩
theorem hdT_wf (nm : ByteArray) (ws : List WI) (h1 : nm.size ≤ maxLen) (h2 : ∀ x ∈ ws, x.Wf) : ∀ i, i < (hdT nm ws).length → (Lit.int .i64 ((hdT nm ws).getD i ⟨0, 0, 0, ⟨#[]⟩⟩).k).wf = true ∧ ((hdT nm ws).getD i ⟨0, 0, 0, ⟨#[]⟩⟩).s.size ≤ maxLen := by
  intro i hi
  cases i with
  | zero => exact ⟨by simp [hdT]; exact WalkArith.wf_i64 (by omega), by simpa [hdT] using h1⟩
  | succ i =>
    have hi' : i < ws.length := by simpa [hdT] using hi
    have e : (hdT nm ws).getD (i + 1) ⟨0, 0, 0, ⟨#[]⟩⟩ = tokI ws[i] := by simp [hdT, List.getD, hi']
    rw [e]
    refine ⟨?_, h2 _ (List.getElem_mem _)⟩
    simp only [tokI]
    split <;> exact WalkArith.wf_i64 (by omega)

set_option maxRecDepth 100000 in
theorem tokenOf_any (x : WI) (w : World) : Calls Tryz.prog 53 #[.agg #[.bool x.num, .int .i64 x.n, .string x.s, .int .i64 x.a]] w fun e w' => e = .returned (.agg #[.int .i64 (tokI x).k, .int .i64 (tokI x).a, .int .i64 (tokI x).n, .string (tokI x).s]) ∧ Below w.heap.size w w' := by
  obtain ⟨p, n, s, a⟩ := x
  cases p with
  | true =>
    simp only [tokI, if_true]
    go_enter Tryz.func53, Tryz.ntmps53
    go_wp2
    refine bodyPost_ret (v := .agg #[.int .i64 2, .int .i64 a, .int .i64 n, .string s]) (by simp [results, Tryz.results53, go_sem]) rfl ⟨rfl, ?_⟩
    exact balloc (balloc (Below.refl _ _) _) _
  | false =>
    simp only [tokI, Bool.false_eq_true, if_false]
    go_enter Tryz.func53, Tryz.ntmps53
    go_wp2
    refine bodyPost_ret (v := .agg #[.int .i64 1, .int .i64 a, .int .i64 n, .string s]) (by simp [results, Tryz.results53, go_sem]) rfl ⟨rfl, ?_⟩
    exact balloc (balloc (Below.refl _ _) _) _

set_option maxRecDepth 100000 in
theorem rightHead_any (S : Nat → Prop) (nm : ByteArray) (a : Int) (ws : List WI) (b : Bool) (vw : Value) (kp : Option Addr) (kn kc : Nat) (w : World) (r : Bool) (hv : WsV S w vw ws) (hS : ∀ b, S b → b < w.heap.size) (h1 : nm.size ≤ maxLen) (h2 : ∀ x ∈ ws, x.Wf)
    (hr : Hid (r = true ↔ HeadOk nm ws)) (P : Pows w) :
    Calls Tryz.prog 33 #[.agg #[.string nm, .int .i64 a, vw, .bool b, .slice kp kn kc]] w fun e w' => e = .returned (.bool r) ∧ Below w.heap.size w w' := by
  obtain ⟨ptr, cap, rfl, hl⟩ := hv
  by_cases h8 : 8 < ws.length
  · have d8 : decide ((8 : Int) < (ws.length : Int)) = true := decide_eq_true (by omega)
    obtain rfl : r = false := by
      cases r with
      | false => rfl
      | true => have := (hr.out.1 rfl).1; omega
    clear hl h8 h1 h2 hr
    go_enter Tryz.func33, Tryz.ntmps33
    go_wp2_with fail
    go_ret
    exact ⟨rfl, balloc (Below.refl _ _) _⟩
  have d8 : decide ((8 : Int) < (ws.length : Int)) = false := decide_eq_false (by omega)
  have h8' : ws.length ≤ 8 := by omega
  have HL := Lib.hid hl
  have HW := Lib.hid (hdT_wf nm ws h1 h2)
  obtain ⟨t, er, hJ, hE⟩ := joinIs_ex (hdT nm ws).length (fun i => (hdT nm ws).getD i ⟨0, 0, 0, ⟨#[]⟩⟩) (by simp [hdT]; omega)
  have hre : ((er : Int) == 0) = r := by
    rcases hE with ⟨rfl, h⟩ | ⟨rfl, h⟩
    · have := (fine_all nm ws).1 h
      rw [hr.out.2 ⟨h8', this.1, this.2⟩]
      rfl
    · cases r with
      | false => rfl
      | true =>
        have := hr.out.1 rfl
        exact absurd ((fine_all nm ws).2 ⟨this.2.1, this.2.2⟩) h
  have HJ := Lib.hid hJ
  clear hl h8 hr hE hJ h1 h2
  go_enter Tryz.func33, Tryz.ntmps33
  go_wp2_with fail
  have X := OneC.fresh 72 4 w (balloc (Below.refl w.heap.size w) (.cells #[.string nm, .int .i64 a, .slice ptr ws.length cap, .bool b, .slice kp kn kc] 50)) #[.int .i64 1, .int .i64 0, .int .i64 0, .string nm] 1 (w.heap.size + 1) (by simp) (by unfold maxLen; omega) rfl
  go_loopw [3, 19] (fun V J wr => ∃ j : Nat, j ≤ ws.length ∧ J = .int .i64 j ∧ OneC 72 4 w wr V (hdT nm (ws.take j)).length (tcs (hdT nm (ws.take j)))) (fun _ J _ => ws.length - (intOf J).toNat)
  case atStart => exact ⟨0, by omega, rfl, X⟩
  case round =>
    clear X
    obtain ⟨j, hj, rfl, X⟩ := hrel
    by_cases hlt : j < ws.length
    · obtain ⟨g, o, rfl, hf⟩ := HL.out.resolve_left (by intro e; rw [e] at hlt; simp at hlt)
      obtain ⟨h0, x0, x1, x2, x3⟩ := hf.get j hlt
      have lg := hS g h0
      have B1 := X.below
      have hst : Hid (hdT nm (ws.take (j + 1)) = hdT nm (ws.take j) ++ [tokI ws[j]]) := Lib.hid (by
        rw [List.take_add_one, List.getElem?_eq_getElem hlt]
        simp only [hdT, List.map_append, Option.toList, List.map_cons, List.map_nil, List.cons_append])
      have hl2 : (hdT nm (ws.take j)).length ≤ 9 := by simp [hdT]; omega
      replace x0 := (B1.cell (p := ⟨g, _, none⟩) lg).trans x0
      replace x1 := (B1.cell (p := ⟨g, _, none⟩) lg).trans x1
      replace x2 := (B1.cell (p := ⟨g, _, none⟩) lg).trans x2
      replace x3 := (B1.cell (p := ⟨g, _, none⟩) lg).trans x3
      have lg' := Nat.lt_of_lt_of_le lg B1.size
      generalize ws[j] = x at *
      have ct := fun w => tokenOf_any x w
      obtain ⟨xp, xn, xs, xa⟩ := x
      simp only at x0 x1 x2 x3 ct
      obtain ⟨T, hT⟩ : ∃ T, tokI ⟨xp, xn, xs, xa⟩ = T := ⟨_, rfl⟩
      rw [hT] at hst ct
      obtain ⟨L, hL⟩ : ∃ L, hdT nm (ws.take j) = L := ⟨_, rfl⟩
      rw [hL] at X hl2 hst
      clear hf h0 B1 hT hL
      go_wp2_with fail
      refine (ct _).mono ?_
      rintro e w2 ⟨rfl, hb⟩
      have X2 := (X.kept (balloc (Below.refl _ _) _)).kept hb
      clear X hb ct
      go_wp2_with (first | (at_builtin; refine put_c 66 underT infoT (by rfl) (by decide) (by go_simp) _ _ rfl (X2.kept (balloc (Below.refl _ _) _)) rfl rfl (holds_one (EL := 72) (Blk.at_ rfl) rfl (one_tcI T)) (by omega) (by unfold maxLen; omega) ?_))
      intro V3 w3 X3 _
      clear X2
      go_wp2_with fail
      go_roundw
      case rel => exact ⟨j + 1, by omega, by go_num, by rw [hst.out, tcs_snoc, List.length_append]; exact X3⟩
      case measure => simp [intOf]; omega
    · obtain rfl : j = ws.length := by omega
      rw [List.take_length] at X
      have T := tokAt_of X
      have B := X.below
      have PW := P.kept B
      clear X
      go_wp2_with fail
      refine (Join_any _ _ _ t er _ T PW (by simp [hdT]; omega) HW HJ).mono ?_
      rintro e w2 ⟨rfl, hb⟩
      have B2 := bthen B hb
      clear hb T PW B
      go_wp2_with fail
      go_ret
      exact ⟨rfl, B2⟩

end Go.Proofs.YtabhbcedldjjjaaGreatDoor.Yg
