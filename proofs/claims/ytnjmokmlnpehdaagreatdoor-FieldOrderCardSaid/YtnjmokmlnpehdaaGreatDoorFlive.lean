/- The example of layer 11. -/
import Derived.Test.YtnjmokmlnpehdaaGreatDoorJFf
import Derived.Test.YtnjmokmlnpehdaaGreatDoorJFt
import Derived.Test.YtnjmokmlnpehdaaGreatDoorJFa
import Derived.Test.YtnjmokmlnpehdaaGreatDoorJFx
namespace Go.Proofs.YtnjmokmlnpehdaaGreatDoor.Fl
set_option linter.unusedSimpArgs false
set_option linter.unusedVariables false
open Go Go.RowKit Go.Proofs.YtnjmokmlnpehdaaGreatDoor.Am Go.Proofs.YtnjmokmlnpehdaaGreatDoor.Zm Go.Proofs.YtnjmokmlnpehdaaGreatDoor.Ym Go.Proofs.YtnjmokmlnpehdaaGreatDoor.Bn Go.Proofs.YtnjmokmlnpehdaaGreatDoor.Zp Go.Proofs.YtnjmokmlnpehdaaGreatDoor.Zk Go.Proofs.YtnjmokmlnpehdaaGreatDoor.Yp Go.Proofs.YtnjmokmlnpehdaaGreatDoor.Yg Go.Proofs.YtnjmokmlnpehdaaGreatDoor.Fm Go.Proofs.YtnjmokmlnpehdaaGreatDoor.Fp Go.Proofs.YtnjmokmlnpehdaaGreatDoor.Yl

set_option maxHeartbeats 2000000

/-- an item that was read, as Read asks for it -/
theorem nodeOf_nd {S : Nat → Prop} {W : World} {g o : Nat} {nm : List UInt8} {a : Nat} {ws : List Wd} {b : Bool} {ks : List Nd} (h : NdAt S W g o (.mk nm a ws b ks)) (hS : ∀ x, S x → x < W.heap.size) (hwf : WfN (embN (.mk nm a ws b ks))) (hln : LenN (embN (.mk nm a ws b ks)))
    (ha : (Lit.int .i64 (a : Int)).wf = true) (h1 : ws.length ≤ maxLen) (h2 : ks.length ≤ maxLen) : ∃ wp wc kp kc, W.cell? ⟨g, o, none⟩ = some (.string ⟨nm.toArray⟩) ∧ W.cell? ⟨g, o + 1, none⟩ = some (.int .i64 a) ∧ W.cell? ⟨g, o + 2, none⟩ = some (.slice wp ws.length wc) ∧
      W.cell? ⟨g, o + 3, none⟩ = some (.bool b) ∧ W.cell? ⟨g, o + 4, none⟩ = some (.slice kp ks.length kc) ∧ NodeOf W ⟨nm.toArray⟩ a wp (ws.map embW).length wc b kp (embL ks).length kc (ws.map embW) (embL ks) := by
  obtain ⟨_, c0, c1, ⟨vw, c2, hw⟩, c3, vk, c4, hk⟩ := nd_un h
  obtain ⟨wp, wc, rfl, hw2⟩ := id hw
  obtain ⟨kp, kc, rfl, hk2⟩ := id hk
  have W1 := (wsV_emb hw).mono (T := (· < W.heap.size)) (fun x hx => hS x hx)
  have K1 := (nsV_emb hk).mono (T := (· < W.heap.size)) (fun x hx => hS x hx)
  refine ⟨wp, wc, kp, kc, c0, c1, c2, c3, c4, rfl, rfl, by simpa using h1, by rw [embL_len]; exact h2, ha, by simpa [embN] using hwf, by simpa [embN] using hln, by simpa using W1, by rw [embL_len]; exact K1, fun i hi => ?_⟩
  rw [embL_len] at hi
  obtain ⟨g', o', rfl, hf⟩ := hk2.resolve_left (by intro e; rw [e] at hi; simp at hi)
  have hn := hf.get i hi
  obtain ⟨wsi, v, d2, hv⟩ : ∃ wsi v, W.cell? ⟨g', o' + 5 * i + 2, none⟩ = some v ∧ WdsV S W v wsi := by
    generalize ks[i] = n at hn
    obtain ⟨nm', a', ws', b', ks'⟩ := n
    obtain ⟨_, _, _, ⟨v, q1, q2⟩, _⟩ := nd_un hn
    exact ⟨ws', v, q1, q2⟩
  obtain ⟨p, cp, rfl, hp⟩ := hv
  refine ⟨g', o', rfl, p, _, cp, by rw [Nat.mul_comm i 5]; exact d2, ?_⟩
  rcases hp with e | ⟨_, _, _, _, e⟩
  · rw [e]; exact Nat.zero_le _
  · exact e

/-- an item that came in stays -/
theorem _root_.Go.Proofs.YtnjmokmlnpehdaaGreatDoor.Yg.NodeOf.below {w W : World} {nm : ByteArray} {a : Int} {wp : Option Addr} {wn wc : Nat} {b : Bool} {kp : Option Addr} {kn kc : Nat} {ws : List WI} {ks : List NI} (h : NodeOf w nm a wp wn wc b kp kn kc ws ks) (hB : Below w.heap.size w W) : NodeOf W nm a wp wn wc b kp kn kc ws ks := by
  obtain ⟨h1, h2, h3, h4, h5, h6, h7, h8, h9, h10⟩ := h
  refine ⟨h1, h2, h3, h4, h5, h6, h7, (WsV.kept h8 (fun b hb => hB.block b hb)).mono (fun b hb => Nat.lt_of_lt_of_le hb hB.size), (h9.on (fun _ h => h) hB).mono (fun b hb => Nat.lt_of_lt_of_le hb hB.size), fun i hi => ?_⟩
  obtain ⟨g, o, e, q, m, c, k1, k2⟩ := h10 i hi
  exact ⟨g, o, e, q, m, c, (hB.cell (p := ⟨g, _, none⟩) (World.block_lt_of_cell? w ⟨g, o + i * 5 + 2, none⟩ k1)).trans k1, k2⟩
theorem exF_wf : WfN (embN (.mk [99, 97, 108, 101, 110, 100, 97, 114] 0 [⟨false, 0, [120], 9⟩] true
    [.mk [101, 110, 100] 13 [⟨false, 0, [110, 114, 102], 17⟩] false [], .mk [115, 101, 114, 118, 101] 22 [⟨true, 2000, [], 28⟩, ⟨true, 2030, [], 33⟩] false [], .mk [99, 111, 109, 112, 97, 114, 101] 39 [⟨false, 0, [115, 104, 105, 102, 116], 47⟩] false []])) := by
  have key : ∀ (l : List Wd), (∀ x ∈ l, x.s.length ≤ 10) → ∀ x ∈ l.map embW, x.Wf := by
    intro l h x hx
    obtain ⟨y, hy, rfl⟩ := List.mem_map.1 hx
    have := h y hy
    show ByteArray.size ⟨y.s.toArray⟩ ≤ maxLen
    have e : ByteArray.size ⟨y.s.toArray⟩ = y.s.length := by simp [ByteArray.size]
    unfold maxLen
    omega
  exact ⟨by decide, key _ (by decide), ⟨by decide, key _ (by decide), trivial⟩, ⟨by decide, key _ (by decide), trivial⟩, ⟨by decide, key _ (by decide), trivial⟩, trivial⟩

set_option maxRecDepth 100000 in
theorem flive_ok (w : World) (T : NTabs w) : Calls Tryz.prog 11 #[] w fun e w' => e = .returned (.bool true) ∧ Below w.heap.size w w' := by
  have cp := fun w => Parse_any ⟨exF.toArray⟩ w (.ok exFN) (by decide) (Lib.hid (by
    rw [parseR_small (by decide), show Go.Proofs.YtnjmokmlnpehdaaGreatDoor.Zr.by_ ⟨exF.toArray⟩ = exF from rfl, parse_exf]))
  have hT := Lib.hid T
  clear T
  go_enter Tryz.func11, Tryz.ntmps11
  go_wp2_with fail
  refine (cp _).mono ?_
  rintro e w1 ⟨v, S, rfl, B, hN, hS⟩
  clear cp
  obtain ⟨ptr, cap, rfl, hN⟩ := hN
  obtain ⟨g, o, rfl, hN2⟩ := hN.resolve_left (by simp [exFN])
  have n0 := hN2.get 0 (by decide)
  obtain ⟨wp, wc, kp, kc, a0, a1, a2, a3, a4, NO⟩ := nodeOf_nd (nm := [99, 97, 108, 101, 110, 100, 97, 114]) (a := 0) (b := true) n0 (fun b hb => (hS b hb).2) exF_wf (by simp [embN, embL, LenN, LenL, maxLen]) (by decide) (by decide) (by decide)
  have NO' : NodeOf w1 calN 0 wp 1 wc true kp 3 kc [⟨false, 0, ⟨#[120]⟩, 9⟩] exFK := NO
  have cr : Calls Tryz.prog 13 #[.agg #[.string ⟨#[99, 97, 108, 101, 110, 100, 97, 114]⟩, .int .i64 0, .slice wp 1 wc, .bool true, .slice kp 3 kc]] w1 fun e w' => e = .returned (.tuple #[.agg #[.string ⟨#[120]⟩, .int .i64 3, .int .i64 6, .int .i64 1, .int .i64 1, .int .i64 1, .int .i64 4, .int .i64 5, .int .i64 4, .int .i64 0, .int .i64 12, .int .i64 2000, .int .i64 2030, .int .i64 2], .int .i64 0, .int .i64 0]) ∧ Below w1.heap.size w1 w' :=
    Read_any calN 0 wp wc true kp kc [⟨false, 0, ⟨#[120]⟩, 9⟩] exFK w1 (exFC, 0, 0) NO' (by decide) (by decide) (hT.out.n.kept B) (hT.out.p.kept B) (Lib.hid exF_read)
  have lg := (hS g (by
    have := n0
    simp only [exFN, List.getElem_cons_zero, NdAt] at this
    exact this.1)).2
  rw [show o + 5 * 0 = o by omega] at a0 a1 a2 a3 a4
  have hl : exFN.length = 1 := rfl
  rw [hl]
  clear hN hN2 n0 NO NO' hS
  go_wp2_with fail
  refine cr.mono ?_
  rintro e w2 ⟨rfl, hb⟩
  clear cr
  go_wp2_with fail
  go_ret
  exact ⟨rfl, by first | exact bthen B hb | exact balloc (bthen B hb) _⟩

end Go.Proofs.YtnjmokmlnpehdaaGreatDoor.Fl
