/- What flat of layer 9's laws comes to: the tokens of items, without places. -/
import Derived.Test.YtjebdoecigmkhaaDoorYlaw
import Derived.Test.YtjebdoecigmkhaaDoorYrfew
import Derived.Test.YtjebdoecigmkhaaDoorZapp
import Derived.Test.YtjebdoecigmkhaaDoorZcut
import Derived.OwnWalk
namespace Go.Proofs.YtjebdoecigmkhaaDoor.Yl
set_option linter.unusedSimpArgs false
set_option linter.unusedVariables false
open Go.RowKit Go.Proofs.YtjebdoecigmkhaaDoor.Bn Go.Proofs.YtjebdoecigmkhaaDoor.Zm Go.Proofs.YtjebdoecigmkhaaDoor.Zk Go.Proofs.YtjebdoecigmkhaaDoor.Zp Go.Proofs.YtjebdoecigmkhaaDoor.Ym Go.Proofs.YtjebdoecigmkhaaDoor.Yr

set_option maxHeartbeats 4000000

/-- a token, without its place -/
def tk0 (x : Nat × Nat × List UInt8) : Tk := ⟨x.1, 0, x.2.1, x.2.2⟩
def tkW (x : Wd) : Tk := tk0 (flatW x)
theorem tkW_num (n : Nat) (s : List UInt8) (a : Nat) : tkW ⟨true, n, s, a⟩ = ⟨2, 0, n, []⟩ := rfl
theorem tkW_name (n : Nat) (s : List UInt8) (a : Nat) : tkW ⟨false, n, s, a⟩ = ⟨1, 0, 0, s⟩ := rfl
def tkl (l : List Nd) : List Tk := (flatL l).map tk0
theorem tkl_len (l : List Nd) : (tkl l).length = (flatL l).length := by simp [tkl]

/-- a block of cells of type T -/
def Blk (W : World) (b : Nat) (T : TypeId) (c : Array Value) : Prop := W.heap[b]? = some (.cells c T (0, 0))
theorem Blk.lt {W : World} {b : Nat} {T : TypeId} {c : Array Value} (h : Blk W b T c) : b < W.heap.size := (Array.getElem?_eq_some_iff.1 h).1
theorem Blk.kept {W W1 : World} {b : Nat} {T : TypeId} {c : Array Value} (h : Blk W b T c) (B : Below W.heap.size W W1) : Blk W1 b T c := (B.block b h.lt).trans h
theorem Blk.new (W : World) (T : TypeId) (c : Array Value) : Blk (W.alloc (.cells c T (0, 0))) W.heap.size T c := (MapKept.heap_alloc W _).1
theorem Blk.at_ {W : World} {T : TypeId} {c : Array Value} {g : Nat} (h : W.heap.size = g) : Blk (W.alloc (.cells c T (0, 0))) g T c := by
  subst h
  exact Blk.new _ _ _
theorem Blk.cell {W : World} {b : Nat} {T : TypeId} {c : Array Value} (h : Blk W b T c) (j : Nat) : W.cell? ⟨b, j, none⟩ = c[j]? := by simp [World.cell?, show W.heap[b]? = _ from h]

/-- tokens are put behind the call's own -/
theorem put_toks {w W : World} {ops : Array Oper} {rest : List Oper} {o : Oper} {a : Act} {Q : Exit → Act → World → Prop} (hgd : Region.wanted o (yielded ops a.tmps) = true) (s x : Operand)
    (ho : o.op = .call { callee := .builtin .append, args := #[s, x], argTypes := #[27, 27] })
    (V : Value) (L : List Tk) (X : OneT 44 w W V L) (hs : a.eval s = V) (u : Value) (M : List Tk) (hx : a.eval x = u) (hr : Holds W 4 u M.length (tks M)) (hL : L.length ≤ 1000000) (hM : M.length ≤ 1000000)
    (h : ∀ v' w', OneT 44 w w' v' (L ++ M) → (∀ b T c, ¬ T = 44 → Blk W b T c → Blk w' b T c) → wpList Tryd.prog ops Q rest (a.put o.dst v') w') : wpList Tryd.prog ops Q (o :: rest) a W := by
  obtain ⟨i0, hi, hz0, hz1, hz2⟩ := info_parts infoT
  refine wpList_put_behind hgd s x 27 ho w.heap.size 44 i0 (.agg #[.int .i64 0, .int .i64 0, .int .i64 0, .string ⟨#[]⟩]) 4 40 underT hi hz0 hz1 hz2 rfl (by decide) V L.length (tks L) hs X.a u M.length (tks M) hx hr (by unfold maxLen; omega) (by omega) X.below.size (fun v' w' h1 h2 => h v' w' ?_ ?_)
  · exact ⟨Rk.below_grown X.below h2 (fun k e => own_atT X.a e) (Nat.le_refl _), by rw [tks_append, List.length_append]; exact h1⟩
  · intro b T c hT hb
    refine (h2.block b hb.lt (fun e => ?_)).trans hb
    rcases X.a.2 with ⟨q, _⟩ | ⟨g, cap, cur, hv, _, hg, _⟩
    · rw [q] at e; cases e
    · rw [hv] at e
      have e : b = g := by simpa [Value.ownBlock] using e
      subst e
      rw [show W.heap[b]? = _ from hb] at hg
      injection hg with hg
      injection hg with _ hg _
      exact hT hg
/-- one token is put behind the call's own -/
theorem put_tok {w W : World} {ops : Array Oper} {rest : List Oper} {o : Oper} {a : Act} {Q : Exit → Act → World → Prop} (hgd : Region.wanted o (yielded ops a.tmps) = true) (s x : Operand)
    (ho : o.op = .call { callee := .builtin .append, args := #[s, x], argTypes := #[27, 27] })
    (V : Value) (L : List Tk) (X : OneT 44 w W V L) (hs : a.eval s = V) (g : Nat) (t : Tk) (hx : a.eval x = .slice (some ⟨g, 0, none⟩) 1 1) (c : Array Value) (hc : Blk W g 44 c) (hcv : c.toList = tkv t) (hL : L.length ≤ 1000000)
    (h : ∀ v' w', OneT 44 w w' v' (L ++ [t]) → (∀ b T c, ¬ T = 44 → Blk W b T c → Blk w' b T c) → wpList Tryd.prog ops Q rest (a.put o.dst v') w') : wpList Tryd.prog ops Q (o :: rest) a W := by
  refine put_toks hgd s x ho V L X hs _ [t] hx ⟨_, _, rfl, rfl, by intro u hu; simp [tks, tkv] at hu; rcases hu with rfl | rfl | rfl | rfl <;> rfl, .inr ⟨_, rfl, fun j u hj => ?_⟩⟩ hL (by simp) h
  have := hc.cell j
  rw [show (⟨g, 0, none⟩ : Addr).add j = ⟨g, j, none⟩ by unfold Addr.add; split <;> simp_all]
  rw [this, ← Array.getElem?_toList, hcv]
  simpa [tks] using hj

theorem tkl_take (l : List Nd) (k : Nat) (hk : k < l.length) : tkl (l.take (k + 1)) = tkl (l.take k) ++ (flatN l[k]).map tk0 := by
  rw [List.take_add_one, List.getElem?_eq_getElem hk]
  simp only [Option.toList]
  rw [tkl, flatL_snoc, List.map_append]
  rfl
theorem flat_parts (l : List Nd) (k : Nat) (hk : k < l.length) : (flatL (l.take k)).length + (flatN l[k]).length ≤ (flatL l).length := by
  have e : l = l.take k ++ l[k] :: l.drop (k + 1) := by rw [List.getElem_cons_drop, List.take_append_drop]
  have h : ∀ a b : List Nd, flatL (a ++ b) = flatL a ++ flatL b := by
    intro a b
    induction a with
    | nil => simp [flatL]
    | cons x a ih => simp [flatL, ih]
  have := congrArg (fun x => (flatL x).length) e
  simp only [h, flatL, List.length_append] at this
  omega

set_option maxRecDepth 100000 in
theorem flat_any (N : Nat) (hN : N ≤ 1000000) : ∀ (l : List Nd) (v : Value) (S : Nat → Prop) (w : World), countL l < N → (flatL l).length ≤ 100000 → NdsV S w v l → (∀ b, S b → b < w.heap.size) →
    Calls Tryd.prog 20 #[v] w fun e w' => ∃ u, e = .returned u ∧ OneT 44 w w' u (tkl l) := by
  induction N with
  | zero => intro l v S w h; omega
  | succ N ih =>
    intro l v S w hc hf hv hS
    have ih := ih (by omega)
    obtain ⟨ptr, cap, rfl, hl⟩ := hv
    have HL := Lib.hid hl
    have hlen := len_count l
    clear hl
    go_enter Tryd.func20, Tryd.ntmps20
    go_wp2_with fail
    go_loopw [3, 10] (fun V I wr => ∃ k : Nat, k ≤ l.length ∧ I = .int .i64 k ∧ OneT 44 w wr V (tkl (l.take k))) (fun _ I _ => l.length - (intOf I).toNat)
    case atStart => exact ⟨0, by omega, rfl, OneT.start _ _ (Below.refl _ _)⟩
    case round =>
      obtain ⟨k, hk, rfl, X⟩ := hrel
      by_cases hlt : k < l.length
      · obtain ⟨g, o, rfl, hfr⟩ := HL.out.resolve_left (by intro e; rw [e] at hlt; simp at hlt)
        have hn := hfr.get k hlt
        have hcn := count_mem l k hlt
        have hfp := flat_parts l k hlt
        have hft := Lib.hid (tkl_take l k hlt)
        obtain ⟨nm, a, ws, b, ks, he⟩ : ∃ nm a ws b ks, l[k] = Nd.mk nm a ws b ks := by
          cases h : l[k] with
          | mk nm a ws b ks => exact ⟨nm, a, ws, b, ks, rfl⟩
        rw [he] at hn hcn hfp hft
        simp only [NdAt] at hn
        simp only [countN] at hcn
        obtain ⟨h0, x0, x1, ⟨wv, x2, hwv⟩, x3, kp, kc, x4, hks⟩ := hn
        have lg := hS g h0
        have B1 := X.below
        have ck : ∀ W, Below w.heap.size w W → (flatL ks).length ≤ 100000 → Calls Tryd.prog 20 #[.slice kp ks.length kc] W fun e w' => ∃ u, e = .returned u ∧ OneT 44 W w' u (tkl ks) := fun W hB hq =>
          ih ks _ S W (by omega) hq (NdsV.kept (W := w) ⟨kp, kc, rfl, hks⟩ ((Stay.below hB).mono hS)) (fun b hb => Nat.lt_of_lt_of_le (hS b hb) hB.size)
        rw [Nat.mul_comm 5 k] at x0 x1 x2 x3 x4
        replace x0 := (B1.cell (p := ⟨g, _, none⟩) lg).trans x0
        replace x1 := (B1.cell (p := ⟨g, _, none⟩) lg).trans x1
        replace x2 := (B1.cell (p := ⟨g, _, none⟩) lg).trans x2
        replace x3 := (B1.cell (p := ⟨g, _, none⟩) lg).trans x3
        replace x4 := (B1.cell (p := ⟨g, _, none⟩) lg).trans x4
        obtain ⟨wp, wc, rfl, hw⟩ := hwv
        have HW := Lib.hid hw
        have hL1 : (tkl (l.take k)).length ≤ 100000 := by rw [tkl_len]; omega
        clear hks hfr ih he hw
        have lg' := Nat.lt_of_lt_of_le lg B1.size
        obtain ⟨L, hL⟩ : ∃ L, tkl (l.take k) = L := ⟨_, rfl⟩
        rw [hL] at X hft hL1
        go_wp2_with (first | (at_builtin; refine put_tok (w := w) (by go_simp) _ _ rfl _ L ((X.kept (balloc (Below.refl _ _) _)).kept (balloc (Below.refl _ _) _)) rfl _ ⟨1, 0, 0, nm⟩ rfl _ (Blk.at_ (by simp)) rfl (by omega) ?_))
        intro V2 w2 X2 hkeep
        have HB := hkeep _ _ _ (by decide) ((Blk.new wr 40 #[.string ⟨nm.toArray⟩, .int .i64 a, .slice wp ws.length wc, .bool b, .slice kp ks.length kc]).kept (balloc (Below.refl _ _) _))
        clear hkeep X x0 x1 x2 x3 x4
        have hbl := HB.lt
        have y0 := HB.cell 0
        have y2 := HB.cell 2
        have y3 := HB.cell 3
        have y4 := HB.cell 4
        simp at y0 y2 y3 y4
        have hws : ws.length ≤ 100000 := by simp [flatN] at hfp; omega
        have hL2 : L.length + (flatN (.mk nm a ws b ks)).length ≤ 100000 := by rw [← hL, tkl_len]; omega
        generalize wr.heap.size = nb at *
        go_wp2_with fail
        go_loopw [3, 23] (fun V J w3 => ∃ j : Nat, j ≤ ws.length ∧ J = .int .i64 j ∧ OneT 44 w w3 V (L ++ ([⟨1, 0, 0, nm⟩] ++ (ws.take j).map tkW)) ∧ Blk w3 nb 40 #[.string ⟨nm.toArray⟩, .int .i64 a, .slice wp ws.length wc, .bool b, .slice kp ks.length kc]) (fun _ J _ => ws.length - (intOf J).toNat)
        case atStart => exact ⟨0, by omega, rfl, by simpa using X2, HB⟩
        case round =>
          clear X2 HB
          obtain ⟨j, hj, rfl, Xj, HBj⟩ := hrel
          have hjl : (L ++ ([(⟨1, 0, 0, nm⟩ : Tk)] ++ (ws.take j).map tkW)).length ≤ 100000 := by
            simp [flatN] at hL2 ⊢
            omega
          by_cases hjt : j < ws.length
          · obtain ⟨gw, ow, rfl, hwf⟩ := HW.out.resolve_left (by intro e; rw [e] at hjt; simp at hjt)
            have hstep : Hid (L ++ ([⟨1, 0, 0, nm⟩] ++ (ws.take (j + 1)).map tkW) = (L ++ ([⟨1, 0, 0, nm⟩] ++ (ws.take j).map tkW)) ++ [tkW ws[j]]) := Lib.hid (by
              rw [List.take_add_one, List.getElem?_eq_getElem hjt, List.map_append]
              simp only [Option.toList, List.map_cons, List.map_nil, List.append_assoc])
            obtain ⟨hsw, w0, w1, w2', w3'⟩ := hwf.get j hjt
            have lgw := hS gw hsw
            have Bj := Xj.below
            rw [Nat.mul_comm 4 j] at w0 w1 w2' w3'
            replace w0 := (Bj.cell (p := ⟨gw, _, none⟩) lgw).trans w0
            replace w1 := (Bj.cell (p := ⟨gw, _, none⟩) lgw).trans w1
            replace w2' := (Bj.cell (p := ⟨gw, _, none⟩) lgw).trans w2'
            replace w3' := (Bj.cell (p := ⟨gw, _, none⟩) lgw).trans w3'
            have lgw' := Nat.lt_of_lt_of_le lgw Bj.size
            have hbj := HBj.lt
            generalize ws[j] = x at *
            obtain ⟨Lj, hLj⟩ : ∃ Lj, L ++ ([⟨1, 0, 0, nm⟩] ++ (ws.take j).map tkW) = Lj := ⟨_, rfl⟩
            rw [hLj] at hstep Xj hjl
            clear hwf hsw hLj Bj
            obtain ⟨xn, xi, xs, xa⟩ := x
            simp only at w0 w1 w2' w3'
            cases xn with
            | true =>
              rw [tkW_num] at hstep
              go_wp2_with (first | (at_builtin; refine put_tok (w := w) (by go_simp) _ _ rfl _ Lj ((Xj.kept (balloc (Below.refl _ _) _)).kept (balloc (Below.refl _ _) _)) rfl _ ⟨2, 0, xi, []⟩ rfl _ (Blk.at_ (by simp)) rfl (by omega) ?_))
              intro V3 w3 X3 hkeep
              have HB3 := hkeep _ _ _ (by decide) ((HBj.kept (balloc (Below.refl _ _) _)).kept (balloc (Below.refl _ _) _))
              clear hkeep Xj HBj
              go_wp2_with fail
              go_roundw
              case rel => exact ⟨j + 1, by omega, by go_num, by rw [hstep.out]; exact X3, HB3⟩
              case measure => simp [intOf]; omega
            | false =>
              rw [tkW_name] at hstep
              go_wp2_with (first | (at_builtin; refine put_tok (w := w) (by go_simp) _ _ rfl _ Lj ((Xj.kept (balloc (Below.refl _ _) _)).kept (balloc (Below.refl _ _) _)) rfl _ ⟨1, 0, 0, xs⟩ rfl _ (Blk.at_ (by simp)) rfl (by omega) ?_))
              intro V3 w3 X3 hkeep
              have HB3 := hkeep _ _ _ (by decide) ((HBj.kept (balloc (Below.refl _ _) _)).kept (balloc (Below.refl _ _) _))
              clear hkeep Xj HBj
              go_wp2_with fail
              go_roundw
              case rel => exact ⟨j + 1, by omega, by go_num, by rw [hstep.out]; exact X3, HB3⟩
              case measure => simp [intOf]; omega
          · obtain rfl : j = ws.length := by omega
            rw [List.take_length] at Xj
            have z3 := HBj.cell 3
            have z4 := HBj.cell 4
            simp at z3 z4
            have hbj := HBj.lt
            obtain ⟨Lj, hLj⟩ : ∃ Lj, L ++ ([⟨1, 0, 0, nm⟩] ++ ws.map tkW) = Lj := ⟨_, rfl⟩
            rw [List.take_length] at hjl
            rw [hLj] at Xj hjl
            have hmap : Hid (∀ r, (ws.map flatW).map tk0 ++ r = ws.map tkW ++ r) := Lib.hid (fun r => by simp [tkW])
            cases b with
            | false =>
              have hstep : Hid (tkl (l.take (k + 1)) = Lj ++ [⟨5, 0, 0, []⟩]) := Lib.hid (by
                rw [hft.out, ← hLj]
                simp only [flatN, List.map_append, List.map_cons, Bool.false_eq_true, if_false, List.append_assoc, List.cons_append, List.nil_append]
                simp [tkW, tk0])
              clear hft hmap hLj ck hL2 hfp
              go_wp2_with (first | (at_builtin; refine put_tok (w := w) (by go_simp) _ _ rfl _ Lj (Xj.kept (balloc (Below.refl _ _) _)) rfl _ ⟨5, 0, 0, []⟩ rfl _ (Blk.at_ (by simp)) rfl (by omega) ?_))
              intro V3 w3 X3 hkeep
              clear hkeep Xj HBj
              go_wp2_with fail
              go_roundw
              case rel => exact ⟨k + 1, by omega, by go_num, by rw [hstep.out]; exact X3⟩
              case measure => simp [intOf]; omega
            | true =>
              have hstep : Hid (tkl (l.take (k + 1)) = Lj ++ [⟨3, 0, 0, []⟩] ++ tkl ks ++ [⟨4, 0, 0, []⟩]) := Lib.hid (by
                rw [hft.out, ← hLj]
                simp only [flatN, tkl, List.map_append, List.map_cons, if_true, List.append_assoc, List.cons_append, List.nil_append]
                simp [tkW, tk0])
              have hkl : (flatL ks).length ≤ 100000 := by simp [flatN] at hL2; omega
              have hkl2 : (tkl ks).length ≤ 100000 := by rw [tkl_len]; exact hkl
              clear hft hmap hLj hL2 hfp
              go_wp2_with (first | (at_builtin; refine put_tok (w := w) (by go_simp) _ _ rfl _ Lj (Xj.kept (balloc (Below.refl _ _) _)) rfl _ ⟨3, 0, 0, []⟩ rfl _ (Blk.at_ (by simp)) rfl (by omega) ?_))
              intro V3 w3 X3 hkeep
              have HB3 := hkeep _ _ _ (by decide) (HBj.kept (balloc (Below.refl _ _) _))
              have v4 := HB3.cell 4
              simp at v4
              clear hkeep Xj HBj z3 z4 HB3
              go_wp2_with fail
              refine (ck _ X3.below hkl).mono ?_
              rintro e w4 ⟨u, rfl, OK⟩
              have X4 := X3.kept OK.below
              have HK : Holds w4 4 u (tkl ks).length (tks (tkl ks)) := Holds.of_own OK.a
              clear X3 ck v4
              go_wp2_with (first | (at_builtin; refine put_toks (w := w) (by go_simp) _ _ rfl _ _ X4 rfl u (tkl ks) rfl HK (by simp; omega) (by omega) ?_))
              intro V5 w5 X5 _
              clear X4 HK OK
              have hl5 : (Lj ++ (⟨3, 0, 0, []⟩ : Tk) :: tkl ks).length ≤ 1000000 := by simp; omega
              go_wp2_with (first | (at_builtin; refine put_tok (w := w) (by go_simp) _ _ rfl _ _ (X5.kept (balloc (Below.refl _ _) _)) rfl _ ⟨4, 0, 0, []⟩ rfl _ (Blk.at_ (by simp)) rfl hl5 ?_))
              intro V6 w6 X6 _
              clear X5
              go_wp2_with fail
              go_roundw
              case rel => exact ⟨k + 1, by omega, by go_num, by rw [hstep.out]; simpa using X6⟩
              case measure => simp [intOf]; omega
      · obtain rfl : k = l.length := by omega
        rw [List.take_length] at X
        obtain ⟨p, c, rfl⟩ := X.form
        go_wp2_with fail
        go_ret
        exact ⟨_, rfl, X⟩

end Go.Proofs.YtjebdoecigmkhaaDoor.Yl
