/- LexPlaces, walked. -/
import Derived.Test.YtknecagkgegclaaDoorZlexb
namespace Go.Proofs.YtknecagkgegclaaDoor.Zl
set_option linter.unusedSimpArgs false
set_option linter.unusedVariables false
open Go.RowKit Go.Proofs.YtknecagkgegclaaDoor.Zm Go.Proofs.YtknecagkgegclaaDoor.Zr Go.Proofs.YtknecagkgegclaaDoor.Zp Go.Proofs.YtknecagkgegclaaDoor.Zk Go.Proofs.YtknecagkgegclaaDoor.Bn

set_option maxHeartbeats 1000000

set_option maxRecDepth 100000 in
theorem free_any (s : ByteArray) (v : Bool) (w : World) (hm : s.size ≤ 1000000) (hv : Hid (freeB false (by_ s) = v)) :
    Calls Tryd.prog 24 #[.string s] w fun e w' => e = .returned (.bool v) ∧ Below w.heap.size w w' := by
  go_enter Tryd.func24, Tryd.ntmps24
  go_wp2_with fail
  go_loopw [3, 7] (fun X I wr => ∃ (x : Bool) (k : Nat), k ≤ s.size ∧ X = .bool x ∧ I = .int .i64 k ∧ wr = w ∧ Hid (freeB x ((by_ s).drop k) = v)) (fun _ I _ => s.size - (intOf I).toNat)
  case atStart => exact ⟨false, 0, by omega, rfl, rfl, rfl, Lib.hid (by rw [List.drop_zero]; exact hv.out)⟩
  case round =>
    obtain ⟨x, k, hk, rfl, rfl, rfl, HX⟩ := hrel
    by_cases hlt : k < s.size
    · have hd := drop_at s k hlt
      have hx := HX.out
      rw [hd, freeB] at hx
      by_cases h10 : s[k].toNat = 10
      · have e1 : ((s[k].toNat : Int) == 10) = true := beq_iff_eq.2 (by omega)
        rw [if_pos h10] at hx
        have HN := Lib.hid hx
        clear hx hd HX h10
        go_wp2_with fail
        go_roundw
        case rel => exact ⟨false, k + 1, by omega, rfl, by go_num, by simp, HN⟩
        case measure => simp [intOf]; omega
      have e1 : ((s[k].toNat : Int) == 10) = false := beq_eq_false_iff_ne.2 (by omega)
      rw [if_neg h10] at hx
      by_cases h35 : s[k].toNat = 35
      · have e2 : ((s[k].toNat : Int) == 35) = true := beq_iff_eq.2 (by omega)
        rw [if_pos h35] at hx
        have HN := Lib.hid hx
        clear hx hd HX h10 h35
        go_wp2_with fail
        go_roundw
        case rel => exact ⟨true, k + 1, by omega, rfl, by go_num, by simp, HN⟩
        case measure => simp [intOf]; omega
      have e2 : ((s[k].toNat : Int) == 35) = false := beq_eq_false_iff_ne.2 (by omega)
      rw [if_neg h35] at hx
      obtain ⟨b2, e3⟩ : ∃ b, ((s[k].toNat : Int) != 32) = b := ⟨_, rfl⟩
      obtain ⟨b3, e4⟩ : ∃ b, ((s[k].toNat : Int) != 9) = b := ⟨_, rfl⟩
      have hcond : (x = false ∧ s[k].toNat ≠ 32 ∧ s[k].toNat ≠ 9) ↔ (x = false ∧ b2 = true ∧ b3 = true) := by
        rw [← e3, ← e4, bne_iff_ne, bne_iff_ne]
        constructor
        · rintro ⟨h1, h2, h3⟩; exact ⟨h1, by omega, by omega⟩
        · rintro ⟨h1, h2, h3⟩; exact ⟨h1, by omega, by omega⟩
      simp only [hcond] at hx
      clear hcond hd HX h10 h35
      cases x with
      | true =>
        have HN : Hid (freeB true ((by_ s).drop (k + 1)) = v) := Lib.hid (by simpa using hx)
        clear hx
        go_wp2_with fail
        go_roundw
        case rel => exact ⟨true, k + 1, by omega, rfl, by go_num, by simp, HN⟩
        case measure => simp [intOf]; omega
      | false =>
        cases b2 with
        | false =>
          have HN : Hid (freeB false ((by_ s).drop (k + 1)) = v) := Lib.hid (by simpa using hx)
          clear hx
          go_wp2_with fail
          go_roundw
          case rel => exact ⟨false, k + 1, by omega, rfl, by go_num, by simp, HN⟩
          case measure => simp [intOf]; omega
        | true =>
          cases b3 with
          | false =>
            have HN : Hid (freeB false ((by_ s).drop (k + 1)) = v) := Lib.hid (by simpa using hx)
            clear hx
            go_wp2_with fail
            go_roundw
            case rel => exact ⟨false, k + 1, by omega, rfl, by go_num, by simp, HN⟩
            case measure => simp [intOf]; omega
          | true =>
            have HN : Hid (v = false) := Lib.hid (by simpa using hx.symm)
            clear hx
            go_wp2_with fail
            go_ret
            exact ⟨by rw [HN.out]; rfl, Below.refl _ _⟩
    · have HN : Hid (v = true) := Lib.hid (by rw [← HX.out, List.drop_eq_nil_of_le (by rw [by_len]; omega)]; cases x <;> rfl)
      clear HX
      go_wp2_with fail
      go_ret
      exact ⟨by rw [HN.out]; rfl, Below.refl _ _⟩

theorem one_tok (W : World) (k a n : Int) (s : ByteArray) : TokAt (W.alloc (.cells #[.int .i64 k, .int .i64 a, .int .i64 n, .string s] 34)) (.slice (some ⟨W.heap.size, 0, none⟩) 1 1) 1 (fun _ => ⟨k, a, n, s⟩) := by
  refine ⟨_, _, rfl, .inr ⟨W.heap.size, 0, rfl, by simp, fun i hi => ?_⟩⟩
  obtain rfl : i = 0 := by omega
  simp [go_sem]

theorem text_pos {t : Tk} {l : List UInt8} {e : Nat} {a : List Tk} (h : Places l e (t :: a)) : 1 ≤ (text t).length := by
  obtain ⟨_, _, _, _, h, _⟩ := h; exact h

set_option maxRecDepth 100000 in
theorem places_walk (s : ByteArray) (w : World) (hm : s.size ≤ maxLen) (tb : Pows w) :
    Calls Tryd.prog 6 #[.string s] w fun e w' => e = .returned (.bool true) ∧ Below w.heap.size w w' := by
  have cl := fun w => zlive_ok w
  have hm' := hm
  unfold maxLen at hm
  by_cases h4 : 400 < s.size
  · have d1 : decide ((400 : Int) < (s.size : Int)) = true := decide_eq_true (by omega)
    clear h4
    go_enter Tryd.func6, Tryd.ntmps6
    go_wp2_with fail
    refine (cl _).mono ?_
    rintro e w1 ⟨rfl, hb⟩
    go_wp2_with fail
    go_ret
    exact ⟨rfl, hb⟩
  have d1 : decide ((400 : Int) < (s.size : Int)) = false := decide_eq_false (by omega)
  have hs4 : s.size ≤ 400 := by omega
  clear h4
  obtain ⟨R, hR⟩ : ∃ R, cutR s = R := ⟨_, rfl⟩
  have cc := fun w => Cut_any s w R hm' (Lib.hid hR)
  have hcut : cut (by_ s) 0 0 = R := by rw [← hR, cutR, if_neg (by omega)]
  cases R with
  | error x =>
    obtain ⟨er, q⟩ := x
    have d3 : ((er : Int) != 0) = true := by rcases err_ne hR with rfl | rfl <;> rfl
    obtain ⟨j, hj, hq, _⟩ := cut_ahead _ _ _ _ _ _ (Nat.le_refl _) hcut
    rw [by_len] at hj
    have hqs : q < s.size := by omega
    clear hcut hR hm' hq hj
    go_enter Tryd.func6, Tryd.ntmps6
    go_wp2_with fail
    refine (cl _).mono ?_
    rintro e w1 ⟨rfl, hb⟩
    go_wp2_with fail
    refine (cc _).mono ?_
    rintro e w2 ⟨rfl, hb2⟩
    have B := bthen hb hb2
    go_wp2_with fail
    go_ret
    exact ⟨by simp <;> omega, B⟩
  | ok a =>
    have hpl := cut_places _ _ _ _ _ (Nat.le_refl _) hcut
    obtain ⟨ha1, ha2, _⟩ := cut_tokens _ _ _ _ _ (Nat.le_refl _) hcut
    rw [by_len] at ha2
    have HA : Hid (∀ t ∈ a, Fine t) := Lib.hid (fun t ht => (ha1 t ht).1)
    have HP0 := Lib.hid hpl
    clear hcut hR hm' hpl ha1
    go_enter Tryd.func6, Tryd.ntmps6
    go_wp2_with fail
    refine (cl _).mono ?_
    rintro e w1 ⟨rfl, hb⟩
    go_wp2_with fail
    refine (cc _).mono ?_
    rintro e w2 ⟨v, rfl, hO⟩
    have B2 := bthen hb hO.below
    have T2 := TokAt.of_own hO
    obtain ⟨ptr, cap, rfl⟩ := hO.form
    clear cl cc hb hO
    obtain ⟨ptr', cap', he, hT⟩ := T2
    injection he with he1 he2 he3
    subst he1; subst he3
    have HT := Lib.hid hT
    clear hT
    go_wp2_with fail
    go_loopw [6, 40] (fun E I wr => ∃ e k : Nat, e ≤ s.size ∧ k ≤ a.length ∧ E = .int .i64 e ∧ I = .int .i64 k ∧ Below w2.heap.size w2 wr ∧ Hid (Places ((by_ s).drop e) e (a.drop k))) (fun _ I _ => a.length - (intOf I).toNat)
    case atStart => exact ⟨0, 0, by omega, by omega, rfl, rfl, Below.refl _ _, Lib.hid (by simpa using HP0.out)⟩
    case round =>
      obtain ⟨e, k, he, hk, rfl, rfl, hB, HP⟩ := hrel
      by_cases hlt : k < a.length
      · obtain ⟨g, o, rfl, lg, hc⟩ := HT.out.resolve_left (by omega)
        have hak : a.getD k ⟨0, 0, 0, []⟩ = a[k] := by simp [List.getD, hlt]
        obtain ⟨x0, x1, x2, x3⟩ := hc k hlt
        rw [hak] at x0 x1 x2 x3
        have hf := HA.out a[k] (List.getElem_mem _)
        have hp := HP.out
        rw [List.drop_eq_getElem_cons hlt] at hp
        generalize a[k] = t at *
        clear hak hc
        have hwf := fine_tkI hf
        have hwk := wf_own (a := [t]) (by intro u hu; rw [List.mem_singleton.1 hu]; exact hf) (by simp) 0 (by simp)
        obtain ⟨j, hta, hfr, hlen, h1, htk, hrest⟩ := hp
        rw [List.length_drop, by_len] at hlen
        obtain ⟨p, hpj⟩ : ∃ p, e + j = p := ⟨_, rfl⟩
        obtain ⟨L, hL⟩ : ∃ L, (text t).length = L := ⟨_, rfl⟩
        obtain ⟨q, hq⟩ : ∃ q, p + L = q := ⟨_, rfl⟩
        rw [hL] at hlen h1
        have hep : e ≤ p := by omega
        have hqs : q ≤ s.size := by omega
        have hpq : p ≤ q := by omega
        obtain ⟨U, hU⟩ : ∃ U : ByteArray, U = ⟨(text t).toArray⟩ := ⟨_, rfl⟩
        have hUs : U.size = L := by rw [hU, ← hL]; simp [ByteArray.size]
        have hUl : U.size ≤ 1000 := by omega
        obtain ⟨U', hU', hUs', hsl⟩ := slice_mid s p q hpq hqs
        have hUU : U' = U := by
          have e2 := htk
          rw [List.drop_drop, hpj, hL] at e2
          rw [of_by hU', hU, show q - p = L by omega, e2]
        rw [hUU] at hsl
        obtain ⟨F, hF, hFs, hsf⟩ := slice_mid s e p hep (by omega)
        have cf := fun w => free_any F true w (by omega) (Lib.hid (by rw [hF, show p - e = j by omega]; exact hfr))
        have S1 : IntKind.i64.wrap ((p : Int) + (U.size : Int)) = (q : Int) := by rw [IntWalk.i64_in _ (by omega)]; omega
        have HN : Hid (Places ((by_ s).drop q) q (a.drop (k + 1))) := Lib.hid (by
          have := hrest
          rw [List.drop_drop, hL, show e + (j + L) = q by omega, show e + j + L = q by omega] at this
          exact this)
        have hta' : (t.a : Int) = (p : Int) := by omega
        have HV : Hid (tkI t = ⟨(t.k : Int), (p : Int), (t.n : Int), ⟨t.s.toArray⟩⟩) := Lib.hid (by simp [tkI, hta'])
        have cj := fun W T P => Join_any (.slice (some ⟨(wr.alloc (.cells #[.int .i64 (t.k : Int), .int .i64 (p : Int), .int .i64 (t.n : Int), .string ⟨t.s.toArray⟩] 34)).heap.size, 0, none⟩) 1 1) 1 (fun _ => ⟨(t.k : Int), (p : Int), (t.n : Int), ⟨t.s.toArray⟩⟩) (text t) 0 W T P (by omega) (Lib.hid (fun i hi => by
          rw [← HV.out]; simpa using hwk)) (Lib.hid (.inr ⟨by omega, fun i hi => by show FineI _; rw [← HV.out]; exact hwf, .inr ⟨rfl, by
            have : toks (fun _ => (⟨(t.k : Int), (p : Int), (t.n : Int), ⟨t.s.toArray⟩⟩ : TkI)) 1 = [tokN (tkI t)] := by rw [HV.out]; simp [toks]
            rw [this, tokN_tkI]; rfl, by omega⟩⟩))
        rw [← hU] at cj
        replace x0 := (hB.cell (p := ⟨g, _, none⟩) lg).trans x0
        replace x1 := (hB.cell (p := ⟨g, _, none⟩) lg).trans x1
        replace x2 := (hB.cell (p := ⟨g, _, none⟩) lg).trans x2
        replace x3 := (hB.cell (p := ⟨g, _, none⟩) lg).trans x3
        simp only [tkI] at x0 x1 x2 x3
        rw [hta'] at x1
        have lg' := Nat.lt_of_lt_of_le lg hB.size
        clear hta hta' hfr hlen h1 htk hrest hpj hL hq hU hUs hU' hUs' hUU hF hFs hf hwf hwk HP HV
        generalize (t.k : Int) = tk at *
        generalize (t.n : Int) = tn at *
        generalize (⟨t.s.toArray⟩ : ByteArray) = ts at *
        have Tk1 := one_tok (wr.alloc (.cells #[.int .i64 tk, .int .i64 (p : Int), .int .i64 tn, .string ts] 34)) tk p tn ts
        have BX := ((Box.new wr #[.int .i64 tk, .int .i64 (p : Int), .int .i64 tn, .string ts] 34).alloc (.cells #[.int .i64 tk, .int .i64 (p : Int), .int .i64 tn, .string ts] 34))
        have BB : Below w2.heap.size w2 ((wr.alloc (.cells #[.int .i64 tk, .int .i64 (p : Int), .int .i64 tn, .string ts] 34)).alloc (.cells #[.int .i64 tk, .int .i64 (p : Int), .int .i64 tn, .string ts] 34)) := balloc (balloc hB _) _
        have PP := tb.kept (bthen B2 BB)
        have c1 := cj _ Tk1 PP
        simp only [World.size_alloc] at c1
        clear cj Tk1 PP
        go_wp2_with fail
        refine c1.mono ?_
        rintro e0 w3 ⟨rfl, hb3⟩
        replace BX := BX.kept (by simpa only [World.size_alloc] using hb3)
        replace BB := bthen BB (by simpa only [World.size_alloc] using hb3)
        obtain ⟨_, b0, b1, b2, b3, _⟩ := id BX.four
        have dP : decide (p < e) = false := decide_eq_false (by omega)
        have dQ : decide (s.size < q) = false := decide_eq_false (by omega)
        clear c1 hb3 x0 x1 x2 x3
        go_wp2_with fail
        refine (cf _).mono ?_
        rintro e0 w4 ⟨rfl, hb4⟩
        replace BX := BX.kept hb4
        replace BB := bthen BB hb4
        clear b0 b1 b2 b3 cf hb4
        obtain ⟨_, b0, b1, b2, b3, _⟩ := id BX.four
        clear BX
        go_wp2_with fail
        go_roundw
        case rel => exact ⟨q, k + 1, by omega, by omega, by go_num, by go_num, BB, HN⟩
        case measure => simp [intOf]; omega
      · obtain rfl : k = a.length := by omega
        obtain ⟨F, hF, hFs, hsf⟩ := slice_from s e he
        have hp := HP.out
        rw [List.drop_length] at hp
        have cf := fun w => free_any F true w (by omega) (Lib.hid (by rw [hF]; exact hp))
        clear hp HP hF hFs
        go_wp2_with fail
        refine (cf _).mono ?_
        rintro e w3 ⟨rfl, hb3⟩
        go_wp2_with fail
        go_ret
        exact ⟨rfl, bthen (bthen B2 hB) hb3⟩

end Go.Proofs.YtknecagkgegclaaDoor.Zl
