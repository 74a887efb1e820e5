/- The reference's Join of layer 8. -/
import Derived.Test.YtknecagkgegclaaDoorZrtext
import Derived.Test.YtknecagkgegclaaDoorZahead
namespace Go.Proofs.YtknecagkgegclaaDoor.Zr
set_option linter.unusedSimpArgs false
set_option linter.unusedVariables false
open Go.RowKit Go.Proofs.YtknecagkgegclaaDoor.Zm Go.Proofs.YtknecagkgegclaaDoor.Zk Go.Proofs.YtknecagkgegclaaDoor.Zp Go.Proofs.YtknecagkgegclaaDoor.Zl Go.Proofs.YtknecagkgegclaaDoor.Bn

set_option maxHeartbeats 2000000

theorem by_inj {a : ByteArray} {l : List UInt8} (h : by_ a = l) : a = ⟨l.toArray⟩ := by
  apply ByteArray.ext
  rw [← h]

set_option maxRecDepth 100000 in
theorem rJoin_any (v : Value) (n : Nat) (z : Nat → TkI) (t : List UInt8) (er : Nat) (w : World) (T : TokAt w v n z) (hn : n ≤ 1000000) (hW : Hid (∀ i, i < n → (z i).n ≤ 9223372036854775807 ∧ (z i).s.size ≤ maxLen)) (hJ : Hid (JoinIs n z t er)) :
    Calls Tryd.prog 22 #[v] w fun e w' => e = .returned (.tuple #[.string ⟨t.toArray⟩, .int .i64 er]) ∧ Below w.heap.size w w' := by
  obtain ⟨ptr, cap, rfl, hT⟩ := T
  by_cases h81 : 8192 < n
  · have d1 : decide ((8192 : Int) < (n : Int)) = true := decide_eq_true (by omega)
    obtain ⟨rfl, rfl⟩ := hJ.out.bad (.inl h81)
    clear h81 hT hW hJ
    go_enter Tryd.func22, Tryd.ntmps22
    go_wp2_with fail
    go_ret2
    exact ⟨rfl, Below.refl _ _⟩
  have d1 : decide ((8192 : Int) < (n : Int)) = false := decide_eq_false (by omega)
  have hn8 : n ≤ 8192 := by omega
  have HT := Lib.hid hT
  clear h81 hT
  go_enter Tryd.func22, Tryd.ntmps22
  go_wp2_with fail
  go_loopw [4, 14] (fun S I wr => ∃ k : Nat, k ≤ n ∧ I = .int .i64 k ∧ ∃ s0 : ByteArray, S = .string s0 ∧ Hid (by_ s0 = join (toks z k)) ∧ Below w.heap.size w wr ∧ Hid (∀ i, i < k → FineI (z i))) (fun _ I _ => n - (intOf I).toNat)
  case atStart => exact ⟨0, by omega, rfl, ⟨#[]⟩, rfl, Lib.hid rfl, Below.refl _ _, Lib.hid (fun i hi => absurd hi (by omega))⟩
  case round =>
    obtain ⟨k, hk, rfl, s0, rfl, HS0, B1, HF⟩ := hrel
    by_cases hlt : k < n
    · obtain ⟨g, o, rfl, lg, hc⟩ := HT.out.resolve_left (by omega)
      obtain ⟨x0, x1, x2, x3⟩ := hc k hlt
      replace x0 := (B1.cell (p := ⟨g, _, none⟩) lg).trans x0
      replace x1 := (B1.cell (p := ⟨g, _, none⟩) lg).trans x1
      replace x2 := (B1.cell (p := ⟨g, _, none⟩) lg).trans x2
      replace x3 := (B1.cell (p := ⟨g, _, none⟩) lg).trans x3
      obtain ⟨wk, ws⟩ := hW.out k hlt
      have HZ : Hid (z k = ⟨(z k).k, (z k).a, (z k).n, (z k).s⟩) := Lib.hid rfl
      generalize (z k).k = xk at *
      generalize (z k).a = xa at *
      generalize (z k).n = xn at *
      generalize (z k).s = xs at *
      clear hc
      have lg' := Nat.lt_of_lt_of_le lg B1.size
      by_cases hf : FineI ⟨xk, xa, xn, xs⟩
      · have ct := fun w => rtext_any xk xa xn xs true w ws wk (Lib.hid (by simp [hf]))
        have HF2 : Hid (∀ i, i < k + 1 → FineI (z i)) := Lib.hid (fun i hi => by
          rcases Nat.lt_or_ge i k with q | q
          · exact HF.out i q
          · obtain rfl : i = k := by omega
            rw [HZ.out]; exact hf)
        have hl0 : s0.size ≤ 17 * 8192 := by
          have h1 := join_len (toks z k) (toks_fine (fun i hi => HF2.out i (by omega)))
          rw [toks_len] at h1
          rw [← by_len, HS0.out]
          omega
        clear HF
        have hst := text_len hf.fine
        have hsz : (⟨(text (tokN ⟨xk, xa, xn, xs⟩)).toArray⟩ : ByteArray).size = (text (tokN ⟨xk, xa, xn, xs⟩)).length := by simp [ByteArray.size]
        have HS : Hid ((⟨(text (tokN ⟨xk, xa, xn, xs⟩)).toArray⟩ : ByteArray).size ≤ 16 ∧ by_ (⟨(text (tokN ⟨xk, xa, xn, xs⟩)).toArray⟩ : ByteArray) = text (tokN ⟨xk, xa, xn, xs⟩)) := Lib.hid ⟨by rw [hsz]; exact hst, by simp [by_]⟩
        clear hst hsz hf
        by_cases hk0 : k = 0
        · have d0 : decide (0 < k) = false := decide_eq_false (by omega)
          have H0 := Lib.hid hk0
          clear hk0
          go_wp2_with fail
          refine (ct _).mono ?_
          rintro e w2 ⟨u, rfl, hu, hb⟩
          have hu' := hu rfl
          have B2 := bthen (balloc B1 _) hb
          have hus : u.size ≤ 16 := by rw [hu']; exact HS.out.1
          have hub : by_ u = text (tokN ⟨xk, xa, xn, xs⟩) := by rw [hu']
          obtain ⟨u2, hu2, zu2, eu2⟩ := sum_two s0 u (by omega) (by omega)
          have HN : Hid (by_ u2 = join (toks z (k + 1))) := Lib.hid (by
            have h0 := HS0.out
            rw [hu2, join_succ, HZ.out, if_pos H0.out, hub, h0, H0.out]; rfl)
          clear hu hu' hb hus hub hu2 zu2 HS HS0 ct
          go_wp2_with fail
          go_roundw
          case rel => exact ⟨k + 1, by omega, by go_num, u2, rfl, HN, B2, HF2⟩
          case measure => simp [intOf]; omega
        · have d0 : decide (0 < k) = true := decide_eq_true (by omega)
          have H0 := Lib.hid hk0
          clear hk0
          go_wp2_with fail
          refine (ct _).mono ?_
          rintro e w2 ⟨u, rfl, hu, hb⟩
          have hu' := hu rfl
          have B2 := bthen (balloc B1 _) hb
          have hus : u.size ≤ 16 := by rw [hu']; exact HS.out.1
          have hub : by_ u = text (tokN ⟨xk, xa, xn, xs⟩) := by rw [hu']
          obtain ⟨u1, hu1, zu1, eu1⟩ := sum_two s0 ⟨#[32]⟩ (by omega) (by decide)
          have z32 : (⟨#[32]⟩ : ByteArray).size = 1 := rfl
          obtain ⟨u2, hu2, zu2, eu2⟩ := sum_two u1 u (by omega) (by omega)
          have HN : Hid (by_ u2 = join (toks z (k + 1))) := Lib.hid (by
            have h0 := HS0.out
            rw [hu2, hu1, join_succ, HZ.out, if_neg H0.out, hub, h0]
            simp [by_])
          clear hu hu' hb hus hub hu2 zu2 hu1 zu1 z32 HS HS0 ct
          go_wp2_with fail
          go_roundw
          case rel => exact ⟨k + 1, by omega, by go_num, u2, rfl, HN, B2, HF2⟩
          case measure => simp [intOf]; omega
      · have ct := fun w => rtext_any xk xa xn xs false w ws wk (Lib.hid (by simp [hf]))
        obtain ⟨rfl, rfl⟩ := hJ.out.bad (.inr ⟨k, hlt, by rw [HZ.out]; exact hf⟩)
        clear hf
        go_wp2_with fail
        refine (ct _).mono ?_
        rintro e w2 ⟨u, rfl, hu, hb⟩
        have B2 := bthen (balloc B1 _) hb
        clear hu
        go_wp2_with fail
        go_ret2
        exact ⟨rfl, B2⟩
    · obtain rfl : k = n := by omega
      have hJ' := hJ.out
      have hl := by_len s0
      rw [HS0.out] at hl
      have hf := HF.out
      by_cases h65 : 65536 < s0.size
      · have d5 : decide ((65536 : Int) < (s0.size : Int)) = true := decide_eq_true (by omega)
        have hte : t = [] ∧ er = 6 := by
          rcases hJ' with ⟨h1, h2, h3⟩ | ⟨h1, h2, ⟨h3, h4, _⟩ | ⟨h3, h4, h5⟩⟩
          · rcases h3 with h3 | ⟨i, hi, h3⟩
            · omega
            · exact absurd (hf i hi) h3
          · exact ⟨h4, h3⟩
          · rw [← h4] at hl; omega
        obtain ⟨rfl, rfl⟩ := hte
        clear hJ' hl hf HF h65 hJ
        go_wp2_with fail
        go_ret2
        exact ⟨rfl, B1⟩
      · have d5 : decide ((65536 : Int) < (s0.size : Int)) = false := decide_eq_false (by omega)
        have hte : t = join (toks z k) ∧ er = 0 := by
          rcases hJ' with ⟨h1, h2, h3⟩ | ⟨h1, h2, ⟨h3, h4, h5⟩ | ⟨h3, h4, h5⟩⟩
          · rcases h3 with h3 | ⟨i, hi, h3⟩
            · omega
            · exact absurd (hf i hi) h3
          · omega
          · exact ⟨h4, h3⟩
        obtain ⟨h4, rfl⟩ := hte
        have hs0 : Hid (s0 = ⟨t.toArray⟩) := Lib.hid (by_inj (HS0.out.trans h4.symm))
        clear hJ' hl hf HF h65 hJ h4
        go_wp2_with fail
        go_ret2
        exact ⟨by rw [← hs0.out]; rfl, B1⟩

end Go.Proofs.YtknecagkgegclaaDoor.Zr
