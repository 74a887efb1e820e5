/- What Same of package tree comes to, for any items. -/
import Derived.Test.YtjebdoecigmkhaaDoorYgen
import Derived.Test.YtjebdoecigmkhaaDoorJK
import Derived.Test.YtjebdoecigmkhaaDoorProg
import Derived.BigRegion
import Derived.Deep.CutRange
namespace Go.Proofs.YtjebdoecigmkhaaDoor.Yg
set_option linter.unusedSimpArgs false
set_option linter.unusedVariables false
open Go Go.RowKit Go.Proofs.YtjebdoecigmkhaaDoor.Zm Go.Proofs.YtjebdoecigmkhaaDoor.Ym Go.Proofs.YtjebdoecigmkhaaDoor.Bn

set_option maxHeartbeats 2000000

def stw (x : WI) : Bool × Int × ByteArray := (x.num, x.n, x.s)
mutual
def SameN : NI → NI → Prop
  | .mk nm _ ws b ks, .mk nm' _ ws' b' ks' => nm = nm' ∧ b = b' ∧ ws.map stw = ws'.map stw ∧ SameL ks ks'
def SameL : List NI → List NI → Prop
  | [], m => m = []
  | n :: l, m => ∃ x k, m = x :: k ∧ SameN n x ∧ SameL l k
end
theorem sameL_iff (l m : List NI) : SameL l m ↔ l.length = m.length ∧ ∀ i (h1 : i < l.length) (h2 : i < m.length), SameN l[i] m[i] := by
  induction l generalizing m with
  | nil =>
    simp only [SameL]
    constructor
    · rintro rfl; exact ⟨rfl, fun i h => by simp at h⟩
    · rintro ⟨h, _⟩; exact List.eq_nil_of_length_eq_zero (by simpa using h.symm)
  | cons n l ih =>
    simp only [SameL]
    constructor
    · rintro ⟨x, k, rfl, h1, h2⟩
      obtain ⟨e, h3⟩ := (ih k).1 h2
      refine ⟨by simp [e], fun i q1 q2 => ?_⟩
      cases i with
      | zero => exact h1
      | succ i => exact h3 i (by simpa using q1) (by simpa using q2)
    · rintro ⟨e, h⟩
      cases m with
      | nil => simp at e
      | cons x k => exact ⟨x, k, rfl, h 0 (by simp) (by simp), (ih k).2 ⟨by simpa using e, fun i q1 q2 => h (i + 1) (by simpa using q1) (by simpa using q2)⟩⟩
theorem stw_iff (l m : List WI) : l.map stw = m.map stw ↔ l.length = m.length ∧ ∀ i (h1 : i < l.length) (h2 : i < m.length), stw l[i] = stw m[i] := by
  constructor
  · intro h
    have e : l.length = m.length := by simpa using congrArg List.length h
    refine ⟨e, fun i h1 h2 => ?_⟩
    have := congrArg (fun x => x[i]?) h
    simpa [h1, h2] using this
  · rintro ⟨e, h⟩
    apply List.ext_getElem
    · simpa using e
    · intro i h1 h2
      simpa using h i (by simpa using h1) (by simpa using h2)

theorem wd_eql (p p' : Bool) (n n' a : Int) (s s' : ByteArray) (w : World) :
    (binOp .eql 42 (.agg #[.bool p, .int .i64 n, .string s, .int .i64 a]) (.agg #[.bool p', .int .i64 n', .string s', .int .i64 a])).run Tryd.prog w = .ok (.bool (decide (p = p' ∧ n = n' ∧ s = s'))) w := by
  by_cases h1 : p = p'
  · by_cases h3 : n = n'
    · by_cases h4 : s = s'
      · subst h1 h3 h4; simp [go_sem]
      · simp [go_sem, h1, h3, h4]; intro e; exact h4 (by rw [ByteArray.toList_eq, ByteArray.toList_eq] at e; exact ByteArray.ext (Array.toList_inj.1 e))
    · simp [go_sem, h1, h3]
  · simp [go_sem, h1]

set_option maxRecDepth 100000 in
theorem sameWord_any (x y : WI) (w : World) (r : Bool) (hr : Hid (r = true ↔ stw x = stw y)) : Calls Tryd.prog 65 #[.agg #[.bool x.num, .int .i64 x.n, .string x.s, .int .i64 x.a], .agg #[.bool y.num, .int .i64 y.n, .string y.s, .int .i64 y.a]] w fun e w' => e = .returned (.bool r) ∧ Below w.heap.size w w' := by
  obtain ⟨p, n, s, a⟩ := x
  obtain ⟨p', n', s', a'⟩ := y
  have e : decide (p = p' ∧ n = n' ∧ s = s') = r := by
    cases r with
    | true =>
      have := hr.out.1 rfl
      simp only [stw, Prod.mk.injEq] at this
      exact decide_eq_true this
    | false =>
      refine decide_eq_false (fun q => ?_)
      have := hr.out.2 (by simp only [stw, Prod.mk.injEq]; exact q)
      cases this
  have q := fun w => wd_eql p p' n n' a' s s' w
  rw [e] at q
  clear hr e
  go_enter Tryd.func65, Tryd.ntmps65
  go_wp2
  go_ret
  exact ⟨rfl, balloc (balloc (Below.refl _ _) _) _⟩

set_option maxRecDepth 100000 in
theorem equalW_any (l m : List WI) (v u : Value) (S : Nat → Prop) (w : World) (r : Bool) (hl : l.length ≤ 1000000) (hv : WsV S w v l) (hu : WsV S w u m) (hS : ∀ b, S b → b < w.heap.size) (hr : Hid (r = true ↔ l.map stw = m.map stw)) :
    Calls Tryd.prog 64 #[v, u, .func (.func 65) #[] #[]] w fun e w' => e = .returned (.bool r) ∧ Below w.heap.size w w' := by
  obtain ⟨p1, c1, rfl, h1⟩ := hv
  obtain ⟨p2, c2, rfl, h2⟩ := hu
  by_cases hlm : l.length = m.length
  · have dn : ((l.length : Int) != (m.length : Int)) = false := by simp [hlm]
    have H1 := Lib.hid h1
    have H2 := Lib.hid h2
    have HLM := Lib.hid hlm
    clear h1 h2 hlm
    go_enter Tryd.func64, Tryd.ntmps64
    go_wp2_with fail
    go_loopw [17] (fun I wr => ∃ k : Nat, k ≤ l.length ∧ I = .int .i64 k ∧ Hid (∀ i (h1 : i < l.length) (h2 : i < m.length), i < k → stw l[i] = stw m[i]) ∧ Below w.heap.size w wr) (fun I _ => l.length - (intOf I).toNat)
    case atStart => exact ⟨0, by omega, rfl, Lib.hid (fun i _ _ h => by omega), Below.refl _ _⟩
    case round =>
      obtain ⟨k, hk, rfl, HE, B1⟩ := hrel
      by_cases hlt : k < l.length
      · have hkm : k < m.length := by have := HLM.out; omega
        obtain ⟨g1, o1, rfl, f1⟩ := H1.out.resolve_left (by intro e; rw [e] at hlt; simp at hlt)
        obtain ⟨g2, o2, rfl, f2⟩ := H2.out.resolve_left (by intro e; rw [e] at hkm; simp at hkm)
        obtain ⟨s1, x0, x1, x2, x3⟩ := f1.get k hlt
        obtain ⟨s2, y0, y1, y2, y3⟩ := f2.get k hkm
        have lg := hS g1 s1
        have lh := hS g2 s2
        replace x0 := (B1.cell (p := ⟨g1, _, none⟩) lg).trans x0
        replace x1 := (B1.cell (p := ⟨g1, _, none⟩) lg).trans x1
        replace x2 := (B1.cell (p := ⟨g1, _, none⟩) lg).trans x2
        replace x3 := (B1.cell (p := ⟨g1, _, none⟩) lg).trans x3
        replace y0 := (B1.cell (p := ⟨g2, _, none⟩) lh).trans y0
        replace y1 := (B1.cell (p := ⟨g2, _, none⟩) lh).trans y1
        replace y2 := (B1.cell (p := ⟨g2, _, none⟩) lh).trans y2
        replace y3 := (B1.cell (p := ⟨g2, _, none⟩) lh).trans y3
        have lg' := Nat.lt_of_lt_of_le lg B1.size
        have lh' := Nat.lt_of_lt_of_le lh B1.size
        obtain ⟨q, hq⟩ : ∃ q : Bool, q = true ↔ stw l[k] = stw m[k] := by
          by_cases h : stw l[k] = stw m[k]
          · exact ⟨true, by simp [h]⟩
          · exact ⟨false, by simp [h]⟩
        have HQ := Lib.hid hq
        have HN : Hid (q = false → r = false) := Lib.hid (fun e => by
          cases r with
          | false => rfl
          | true =>
            have := ((stw_iff l m).1 (hr.out.1 rfl)).2 k hlt hkm
            rw [hq.2 this] at e; cases e)
        have HE2 : Hid (q = true → ∀ i (h1 : i < l.length) (h2 : i < m.length), i < k + 1 → stw l[i] = stw m[i]) := Lib.hid (fun e i h1 h2 h3 => by
          by_cases h4 : i < k
          · exact HE.out i h1 h2 h4
          · obtain rfl : i = k := by omega
            exact hq.1 e)
        generalize l[k] = x at *
        generalize m[k] = y at *
        have cs := fun w => sameWord_any x y w q HQ
        clear f1 f2 s1 s2 hq HQ HE
        obtain ⟨xp, xn, xs, xa⟩ := x
        obtain ⟨yp, yn, ys, ya⟩ := y
        simp only at x0 x1 x2 x3 y0 y1 y2 y3 cs
        cases q with
        | true =>
          have HE3 := Lib.hid (HE2.out rfl)
          clear HE2 HN
          go_wp2_with fail
          refine (cs _).mono ?_
          rintro e w2 ⟨rfl, hb⟩
          have B2 := bthen (balloc (balloc B1 _) _) hb
          clear hb cs
          go_wp2_with fail
          go_roundw
          case rel => exact ⟨k + 1, by omega, by go_num, HE3, B2⟩
          case measure => simp [intOf]; omega
        | false =>
          obtain rfl := HN.out rfl
          clear HE2 HN
          go_wp2_with fail
          refine (cs _).mono ?_
          rintro e w2 ⟨rfl, hb⟩
          have B2 := bthen (balloc (balloc B1 _) _) hb
          clear hb cs
          go_wp2_with fail
          go_ret
          exact ⟨rfl, B2⟩
      · obtain rfl : k = l.length := by omega
        obtain rfl : r = true := hr.out.2 ((stw_iff l m).2 ⟨HLM.out, fun i h1 h2 => HE.out i h1 h2 h1⟩)
        go_wp2_with fail
        go_ret
        exact ⟨rfl, B1⟩
  · have dn : ((l.length : Int) != (m.length : Int)) = true := by simp [hlm]; omega
    obtain rfl : r = false := by
      cases r with
      | false => rfl
      | true => exact absurd ((stw_iff l m).1 (hr.out.1 rfl)).1 hlm
    clear hr hlm h1 h2
    go_enter Tryd.func64, Tryd.ntmps64
    go_wp2_with fail
    go_ret
    exact ⟨rfl, Below.refl _ _⟩

set_option maxRecDepth 100000 in
/-- two items, where it is known how their kids compare -/
theorem sameNode_any (x y : NI) (vx vy : Value) (S : Nat → Prop) (w : World) (r : Bool) (hx : NV S w vx x) (hy : NV S w vy y) (hS : ∀ b, S b → b < w.heap.size) (hr : Hid (r = true ↔ SameN x y)) (hl : ∀ nm a ws b ks, x = .mk nm a ws b ks → ws.length ≤ 1000000)
    (ck : ∀ nm a ws b ks nm' a' ws' b' ks', x = .mk nm a ws b ks → y = .mk nm' a' ws' b' ks' → ∀ W v u q, Below w.heap.size w W → NsV S W v ks → NsV S W u ks' → Hid (q = true ↔ SameL ks ks') → Calls Tryd.prog 23 #[v, u] W fun e w' => e = .returned (.bool q) ∧ Below W.heap.size W w') :
    Calls Tryd.prog 41 #[vx, vy] w fun e w' => e = .returned (.bool r) ∧ Below w.heap.size w w' := by
  cases x with
  | mk nm a ws b ks =>
  cases y with
  | mk nm' a' ws' b' ks' =>
  obtain ⟨vw, vk, rfl, hw, hk⟩ := hx
  obtain ⟨vw', vk', rfl, hw', hk'⟩ := hy
  have hl := hl _ _ _ _ _ rfl
  have ck := ck _ _ _ _ _ _ _ _ _ _ rfl rfl
  obtain ⟨pw, cw, rfl, hwf⟩ := hw
  obtain ⟨pw', cw', rfl, hwf'⟩ := hw'
  obtain ⟨pk, ck1, rfl, hkf⟩ := hk
  obtain ⟨pk', ck2, rfl, hkf'⟩ := hk'
  have hw : WsV S w (.slice pw ws.length cw) ws := ⟨pw, cw, rfl, hwf⟩
  have hw' : WsV S w (.slice pw' ws'.length cw') ws' := ⟨pw', cw', rfl, hwf'⟩
  have hk : NsV S w (.slice pk ks.length ck1) ks := ⟨pk, ck1, rfl, hkf⟩
  have hk' : NsV S w (.slice pk' ks'.length ck2) ks' := ⟨pk', ck2, rfl, hkf'⟩
  clear hwf hwf' hkf hkf'
  have hr' : r = true ↔ nm = nm' ∧ b = b' ∧ ws.map stw = ws'.map stw ∧ SameL ks ks' := by
    have := hr.out
    simpa only [SameN] using this
  obtain ⟨q1, hq1⟩ : ∃ q : Bool, q = true ↔ ws.map stw = ws'.map stw := by
    by_cases h : ws.map stw = ws'.map stw
    · exact ⟨true, by simp [h]⟩
    · exact ⟨false, by simp [h]⟩
  obtain ⟨q2, hq2⟩ : ∃ q : Bool, q = true ↔ SameL ks ks' := by
    by_cases h : SameL ks ks'
    · exact ⟨true, by simp [h]⟩
    · exact ⟨false, by simp [h]⟩
  have B0 : Below w.heap.size w ((w.alloc (.cells #[.string nm, .int .i64 a, .slice pw ws.length cw, .bool b, .slice pk ks.length ck1] 40)).alloc (.cells #[.string nm', .int .i64 a', .slice pw' ws'.length cw', .bool b', .slice pk' ks'.length ck2] 40)) := balloc (balloc (Below.refl _ _) _) _
  have cw1 := fun W (hB : Below w.heap.size w W) => equalW_any ws ws' _ _ S W q1 hl (hw.on hS hB) (hw'.on hS hB) (fun b hb => Nat.lt_of_lt_of_le (hS b hb) hB.size) (Lib.hid hq1)
  have ck1' := fun W (hB : Below w.heap.size w W) => ck W _ _ q2 hB (hk.on hS hB) (hk'.on hS hB) (Lib.hid hq2)
  have hn : decide (nm = nm') = true ∨ decide (nm = nm') = false := by cases decide (nm = nm') <;> simp
  clear ck hr hw hw' hk hk'
  have hrf : ∀ (p : Prop), ¬ (nm = nm' ∧ b = b' ∧ ws.map stw = ws'.map stw ∧ SameL ks ks') → r = false := fun _ h => by
    cases r with
    | false => rfl
    | true => exact absurd (hr'.1 rfl) h
  by_cases h1 : nm = nm'
  · by_cases h2 : b = b'
    · subst h1 h2
      cases q1 with
      | false =>
        obtain rfl := hrf True (fun h => by have := hq1.2 h.2.2.1; cases this)
        clear hr' hq1 hq2 hrf ck1' hn
        have cw1 := Lib.hid cw1
        go_enter Tryd.func41, Tryd.ntmps41
        go_wp2_with fail
        refine (cw1.out _ B0).mono ?_
        rintro e w2 ⟨rfl, hb⟩
        have B2 := bthen B0 hb
        clear hb
        go_wp2_with fail
        go_ret
        exact ⟨rfl, B2⟩
      | true =>
        obtain rfl : r = q2 := by
          cases q2 with
          | true => exact hr'.2 ⟨rfl, rfl, hq1.1 rfl, hq2.1 rfl⟩
          | false => exact hrf True (fun h => by have := hq2.2 h.2.2.2; cases this)
        clear hr' hq1 hq2 hrf hn
        have cw1 := Lib.hid cw1
        have ck1' := Lib.hid ck1'
        go_enter Tryd.func41, Tryd.ntmps41
        go_wp2_with fail
        refine (cw1.out _ B0).mono ?_
        rintro e w2 ⟨rfl, hb⟩
        have B2 := bthen B0 hb
        have K0 := ((Box.new w #[.string nm, .int .i64 a, .slice pw ws.length cw, .bool b, .slice pk ks.length ck1] 40).alloc (.cells #[.string nm, .int .i64 a', .slice pw' ws'.length cw', .bool b, .slice pk' ks'.length ck2] 40)).kept hb
        have K1 := (Box.new (w.alloc (.cells #[.string nm, .int .i64 a, .slice pw ws.length cw, .bool b, .slice pk ks.length ck1] 40)) #[.string nm, .int .i64 a', .slice pw' ws'.length cw', .bool b, .slice pk' ks'.length ck2] 40).kept hb
        rw [World.size_alloc] at K1
        obtain ⟨l0, -, -, -, -, k04, -⟩ := K0.five
        obtain ⟨l1, -, -, -, -, k14, -⟩ := K1.five
        clear hb K0 K1 cw1
        go_wp2_with fail
        refine (ck1'.out _ B2).mono ?_
        rintro e w3 ⟨rfl, hb⟩
        have B3 := bthen B2 hb
        clear hb
        go_wp2_with fail
        go_ret
        exact ⟨rfl, B3⟩
    · obtain rfl := hrf True (fun h => h2 h.2.1)
      subst h1
      have db : (b == b') = false := by simpa using h2
      clear hr' hq1 hq2 hrf cw1 ck1' hn
      go_enter Tryd.func41, Tryd.ntmps41
      go_wp2_with fail
      go_ret
      exact ⟨rfl, B0⟩
  · obtain rfl := hrf True (fun h => h1 h.1)
    have dn : (nm.toList == nm'.toList) = false := beq_eq_false_iff_ne.2 (fun e => h1 (by
      rw [ByteArray.toList_eq, ByteArray.toList_eq] at e
      exact ByteArray.ext (Array.toList_inj.1 e)))
    clear hr' hq1 hq2 hrf cw1 ck1' hn
    go_enter Tryd.func41, Tryd.ntmps41
    go_wp2_with fail
    go_ret
    exact ⟨rfl, B0⟩

mutual
/-- words are no more than they may be -/
def WsN (M : Nat) : NI → Prop
  | .mk _ _ ws _ ks => ws.length ≤ M ∧ WsL M ks
def WsL (M : Nat) : List NI → Prop
  | [] => True
  | n :: l => WsN M n ∧ WsL M l
end
theorem WsL.get {M : Nat} {l : List NI} (h : WsL M l) (i : Nat) (hi : i < l.length) : WsN M l[i] := by
  induction l generalizing i with
  | nil => exact absurd hi (by simp)
  | cons n l ih =>
    simp only [WsL] at h
    cases i with
    | zero => exact h.1
    | succ i => exact ih h.2 i (by simpa using hi)

set_option maxRecDepth 100000 in
theorem equalN_any (l m : List NI) (v u : Value) (S : Nat → Prop) (w : World) (r : Bool) (hl : l.length ≤ 1000000) (hv : NsV S w v l) (hu : NsV S w u m) (hS : ∀ b, S b → b < w.heap.size) (hr : Hid (r = true ↔ SameL l m))
    (cs : ∀ k (h1 : k < l.length) (h2 : k < m.length) W vx vy q, Below w.heap.size w W → NV S W vx l[k] → NV S W vy m[k] → Hid (q = true ↔ SameN l[k] m[k]) → Calls Tryd.prog 41 #[vx, vy] W fun e w' => e = .returned (.bool q) ∧ Below W.heap.size W w') :
    Calls Tryd.prog 40 #[v, u, .func (.func 41) #[] #[]] w fun e w' => e = .returned (.bool r) ∧ Below w.heap.size w w' := by
  obtain ⟨p1, c1, rfl, h1⟩ := hv
  obtain ⟨p2, c2, rfl, h2⟩ := hu
  by_cases hlm : l.length = m.length
  · have dn : ((l.length : Int) != (m.length : Int)) = false := by simp [hlm]
    have H1 := Lib.hid h1
    have H2 := Lib.hid h2
    have HLM := Lib.hid hlm
    have cs := Lib.hid cs
    clear h1 h2 hlm
    go_enter Tryd.func40, Tryd.ntmps40
    go_wp2_with fail
    go_loopw [17] (fun I wr => ∃ k : Nat, k ≤ l.length ∧ I = .int .i64 k ∧ Hid (∀ i (h1 : i < l.length) (h2 : i < m.length), i < k → SameN l[i] m[i]) ∧ Below w.heap.size w wr) (fun I _ => l.length - (intOf I).toNat)
    case atStart => exact ⟨0, by omega, rfl, Lib.hid (fun i _ _ h => by omega), Below.refl _ _⟩
    case round =>
      obtain ⟨k, hk, rfl, HE, B1⟩ := hrel
      by_cases hlt : k < l.length
      · have hkm : k < m.length := by have := HLM.out; omega
        obtain ⟨g1, o1, rfl, f1⟩ := H1.out.resolve_left (by intro e; rw [e] at hlt; simp at hlt)
        obtain ⟨g2, o2, rfl, f2⟩ := H2.out.resolve_left (by intro e; rw [e] at hkm; simp at hkm)
        obtain ⟨nm, a, ws, b, ks, vw, vk, he, s1, x0, x1, x2, x3, x4, hw, hk1⟩ := (f1.get k hlt).un
        obtain ⟨nm', a', ws', b', ks', vw', vk', he', s2, y0, y1, y2, y3, y4, hw', hk2⟩ := (f2.get k hkm).un
        have lg := hS g1 s1
        have lh := hS g2 s2
        have N1 : ∀ W, Below w.heap.size w W → NV S W (.agg #[.string nm, .int .i64 a, vw, .bool b, vk]) l[k] := fun W hB => by rw [he]; exact ⟨vw, vk, rfl, hw.on hS hB, hk1.on hS hB⟩
        have N2 : ∀ W, Below w.heap.size w W → NV S W (.agg #[.string nm', .int .i64 a', vw', .bool b', vk']) m[k] := fun W hB => by rw [he']; exact ⟨vw', vk', rfl, hw'.on hS hB, hk2.on hS hB⟩
        replace x0 := (B1.cell (p := ⟨g1, _, none⟩) lg).trans x0
        replace x1 := (B1.cell (p := ⟨g1, _, none⟩) lg).trans x1
        replace x2 := (B1.cell (p := ⟨g1, _, none⟩) lg).trans x2
        replace x3 := (B1.cell (p := ⟨g1, _, none⟩) lg).trans x3
        replace x4 := (B1.cell (p := ⟨g1, _, none⟩) lg).trans x4
        replace y0 := (B1.cell (p := ⟨g2, _, none⟩) lh).trans y0
        replace y1 := (B1.cell (p := ⟨g2, _, none⟩) lh).trans y1
        replace y2 := (B1.cell (p := ⟨g2, _, none⟩) lh).trans y2
        replace y3 := (B1.cell (p := ⟨g2, _, none⟩) lh).trans y3
        replace y4 := (B1.cell (p := ⟨g2, _, none⟩) lh).trans y4
        have lg' := Nat.lt_of_lt_of_le lg B1.size
        have lh' := Nat.lt_of_lt_of_le lh B1.size
        obtain ⟨pw, cw, rfl, -⟩ := hw
        obtain ⟨pw', cw', rfl, -⟩ := hw'
        obtain ⟨pk, ck, rfl, -⟩ := hk1
        obtain ⟨pk', ck', rfl, -⟩ := hk2
        obtain ⟨q, hq⟩ : ∃ q : Bool, q = true ↔ SameN l[k] m[k] := by
          by_cases h : SameN l[k] m[k]
          · exact ⟨true, by simp [h]⟩
          · exact ⟨false, by simp [h]⟩
        have HN : Hid (q = false → r = false) := Lib.hid (fun e => by
          cases r with
          | false => rfl
          | true =>
            have := ((sameL_iff l m).1 (hr.out.1 rfl)).2 k hlt hkm
            rw [hq.2 this] at e; cases e)
        have HE2 : Hid (q = true → ∀ i (h1 : i < l.length) (h2 : i < m.length), i < k + 1 → SameN l[i] m[i]) := Lib.hid (fun e i h1 h2 h3 => by
          by_cases h4 : i < k
          · exact HE.out i h1 h2 h4
          · obtain rfl : i = k := by omega
            exact hq.1 e)
        have cn := fun W hB => cs.out k hlt hkm W _ _ q hB (N1 W hB) (N2 W hB) (Lib.hid hq)
        clear f1 f2 s1 s2 hq HE he he' N1 N2
        have cn := Lib.hid cn
        cases q with
        | true =>
          have HE3 := Lib.hid (HE2.out rfl)
          clear HE2 HN
          go_wp2_with fail
          refine (cn.out _ (balloc (balloc B1 _) _)).mono ?_
          rintro e w2 ⟨rfl, hb⟩
          have B2 := bthen (balloc (balloc B1 _) _) hb
          clear hb cn
          go_wp2_with fail
          go_roundw
          case rel => exact ⟨k + 1, by omega, by go_num, HE3, B2⟩
          case measure => simp [intOf]; omega
        | false =>
          obtain rfl := HN.out rfl
          clear HE2 HN
          go_wp2_with fail
          refine (cn.out _ (balloc (balloc B1 _) _)).mono ?_
          rintro e w2 ⟨rfl, hb⟩
          have B2 := bthen (balloc (balloc B1 _) _) hb
          clear hb cn
          go_wp2_with fail
          go_ret
          exact ⟨rfl, B2⟩
      · obtain rfl : k = l.length := by omega
        obtain rfl : r = true := hr.out.2 ((sameL_iff l m).2 ⟨HLM.out, fun i h1 h2 => HE.out i h1 h2 h1⟩)
        go_wp2_with fail
        go_ret
        exact ⟨rfl, B1⟩
  · have dn : ((l.length : Int) != (m.length : Int)) = true := by simp [hlm]; omega
    obtain rfl : r = false := by
      cases r with
      | false => rfl
      | true => exact absurd ((sameL_iff l m).1 (hr.out.1 rfl)).1 hlm
    clear hr hlm h1 h2 cs
    go_enter Tryd.func40, Tryd.ntmps40
    go_wp2_with fail
    go_ret
    exact ⟨rfl, Below.refl _ _⟩

set_option maxRecDepth 100000 in
theorem Same_any (N : Nat) (hN : N ≤ 1000000) : ∀ (l m : List NI) (v u : Value) (S : Nat → Prop) (w : World) (r : Bool), cntL l < N → WsL 1000000 l → NsV S w v l → NsV S w u m → (∀ b, S b → b < w.heap.size) → Hid (r = true ↔ SameL l m) →
    Calls Tryd.prog 23 #[v, u] w fun e w' => e = .returned (.bool r) ∧ Below w.heap.size w w' := by
  induction N with
  | zero => intro l m v u S w r h; omega
  | succ N ih =>
    intro l m v u S w r hc hws hv hu hS hr
    have ih := ih (by omega)
    have hlen := cnt_len l
    have ce := equalN_any l m v u S w r (by omega) hv hu hS hr (fun k h1 h2 W vx vy q hB hx hy hq => by
      have hcn := cnt_get l k h1
      have hwk := hws.get k h1
      refine sameNode_any l[k] m[k] vx vy S W q hx hy (fun b hb => Nat.lt_of_lt_of_le (hS b hb) hB.size) hq (fun nm a ws b ks e => by rw [e] at hwk; exact hwk.1) (fun nm a ws b ks nm' a' ws' b' ks' e1 e2 W2 v2 u2 q2 hB2 hv2 hu2 hq2 => ?_)
      rw [e1] at hcn hwk
      simp only [cntN] at hcn
      exact ih ks ks' v2 u2 S W2 q2 (by omega) hwk.2 hv2 hu2 (fun b hb => Nat.lt_of_lt_of_le (Nat.lt_of_lt_of_le (hS b hb) hB.size) hB2.size) hq2)
    obtain ⟨p1, c1, rfl, -⟩ := hv
    obtain ⟨p2, c2, rfl, -⟩ := hu
    go_enter Tryd.func23, Tryd.ntmps23
    go_wp2_with fail
    refine ce.mono ?_
    rintro e w2 ⟨rfl, hb⟩
    go_wp2_with fail
    go_ret
    exact ⟨rfl, hb⟩

end Go.Proofs.YtjebdoecigmkhaaDoor.Yg
