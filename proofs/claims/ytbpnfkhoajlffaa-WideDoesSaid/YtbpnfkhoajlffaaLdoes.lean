/- WideDoes' walk: the program and the reference come to the same. -/
import Derived.Test.YtbpnfkhoajlffaaLlive
import Derived.Test.YtbpnfkhoajlffaaRadd
import Derived.Test.YtbpnfkhoajlffaaRfit
import Derived.Test.YtbpnfkhoajlffaaRcompare
import Derived.Deep.RegionHeld3
import Derived.Deep.DrawnRows
namespace Go.Proofs.Ytbpnfkhoajlffaa.Vl
open Go.RowKit Go.Proofs.Ytbpnfkhoajlffaa.Vm Go.Proofs.Ytbpnfkhoajlffaa.Vc Go.Proofs.Ytbpnfkhoajlffaa.Vr
attribute [local go_sem ↓] Go.wp_at_zero Go.wp_at_succ

set_option maxHeartbeats 1000000

theorem cmp_same (h1 l1 h2 l2 v : Int) (w : World) (b1 : Bd h1 l1) (b2 : Bd h2 l2) (e : Hid (cv (num h1 l1) (num h2 l2) = v)) :
    Calls Try.prog 18 #[.agg #[.int .i64 h1, .int .u64 l1], .agg #[.int .i64 h2, .int .u64 l2]] w fun e w' => e = .returned (.int .i64 v) ∧ Below w.heap.size w w' := by
  rw [← e.out]; exact Cmp_any h1 l1 h2 l2 w b1.2.2.1 b1.2.2.2 b2.2.2.1 b2.2.2.2

/-- six blocks of two cells each, and nothing of what was there has turned -/
structure Six (w W : World) (p q r s t u : Nat) (h1 l1 h2 l2 hs ls hm lm : Int) : Prop where
  below : Below w.heap.size w W
  a : Pair W p (.int .i64 h1) (.int .u64 l1)
  b : Pair W q (.int .i64 h2) (.int .u64 l2)
  c : Pair W r (.int .i64 hs) (.int .u64 ls)
  d : Pair W s (.int .i64 hs) (.int .u64 ls)
  e : Pair W t (.int .i64 hm) (.int .u64 lm)
  f : Pair W u (.int .i64 hm) (.int .u64 lm)
section
variable {w W w1 : World} {p q r s t u : Nat} {h1 l1 h2 l2 hs ls hm lm : Int}
theorem Six.kept {R : Prop} (x : Six w W p q r s t u h1 l1 h2 l2 hs ls hm lm ∧ R) (hb : Below W.heap.size W w1) : Six w w1 p q r s t u h1 l1 h2 l2 hs ls hm lm :=
  ⟨bthen x.1.below hb, x.1.a.kept hb, x.1.b.kept hb, x.1.c.kept hb, x.1.d.kept hb, x.1.e.kept hb, x.1.f.kept hb⟩
theorem Six.drew (x : Six w W p q r s t u h1 l1 h2 l2 hs ls hm lm) : Six w W.drew p q r s t u h1 l1 h2 l2 hs ls hm lm :=
  ⟨x.below.drew, x.a.drew, x.b.drew, x.c.drew, x.d.drew, x.e.drew, x.f.drew⟩
theorem Six.opened (x : Six w W p q r s t u h1 l1 h2 l2 hs ls hm lm) : Six w W p q r s t u h1 l1 h2 l2 hs ls hm lm ∧
    W.cell? ⟨p, 0, none⟩ = some (.int .i64 h1) ∧ W.cell? ⟨p, 1, none⟩ = some (.int .u64 l1) ∧ W.cell? ⟨q, 0, none⟩ = some (.int .i64 h2) ∧ W.cell? ⟨q, 1, none⟩ = some (.int .u64 l2) ∧
    W.cell? ⟨r, 0, none⟩ = some (.int .i64 hs) ∧ W.cell? ⟨r, 1, none⟩ = some (.int .u64 ls) ∧ W.cell? ⟨s, 0, none⟩ = some (.int .i64 hs) ∧ W.cell? ⟨s, 1, none⟩ = some (.int .u64 ls) ∧
    W.cell? ⟨t, 0, none⟩ = some (.int .i64 hm) ∧ W.cell? ⟨t, 1, none⟩ = some (.int .u64 lm) ∧ W.cell? ⟨u, 0, none⟩ = some (.int .i64 hm) ∧ W.cell? ⟨u, 1, none⟩ = some (.int .u64 lm) :=
  ⟨x, x.a.c0, x.a.c1, x.b.c0, x.b.c1, x.c.c0, x.c.c1, x.d.c0, x.d.c1, x.e.c0, x.e.c1, x.f.c0, x.f.c1⟩
end

set_option maxHeartbeats 4000000 in
theorem does_walk (h1 l1 h2 l2 : Int) (w : World) (w1 : (Lit.int .i64 h1).wf = true) (w2 : (Lit.int .u64 l1).wf = true) (w3 : (Lit.int .i64 h2).wf = true) (w4 : (Lit.int .u64 l2).wf = true) :
    Calls Try.prog 3 #[.agg #[.int .i64 h1, .int .u64 l1], .agg #[.int .i64 h2, .int .u64 l2]] w fun e w' => e = .returned (.bool true) ∧ Below w.heap.size w w' := by
  have b1 : Bd h1 l1 := ⟨(bounds_i64 w1).1, (bounds_i64 w1).2, (bounds_u64 w2).1, (bounds_u64 w2).2⟩
  have b2 : Bd h2 l2 := ⟨(bounds_i64 w3).1, (bounds_i64 w3).2, (bounds_u64 w4).1, (bounds_u64 w4).2⟩
  clear w1 w2 w3 w4
  obtain ⟨hs, ls, es, rs⟩ := res_ex (num h1 l1 + num h2 l2)
  obtain ⟨hm, lm, em, rm⟩ := res_ex (-num h1 l1)
  obtain ⟨v, ev, rv⟩ := res1_ex (num h1 l1)
  obtain ⟨c, hc⟩ : ∃ c, cv (num h1 l1) (num h2 l2) = c := ⟨_, rfl⟩
  have ca := fun w => Add_any h1 l1 h2 l2 hs ls es w b1 b2 rs
  have ra := fun w => rAdd_any h1 l1 h2 l2 hs ls es w b1 b2 rs
  have cn := fun w => Neg_any h1 l1 hm lm em w b1 rm
  have rn := fun w => rNeg_any h1 l1 hm lm em w b1 rm
  have cf := fun w => Fit_any h1 l1 v ev w b1 rv
  have rf := fun w => rFit_any h1 l1 v ev w b1 rv
  have cc := fun w => cmp_same h1 l1 h2 l2 c w b1 b2 (Lib.hid hc)
  have rc := fun w => rCmp_to h1 l1 h2 l2 c w b1 b2 (Lib.hid hc)
  clear rs rm rv b1 b2 hc
  go_enter Try.func3, Try.ntmps3
  go_wp2_with fail
  refine (live_ok _).mono ?_
  rintro e w1 ⟨rfl, hb⟩
  have P1 := ((Pair.new w (.int .i64 h1) (.int .u64 l1) 24).alloc _).kept hb
  have P2 := (Pair.new _ (.int .i64 h2) (.int .u64 l2) 24).kept hb
  have B1 := bthen (balloc (balloc (Below.refl _ w) _) _) hb
  simp only [World.size_alloc] at P2
  clear hb
  obtain ⟨z1, c10, c11⟩ := id P1
  obtain ⟨z2, c20, c21⟩ := id P2
  go_wp2_with fail
  refine (ca _).mono ?_
  rintro e w2 ⟨rfl, hb⟩
  replace P1 := P1.kept hb
  replace P2 := P2.kept hb
  replace B1 := bthen B1 hb
  clear hb z1 c10 c11 z2 c20 c21
  obtain ⟨z1, c10, c11⟩ := id P1
  obtain ⟨z2, c20, c21⟩ := id P2
  go_wp2_with fail
  refine (ra _).mono ?_
  rintro e w3 ⟨rfl, hb⟩
  replace P1 := (P1.alloc _).kept hb
  replace P2 := (P2.alloc _).kept hb
  have P3 := (Pair.new _ (.int .i64 hs) (.int .u64 ls) 24).kept hb
  replace B1 := bthen (balloc B1 _) hb
  clear hb z1 c10 c11 z2 c20 c21
  obtain ⟨z1, c10, c11⟩ := id P1
  obtain ⟨z2, c20, c21⟩ := id P2
  go_wp2_with fail
  refine (cn _).mono ?_
  rintro e w4 ⟨rfl, hb⟩
  replace P1 := (P1.alloc _).kept hb
  replace P2 := (P2.alloc _).kept hb
  replace P3 := (P3.alloc _).kept hb
  have P4 := (Pair.new _ (.int .i64 hs) (.int .u64 ls) 24).kept hb
  replace B1 := bthen (balloc B1 _) hb
  clear hb z1 c10 c11 z2 c20 c21
  obtain ⟨z1, c10, c11⟩ := id P1
  obtain ⟨z2, c20, c21⟩ := id P2
  go_wp2_with fail
  refine (rn _).mono ?_
  rintro e w5 ⟨rfl, hb⟩
  replace P1 := (P1.alloc _).kept hb
  replace P2 := (P2.alloc _).kept hb
  replace P3 := (P3.alloc _).kept hb
  replace P4 := (P4.alloc _).kept hb
  have P5 := (Pair.new _ (.int .i64 hm) (.int .u64 lm) 24).kept hb
  replace B1 := bthen (balloc B1 _) hb
  clear hb z1 c10 c11 z2 c20 c21
  obtain ⟨z1, c10, c11⟩ := id P1
  obtain ⟨z2, c20, c21⟩ := id P2
  go_wp2_with fail
  refine (cf _).mono ?_
  rintro e w6 ⟨rfl, hb⟩
  replace P1 := (P1.alloc _).kept hb
  replace P2 := (P2.alloc _).kept hb
  replace P3 := (P3.alloc _).kept hb
  replace P4 := (P4.alloc _).kept hb
  replace P5 := (P5.alloc _).kept hb
  have P6 := (Pair.new _ (.int .i64 hm) (.int .u64 lm) 24).kept hb
  replace B1 := bthen (balloc B1 _) hb
  clear hb z1 c10 c11 z2 c20 c21
  obtain ⟨z1, c10, c11⟩ := id P1
  obtain ⟨z2, c20, c21⟩ := id P2
  go_wp2_with fail
  refine (rf _).mono ?_
  rintro e w7 ⟨rfl, hb⟩
  replace P1 := P1.kept hb
  replace P2 := P2.kept hb
  replace P3 := P3.kept hb
  replace P4 := P4.kept hb
  replace P5 := P5.kept hb
  replace P6 := P6.kept hb
  replace B1 := bthen B1 hb
  clear hb z1 c10 c11 z2 c20 c21
  have X : Six w w7 _ _ _ _ _ _ h1 l1 h2 l2 hs ls hm lm := ⟨B1, P1, P2, P3, P4, P5, P6⟩
  clear P1 P2 P3 P4 P5 P6 B1 ca ra cn rn cf rf
  go_wp2
  go_region_held3 (fun w' => Six w w' w.heap.size (w.heap.size + 1) w2.heap.size w3.heap.size w4.heap.size w5.heap.size h1 l1 h2 l2 hs ls hm lm ∧
    w'.cell? ⟨w.heap.size, 0, none⟩ = some (.int .i64 h1) ∧ w'.cell? ⟨w.heap.size, 1, none⟩ = some (.int .u64 l1) ∧ w'.cell? ⟨w.heap.size + 1, 0, none⟩ = some (.int .i64 h2) ∧ w'.cell? ⟨w.heap.size + 1, 1, none⟩ = some (.int .u64 l2) ∧
    w'.cell? ⟨w2.heap.size, 0, none⟩ = some (.int .i64 hs) ∧ w'.cell? ⟨w2.heap.size, 1, none⟩ = some (.int .u64 ls) ∧ w'.cell? ⟨w3.heap.size, 0, none⟩ = some (.int .i64 hs) ∧ w'.cell? ⟨w3.heap.size, 1, none⟩ = some (.int .u64 ls) ∧
    w'.cell? ⟨w4.heap.size, 0, none⟩ = some (.int .i64 hm) ∧ w'.cell? ⟨w4.heap.size, 1, none⟩ = some (.int .u64 lm) ∧ w'.cell? ⟨w5.heap.size, 0, none⟩ = some (.int .i64 hm) ∧ w'.cell? ⟨w5.heap.size, 1, none⟩ = some (.int .u64 lm))
    (first | exact X.drew.opened | exact X2.opened)
    (first | (go_at_call 18; (with_reducible refine (cc _).mono ?_); rintro e w8 ⟨rfl, hb⟩; have X2 := Six.kept (by with_reducible assumption) hb) | (go_at_call 19; (with_reducible refine (rc _).mono ?_); rintro e w9 ⟨rfl, hb⟩; have X2 := Six.kept (by with_reducible assumption) hb))
  go_wp2
  go_ret
  exact ⟨by simp, X2.below⟩

end Go.Proofs.Ytbpnfkhoajlffaa.Vl
