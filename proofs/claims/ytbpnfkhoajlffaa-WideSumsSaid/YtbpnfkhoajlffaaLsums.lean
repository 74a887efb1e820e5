/- WideSums' walk. -/
import Derived.Test.YtbpnfkhoajlffaaLlive
import Derived.Test.YtbpnfkhoajlffaaRsum
namespace Go.Proofs.Ytbpnfkhoajlffaa.Vl
open Go.RowKit Go.Proofs.Ytbpnfkhoajlffaa.Vm Go.Proofs.Ytbpnfkhoajlffaa.Vc Go.Proofs.Ytbpnfkhoajlffaa.Vr

set_option maxHeartbeats 400000

theorem rd_keeps {B : Nat} {w w1 : World} {A : Option Addr} {zs : List Int} (h : Rd w B A zs) (hb : Below B w w1) (hB : B ≤ w1.heap.size) : Rd w1 w1.heap.size A zs := by
  rcases h with h | ⟨b, off, hA, hlt, hc⟩
  · exact .inl h
  · exact .inr ⟨b, off, hA, by omega, fun i hi => (hb.cell (p := ⟨b, off + i, none⟩) hlt).trans (hc i hi)⟩

theorem sums_walk (A : Option Addr) (n cap : Nat) (zs : List Int) (w : World) (w0 : SliceOf .i64 w A n cap zs) :
    Calls Try.prog 5 #[.slice A n cap] w fun e w' => e = .returned (.bool true) ∧ Below w.heap.size w w' := by
  obtain ⟨hn, hcap, hmax, hwf, hr⟩ := w0
  have fz : ∀ z ∈ zs, Fit1 z := fun z hz => bounds_i64 (hwf z hz)
  have R0 : Rd w w.heap.size A zs := by
    rcases hr with h | ⟨b, off, h1, h2, h3⟩
    · exact .inl h
    · exact .inr ⟨b, off, h1, h2, fun i hi => h3 i (by omega)⟩
  unfold maxLen at hmax
  have hn9 : (n : Int) ≤ 9223372036854775807 := by omega
  clear hwf hr
  by_cases big : 300 < n
  · have d1 : decide ((300 : Int) < (n : Int)) = true := decide_eq_true (by omega)
    clear fz R0 hn
    go_enter Try.func5, Try.ntmps5
    go_wp2_with fail
    refine (live_ok _).mono ?_
    rintro e w1 ⟨rfl, hb1⟩
    go_wp2
    go_ret
    exact ⟨rfl, hb1⟩
  · have d1 : decide ((300 : Int) < (n : Int)) = false := decide_eq_false (by omega)
    obtain ⟨v, er, R⟩ := res1_ex zs.sum
    have c1 := fun W h => Sum_any A n cap zs v er W hn hn9 fz h R
    have c2 := fun W h => rSum_any A n cap zs v er W hn (by omega) fz h R
    replace R0 := Lib.hid R0
    clear fz hn R big
    go_enter Try.func5, Try.ntmps5
    go_wp2_with fail
    refine (live_ok _).mono ?_
    rintro e w1 ⟨rfl, hb1⟩
    go_wp2_with fail
    refine (c1 _ (rd_keeps R0.out hb1 hb1.size)).mono ?_
    rintro e w2 ⟨rfl, hb2⟩
    have B2 := bthen hb1 hb2
    go_wp2_with fail
    refine (c2 _ (rd_keeps R0.out B2 B2.size)).mono ?_
    rintro e w3 ⟨rfl, hb3⟩
    go_wp2
    go_ret
    exact ⟨by simp, bthen B2 hb3⟩

end Go.Proofs.Ytbpnfkhoajlffaa.Vl
