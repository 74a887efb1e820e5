/- Plain facts for the reference of layer 2: numbers as eight digits; nothing of the program. -/
import Derived.Test.YtfjckgnclhpmcaaDoorVmath6
namespace Go.Proofs.YtfjckgnclhpmcaaDoor.Vm
set_option linter.unusedSimpArgs false
set_option linter.unusedVariables false
open Go.RowKit (wrap32 wrap64)

/-- a digit -/
def Dg (d : Int) : Prop := 0 ≤ d ∧ d ≤ 65535
/-- x has the digits d0 .. d7, the lowest one first -/
def D8 (x d0 d1 d2 d3 d4 d5 d6 d7 : Int) : Prop := Dg d0 ∧ Dg d1 ∧ Dg d2 ∧ Dg d3 ∧ Dg d4 ∧ Dg d5 ∧ Dg d6 ∧ Dg d7 ∧ x = d0 + d1 * 65536 + d2 * 4294967296 + d3 * 281474976710656 + d4 * 18446744073709551616 + d5 * 1208925819614629174706176 + d6 * 79228162514264337593543950336 + d7 * 5192296858534827628530496329220096

theorem d8_ex {x : Int} (h0 : 0 ≤ x) (h1 : x < 340282366920938463463374607431768211456) : ∃ d0 d1 d2 d3 d4 d5 d6 d7, D8 x d0 d1 d2 d3 d4 d5 d6 d7 := by
  refine ⟨x % 65536, x / 65536 % 65536, x / 4294967296 % 65536, x / 281474976710656 % 65536, x / 18446744073709551616 % 65536, x / 1208925819614629174706176 % 65536, x / 79228162514264337593543950336 % 65536, x / 5192296858534827628530496329220096 % 65536, ?_⟩
  unfold D8 Dg
  omega

theorem d8_bd {x d0 d1 d2 d3 d4 d5 d6 d7 : Int} (h : D8 x d0 d1 d2 d3 d4 d5 d6 d7) : 0 ≤ x ∧ x < 340282366920938463463374607431768211456 := by
  unfold D8 Dg at h; omega

theorem d8_inj {x d0 d1 d2 d3 d4 d5 d6 d7 e0 e1 e2 e3 e4 e5 e6 e7 : Int} (h : D8 x d0 d1 d2 d3 d4 d5 d6 d7) (k : D8 x e0 e1 e2 e3 e4 e5 e6 e7) : d0 = e0 ∧ d1 = e1 ∧ d2 = e2 ∧ d3 = e3 ∧ d4 = e4 ∧ d5 = e5 ∧ d6 = e6 ∧ d7 = e7 := by
  unfold D8 Dg at h k; omega

/-- the words' digits, one by one -/
theorem d8_words {h l d0 d1 d2 d3 d4 d5 d6 d7 : Int} (b0 : 0 ≤ l) (b1 : l ≤ 18446744073709551615) (D : D8 (num h l) d0 d1 d2 d3 d4 d5 d6 d7) : l = d0 + d1 * 65536 + d2 * 4294967296 + d3 * 281474976710656 ∧ h = d4 + d5 * 65536 + d6 * 4294967296 + d7 * 281474976710656 := by
  unfold D8 Dg num at D; omega
theorem dg4_steps {l d0 d1 d2 d3 : Int} (c0 : Dg d0) (c1 : Dg d1) (c2 : Dg d2) (c3 : Dg d3) (e : l = d0 + d1 * 65536 + d2 * 4294967296 + d3 * 281474976710656) :
    ∃ m1 m2 m3 : Int, l % 65536 = d0 ∧ l / 65536 = m1 ∧ m1 % 65536 = d1 ∧ m1 / 65536 = m2 ∧ m2 % 65536 = d2 ∧ m2 / 65536 = m3 ∧ m3 % 65536 = d3 ∧ 0 ≤ m1 ∧ 0 ≤ m2 ∧ 0 ≤ m3 ∧ m1 ≤ 18446744073709551615 ∧ m2 ≤ 18446744073709551615 ∧ m3 ≤ 18446744073709551615 := by
  unfold Dg at *
  refine ⟨d1 + d2 * 65536 + d3 * 4294967296, d2 + d3 * 65536, d3, ?_⟩
  omega

end Go.Proofs.YtfjckgnclhpmcaaDoor.Vm
