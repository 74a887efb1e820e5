/- Plain facts on products digit by digit; nothing of the program. -/
import Derived.Test.YtmngbhkokglmjaaRmath2
import Derived.Lib.Hide
namespace Go.Proofs.Ytmngbhkokglmjaa.Vm
open Go.RowKit

theorem tstep {t : Int} (h0 : 0 ≤ t) (h1 : t ≤ 4294967295) : ∃ r m : Int, t % 65536 = r ∧ t / 65536 = m ∧ 0 ≤ r ∧ r ≤ 65535 ∧ 0 ≤ m ∧ m ≤ 65535 ∧ t = r + 65536 * m :=
  ⟨t % 65536, t / 65536, rfl, rfl, by omega, by omega, by omega, by omega, by omega⟩

theorem dig_prod {x y : Int} (hx0 : 0 ≤ x) (hx : x ≤ 65535) (hy0 : 0 ≤ y) (hy : y ≤ 65535) : ∃ g, x * y = g ∧ 0 ≤ g ∧ g ≤ 4294836225 := by
  refine ⟨x * y, rfl, Int.mul_nonneg hx0 hy0, ?_⟩
  have h1 : x * y ≤ 65535 * y := Int.mul_le_mul_of_nonneg_right hx hy0
  omega

theorem mul_ex {x y x0 x1 x2 x3 y0 y1 y2 y3 : Int} (a0 : Dg x0) (a1 : Dg x1) (a2 : Dg x2) (a3 : Dg x3) (b0 : Dg y0) (b1 : Dg y1) (b2 : Dg y2) (b3 : Dg y3) (ex : x = x0 + x1 * 65536 + x2 * 4294967296 + x3 * 281474976710656) (ey : y = y0 + y1 * 65536 + y2 * 4294967296 + y3 * 281474976710656) :
    ∃ g00 g01 g02 g03 g10 g11 g12 g13 g20 g21 g22 g23 g30 g31 g32 g33 r00 r01 r02 r03 r10 r11 r12 r13 r20 r21 r22 r23 r30 r31 r32 r33 c00 c01 c02 c03 c10 c11 c12 c13 c20 c21 c22 c23 c30 c31 c32 c33 : Int, Hid (x0 * y0 = g00 ∧ 0 ≤ g00 ∧ g00 ≤ 4294836225 ∧ (g00) % 65536 = r00 ∧ (g00) / 65536 = c00 ∧ 0 ≤ c00 ∧ c00 ≤ 65535) ∧ Hid (x0 * y1 = g01 ∧ 0 ≤ g01 ∧ g01 ≤ 4294836225 ∧ (c00 + g01) % 65536 = r01 ∧ (c00 + g01) / 65536 = c01 ∧ 0 ≤ c01 ∧ c01 ≤ 65535 ∧ 0 ≤ c00 ∧ c00 ≤ 65535) ∧ Hid (x0 * y2 = g02 ∧ 0 ≤ g02 ∧ g02 ≤ 4294836225 ∧ (c01 + g02) % 65536 = r02 ∧ (c01 + g02) / 65536 = c02 ∧ 0 ≤ c02 ∧ c02 ≤ 65535 ∧ 0 ≤ c01 ∧ c01 ≤ 65535) ∧ Hid (x0 * y3 = g03 ∧ 0 ≤ g03 ∧ g03 ≤ 4294836225 ∧ (c02 + g03) % 65536 = r03 ∧ (c02 + g03) / 65536 = c03 ∧ 0 ≤ c03 ∧ c03 ≤ 65535 ∧ 0 ≤ c02 ∧ c02 ≤ 65535) ∧ Hid (x1 * y0 = g10 ∧ 0 ≤ g10 ∧ g10 ≤ 4294836225 ∧ (r01 + g10) % 65536 = r10 ∧ (r01 + g10) / 65536 = c10 ∧ 0 ≤ c10 ∧ c10 ≤ 65535 ∧ 0 ≤ r01 ∧ r01 ≤ 65535) ∧ Hid (x1 * y1 = g11 ∧ 0 ≤ g11 ∧ g11 ≤ 4294836225 ∧ (c10 + (r02 + g11)) % 65536 = r11 ∧ (c10 + (r02 + g11)) / 65536 = c11 ∧ 0 ≤ c11 ∧ c11 ≤ 65535 ∧ 0 ≤ c10 ∧ c10 ≤ 65535 ∧ 0 ≤ r02 ∧ r02 ≤ 65535) ∧ Hid (x1 * y2 = g12 ∧ 0 ≤ g12 ∧ g12 ≤ 4294836225 ∧ (c11 + (r03 + g12)) % 65536 = r12 ∧ (c11 + (r03 + g12)) / 65536 = c12 ∧ 0 ≤ c12 ∧ c12 ≤ 65535 ∧ 0 ≤ c11 ∧ c11 ≤ 65535 ∧ 0 ≤ r03 ∧ r03 ≤ 65535) ∧ Hid (x1 * y3 = g13 ∧ 0 ≤ g13 ∧ g13 ≤ 4294836225 ∧ (c12 + (c03 + g13)) % 65536 = r13 ∧ (c12 + (c03 + g13)) / 65536 = c13 ∧ 0 ≤ c13 ∧ c13 ≤ 65535 ∧ 0 ≤ c12 ∧ c12 ≤ 65535 ∧ 0 ≤ c03 ∧ c03 ≤ 65535) ∧ Hid (x2 * y0 = g20 ∧ 0 ≤ g20 ∧ g20 ≤ 4294836225 ∧ (r11 + g20) % 65536 = r20 ∧ (r11 + g20) / 65536 = c20 ∧ 0 ≤ c20 ∧ c20 ≤ 65535 ∧ 0 ≤ r11 ∧ r11 ≤ 65535) ∧ Hid (x2 * y1 = g21 ∧ 0 ≤ g21 ∧ g21 ≤ 4294836225 ∧ (c20 + (r12 + g21)) % 65536 = r21 ∧ (c20 + (r12 + g21)) / 65536 = c21 ∧ 0 ≤ c21 ∧ c21 ≤ 65535 ∧ 0 ≤ c20 ∧ c20 ≤ 65535 ∧ 0 ≤ r12 ∧ r12 ≤ 65535) ∧ Hid (x2 * y2 = g22 ∧ 0 ≤ g22 ∧ g22 ≤ 4294836225 ∧ (c21 + (r13 + g22)) % 65536 = r22 ∧ (c21 + (r13 + g22)) / 65536 = c22 ∧ 0 ≤ c22 ∧ c22 ≤ 65535 ∧ 0 ≤ c21 ∧ c21 ≤ 65535 ∧ 0 ≤ r13 ∧ r13 ≤ 65535) ∧ Hid (x2 * y3 = g23 ∧ 0 ≤ g23 ∧ g23 ≤ 4294836225 ∧ (c22 + (c13 + g23)) % 65536 = r23 ∧ (c22 + (c13 + g23)) / 65536 = c23 ∧ 0 ≤ c23 ∧ c23 ≤ 65535 ∧ 0 ≤ c22 ∧ c22 ≤ 65535 ∧ 0 ≤ c13 ∧ c13 ≤ 65535) ∧ Hid (x3 * y0 = g30 ∧ 0 ≤ g30 ∧ g30 ≤ 4294836225 ∧ (r21 + g30) % 65536 = r30 ∧ (r21 + g30) / 65536 = c30 ∧ 0 ≤ c30 ∧ c30 ≤ 65535 ∧ 0 ≤ r21 ∧ r21 ≤ 65535) ∧ Hid (x3 * y1 = g31 ∧ 0 ≤ g31 ∧ g31 ≤ 4294836225 ∧ (c30 + (r22 + g31)) % 65536 = r31 ∧ (c30 + (r22 + g31)) / 65536 = c31 ∧ 0 ≤ c31 ∧ c31 ≤ 65535 ∧ 0 ≤ c30 ∧ c30 ≤ 65535 ∧ 0 ≤ r22 ∧ r22 ≤ 65535) ∧ Hid (x3 * y2 = g32 ∧ 0 ≤ g32 ∧ g32 ≤ 4294836225 ∧ (c31 + (r23 + g32)) % 65536 = r32 ∧ (c31 + (r23 + g32)) / 65536 = c32 ∧ 0 ≤ c32 ∧ c32 ≤ 65535 ∧ 0 ≤ c31 ∧ c31 ≤ 65535 ∧ 0 ≤ r23 ∧ r23 ≤ 65535) ∧ Hid (x3 * y3 = g33 ∧ 0 ≤ g33 ∧ g33 ≤ 4294836225 ∧ (c32 + (c23 + g33)) % 65536 = r33 ∧ (c32 + (c23 + g33)) / 65536 = c33 ∧ 0 ≤ c33 ∧ c33 ≤ 65535 ∧ 0 ≤ c32 ∧ c32 ≤ 65535 ∧ 0 ≤ c23 ∧ c23 ≤ 65535) ∧ D8 (x * y) r00 r10 r20 r30 r31 r32 r33 c33 := by
  obtain ⟨g00, e00, l00, u00⟩ := dig_prod a0.1 a0.2 b0.1 b0.2
  obtain ⟨g01, e01, l01, u01⟩ := dig_prod a0.1 a0.2 b1.1 b1.2
  obtain ⟨g02, e02, l02, u02⟩ := dig_prod a0.1 a0.2 b2.1 b2.2
  obtain ⟨g03, e03, l03, u03⟩ := dig_prod a0.1 a0.2 b3.1 b3.2
  obtain ⟨g10, e10, l10, u10⟩ := dig_prod a1.1 a1.2 b0.1 b0.2
  obtain ⟨g11, e11, l11, u11⟩ := dig_prod a1.1 a1.2 b1.1 b1.2
  obtain ⟨g12, e12, l12, u12⟩ := dig_prod a1.1 a1.2 b2.1 b2.2
  obtain ⟨g13, e13, l13, u13⟩ := dig_prod a1.1 a1.2 b3.1 b3.2
  obtain ⟨g20, e20, l20, u20⟩ := dig_prod a2.1 a2.2 b0.1 b0.2
  obtain ⟨g21, e21, l21, u21⟩ := dig_prod a2.1 a2.2 b1.1 b1.2
  obtain ⟨g22, e22, l22, u22⟩ := dig_prod a2.1 a2.2 b2.1 b2.2
  obtain ⟨g23, e23, l23, u23⟩ := dig_prod a2.1 a2.2 b3.1 b3.2
  obtain ⟨g30, e30, l30, u30⟩ := dig_prod a3.1 a3.2 b0.1 b0.2
  obtain ⟨g31, e31, l31, u31⟩ := dig_prod a3.1 a3.2 b1.1 b1.2
  obtain ⟨g32, e32, l32, u32⟩ := dig_prod a3.1 a3.2 b2.1 b2.2
  obtain ⟨g33, e33, l33, u33⟩ := dig_prod a3.1 a3.2 b3.1 b3.2
  obtain ⟨r00, c00, p00, q00, s00, t00, v00, w00, z00⟩ := tstep (t := g00) (by omega) (by omega)
  obtain ⟨r01, c01, p01, q01, s01, t01, v01, w01, z01⟩ := tstep (t := c00 + g01) (by omega) (by omega)
  obtain ⟨r02, c02, p02, q02, s02, t02, v02, w02, z02⟩ := tstep (t := c01 + g02) (by omega) (by omega)
  obtain ⟨r03, c03, p03, q03, s03, t03, v03, w03, z03⟩ := tstep (t := c02 + g03) (by omega) (by omega)
  obtain ⟨r10, c10, p10, q10, s10, t10, v10, w10, z10⟩ := tstep (t := r01 + g10) (by omega) (by omega)
  obtain ⟨r11, c11, p11, q11, s11, t11, v11, w11, z11⟩ := tstep (t := c10 + (r02 + g11)) (by omega) (by omega)
  obtain ⟨r12, c12, p12, q12, s12, t12, v12, w12, z12⟩ := tstep (t := c11 + (r03 + g12)) (by omega) (by omega)
  obtain ⟨r13, c13, p13, q13, s13, t13, v13, w13, z13⟩ := tstep (t := c12 + (c03 + g13)) (by omega) (by omega)
  obtain ⟨r20, c20, p20, q20, s20, t20, v20, w20, z20⟩ := tstep (t := r11 + g20) (by omega) (by omega)
  obtain ⟨r21, c21, p21, q21, s21, t21, v21, w21, z21⟩ := tstep (t := c20 + (r12 + g21)) (by omega) (by omega)
  obtain ⟨r22, c22, p22, q22, s22, t22, v22, w22, z22⟩ := tstep (t := c21 + (r13 + g22)) (by omega) (by omega)
  obtain ⟨r23, c23, p23, q23, s23, t23, v23, w23, z23⟩ := tstep (t := c22 + (c13 + g23)) (by omega) (by omega)
  obtain ⟨r30, c30, p30, q30, s30, t30, v30, w30, z30⟩ := tstep (t := r21 + g30) (by omega) (by omega)
  obtain ⟨r31, c31, p31, q31, s31, t31, v31, w31, z31⟩ := tstep (t := c30 + (r22 + g31)) (by omega) (by omega)
  obtain ⟨r32, c32, p32, q32, s32, t32, v32, w32, z32⟩ := tstep (t := c31 + (r23 + g32)) (by omega) (by omega)
  obtain ⟨r33, c33, p33, q33, s33, t33, v33, w33, z33⟩ := tstep (t := c32 + (c23 + g33)) (by omega) (by omega)
  have eY : ∀ k : Int, k * (y0 + y1 * 65536 + y2 * 4294967296 + y3 * 281474976710656) = k * y0 + k * y1 * 65536 + k * y2 * 4294967296 + k * y3 * 281474976710656 := by
    intro k; simp only [Int.mul_add, ← Int.mul_assoc]
  have eX : x * y = x0 * y + x1 * y * 65536 + x2 * y * 4294967296 + x3 * y * 281474976710656 := by
    rw [ex, Int.add_mul, Int.add_mul, Int.add_mul, Int.mul_right_comm x1, Int.mul_right_comm x2, Int.mul_right_comm x3]
  have f0 : x0 * y = g00 + g01 * 65536 + g02 * 4294967296 + g03 * 281474976710656 := by rw [ey, eY, e00, e01, e02, e03]
  have f1 : x1 * y = g10 + g11 * 65536 + g12 * 4294967296 + g13 * 281474976710656 := by rw [ey, eY, e10, e11, e12, e13]
  have f2 : x2 * y = g20 + g21 * 65536 + g22 * 4294967296 + g23 * 281474976710656 := by rw [ey, eY, e20, e21, e22, e23]
  have f3 : x3 * y = g30 + g31 * 65536 + g32 * 4294967296 + g33 * 281474976710656 := by rw [ey, eY, e30, e31, e32, e33]
  rw [f0, f1, f2, f3] at eX
  refine ⟨g00, g01, g02, g03, g10, g11, g12, g13, g20, g21, g22, g23, g30, g31, g32, g33, r00, r01, r02, r03, r10, r11, r12, r13, r20, r21, r22, r23, r30, r31, r32, r33, c00, c01, c02, c03, c10, c11, c12, c13, c20, c21, c22, c23, c30, c31, c32, c33, Lib.hid ⟨e00, l00, u00, p00, q00, v00, w00⟩, Lib.hid ⟨e01, l01, u01, p01, q01, v01, w01, v00, w00⟩, Lib.hid ⟨e02, l02, u02, p02, q02, v02, w02, v01, w01⟩, Lib.hid ⟨e03, l03, u03, p03, q03, v03, w03, v02, w02⟩, Lib.hid ⟨e10, l10, u10, p10, q10, v10, w10, s01, t01⟩, Lib.hid ⟨e11, l11, u11, p11, q11, v11, w11, v10, w10, s02, t02⟩, Lib.hid ⟨e12, l12, u12, p12, q12, v12, w12, v11, w11, s03, t03⟩, Lib.hid ⟨e13, l13, u13, p13, q13, v13, w13, v12, w12, v03, w03⟩, Lib.hid ⟨e20, l20, u20, p20, q20, v20, w20, s11, t11⟩, Lib.hid ⟨e21, l21, u21, p21, q21, v21, w21, v20, w20, s12, t12⟩, Lib.hid ⟨e22, l22, u22, p22, q22, v22, w22, v21, w21, s13, t13⟩, Lib.hid ⟨e23, l23, u23, p23, q23, v23, w23, v22, w22, v13, w13⟩, Lib.hid ⟨e30, l30, u30, p30, q30, v30, w30, s21, t21⟩, Lib.hid ⟨e31, l31, u31, p31, q31, v31, w31, v30, w30, s22, t22⟩, Lib.hid ⟨e32, l32, u32, p32, q32, v32, w32, v31, w31, s23, t23⟩, Lib.hid ⟨e33, l33, u33, p33, q33, v33, w33, v32, w32, v23, w23⟩, ?_⟩
  refine ⟨⟨s00, t00⟩, ⟨s10, t10⟩, ⟨s20, t20⟩, ⟨s30, t30⟩, ⟨s31, t31⟩, ⟨s32, t32⟩, ⟨s33, t33⟩, ⟨v33, w33⟩, ?_⟩
  clear e00 p00 q00 l00 u00 s00 t00 v00 w00 e01 p01 q01 l01 u01 s01 t01 v01 w01 e02 p02 q02 l02 u02 s02 t02 v02 w02 e03 p03 q03 l03 u03 s03 t03 v03 w03 e10 p10 q10 l10 u10 s10 t10 v10 w10 e11 p11 q11 l11 u11 s11 t11 v11 w11 e12 p12 q12 l12 u12 s12 t12 v12 w12 e13 p13 q13 l13 u13 s13 t13 v13 w13 e20 p20 q20 l20 u20 s20 t20 v20 w20 e21 p21 q21 l21 u21 s21 t21 v21 w21 e22 p22 q22 l22 u22 s22 t22 v22 w22 e23 p23 q23 l23 u23 s23 t23 v23 w23 e30 p30 q30 l30 u30 s30 t30 v30 w30 e31 p31 q31 l31 u31 s31 t31 v31 w31 e32 p32 q32 l32 u32 s32 t32 v32 w32 e33 p33 q33 l33 u33 s33 t33 v33 w33 ex ey eY f0 f1 f2 f3 a0 a1 a2 a3 b0 b1 b2 b3
  omega

end Go.Proofs.Ytmngbhkokglmjaa.Vm
