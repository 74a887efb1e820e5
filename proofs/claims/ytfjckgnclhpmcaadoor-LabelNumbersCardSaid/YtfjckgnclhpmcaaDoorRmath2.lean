/- Plain facts on sums and differences digit by digit; nothing of the program. -/
import Derived.Test.YtfjckgnclhpmcaaDoorRmath
namespace Go.Proofs.YtfjckgnclhpmcaaDoor.Vm
set_option linter.unusedSimpArgs false
set_option linter.unusedVariables false
open Go.RowKit (wrap32 wrap64)

theorem dstep {t : Int} (h0 : 0 ≤ t) (h1 : t ≤ 131071) : ∃ r m : Int, t % 65536 = r ∧ t / 65536 = m ∧ 0 ≤ r ∧ r ≤ 65535 ∧ 0 ≤ m ∧ m ≤ 1 ∧ t = r + 65536 * m :=
  ⟨t % 65536, t / 65536, rfl, rfl, by omega, by omega, by omega, by omega, by omega⟩

theorem add_ex {x y x0 x1 x2 x3 x4 x5 x6 x7 y0 y1 y2 y3 y4 y5 y6 y7 : Int} (D : D8 x x0 x1 x2 x3 x4 x5 x6 x7) (E : D8 y y0 y1 y2 y3 y4 y5 y6 y7) :
    ∃ r0 r1 r2 r3 r4 r5 r6 r7 m1 m2 m3 m4 m5 m6 m7 m8 : Int, (x0 + y0) % 65536 = r0 ∧ (x0 + y0) / 65536 = m1 ∧ (m1 + (x1 + y1)) % 65536 = r1 ∧ (m1 + (x1 + y1)) / 65536 = m2 ∧ (m2 + (x2 + y2)) % 65536 = r2 ∧ (m2 + (x2 + y2)) / 65536 = m3 ∧ (m3 + (x3 + y3)) % 65536 = r3 ∧ (m3 + (x3 + y3)) / 65536 = m4 ∧ (m4 + (x4 + y4)) % 65536 = r4 ∧ (m4 + (x4 + y4)) / 65536 = m5 ∧ (m5 + (x5 + y5)) % 65536 = r5 ∧ (m5 + (x5 + y5)) / 65536 = m6 ∧ (m6 + (x6 + y6)) % 65536 = r6 ∧ (m6 + (x6 + y6)) / 65536 = m7 ∧ (m7 + (x7 + y7)) % 65536 = r7 ∧ (m7 + (x7 + y7)) / 65536 = m8 ∧ 0 ≤ m1 ∧ m1 ≤ 1 ∧ 0 ≤ m2 ∧ m2 ≤ 1 ∧ 0 ≤ m3 ∧ m3 ≤ 1 ∧ 0 ≤ m4 ∧ m4 ≤ 1 ∧ 0 ≤ m5 ∧ m5 ≤ 1 ∧ 0 ≤ m6 ∧ m6 ≤ 1 ∧ 0 ≤ m7 ∧ m7 ≤ 1 ∧ 0 ≤ m8 ∧ m8 ≤ 1 ∧ D8 (x + y - m8 * 340282366920938463463374607431768211456) r0 r1 r2 r3 r4 r5 r6 r7 := by
  unfold D8 Dg at *
  obtain ⟨⟨a0, b0⟩, ⟨a1, b1⟩, ⟨a2, b2⟩, ⟨a3, b3⟩, ⟨a4, b4⟩, ⟨a5, b5⟩, ⟨a6, b6⟩, ⟨a7, b7⟩, ex⟩ := D
  obtain ⟨⟨f0, g0⟩, ⟨f1, g1⟩, ⟨f2, g2⟩, ⟨f3, g3⟩, ⟨f4, g4⟩, ⟨f5, g5⟩, ⟨f6, g6⟩, ⟨f7, g7⟩, ey⟩ := E
  obtain ⟨r0, m1, u0, v0, p0, o0, w0, z0, l0⟩ := dstep (t := x0 + y0) (by omega) (by omega)
  obtain ⟨r1, m2, u1, v1, p1, o1, w1, z1, l1⟩ := dstep (t := m1 + (x1 + y1)) (by omega) (by omega)
  obtain ⟨r2, m3, u2, v2, p2, o2, w2, z2, l2⟩ := dstep (t := m2 + (x2 + y2)) (by omega) (by omega)
  obtain ⟨r3, m4, u3, v3, p3, o3, w3, z3, l3⟩ := dstep (t := m3 + (x3 + y3)) (by omega) (by omega)
  obtain ⟨r4, m5, u4, v4, p4, o4, w4, z4, l4⟩ := dstep (t := m4 + (x4 + y4)) (by omega) (by omega)
  obtain ⟨r5, m6, u5, v5, p5, o5, w5, z5, l5⟩ := dstep (t := m5 + (x5 + y5)) (by omega) (by omega)
  obtain ⟨r6, m7, u6, v6, p6, o6, w6, z6, l6⟩ := dstep (t := m6 + (x6 + y6)) (by omega) (by omega)
  obtain ⟨r7, m8, u7, v7, p7, o7, w7, z7, l7⟩ := dstep (t := m7 + (x7 + y7)) (by omega) (by omega)
  refine ⟨r0, r1, r2, r3, r4, r5, r6, r7, m1, m2, m3, m4, m5, m6, m7, m8, u0, v0, u1, v1, u2, v2, u3, v3, u4, v4, u5, v5, u6, v6, u7, v7, w0, z0, w1, z1, w2, z2, w3, z3, w4, z4, w5, z5, w6, z6, w7, z7, ?_⟩
  omega

theorem sub_ex {x y x0 x1 x2 x3 x4 x5 x6 x7 y0 y1 y2 y3 y4 y5 y6 y7 : Int} (D : D8 x x0 x1 x2 x3 x4 x5 x6 x7) (E : D8 y y0 y1 y2 y3 y4 y5 y6 y7) (h : y ≤ x) :
    ∃ r0 r1 r2 r3 r4 r5 r6 r7 q0 q1 q2 q3 q4 q5 q6 q7 k1 k2 k3 k4 k5 k6 k7 k8 : Int, (x0 + 65536 - y0) % 65536 = r0 ∧ (x0 + 65536 - y0) / 65536 = q0 ∧ 1 - q0 = k1 ∧ (x1 + 65536 - y1 - k1) % 65536 = r1 ∧ (x1 + 65536 - y1 - k1) / 65536 = q1 ∧ 1 - q1 = k2 ∧ (x2 + 65536 - y2 - k2) % 65536 = r2 ∧ (x2 + 65536 - y2 - k2) / 65536 = q2 ∧ 1 - q2 = k3 ∧ (x3 + 65536 - y3 - k3) % 65536 = r3 ∧ (x3 + 65536 - y3 - k3) / 65536 = q3 ∧ 1 - q3 = k4 ∧ (x4 + 65536 - y4 - k4) % 65536 = r4 ∧ (x4 + 65536 - y4 - k4) / 65536 = q4 ∧ 1 - q4 = k5 ∧ (x5 + 65536 - y5 - k5) % 65536 = r5 ∧ (x5 + 65536 - y5 - k5) / 65536 = q5 ∧ 1 - q5 = k6 ∧ (x6 + 65536 - y6 - k6) % 65536 = r6 ∧ (x6 + 65536 - y6 - k6) / 65536 = q6 ∧ 1 - q6 = k7 ∧ (x7 + 65536 - y7 - k7) % 65536 = r7 ∧ (x7 + 65536 - y7 - k7) / 65536 = q7 ∧ 1 - q7 = k8 ∧ 0 ≤ k1 ∧ k1 ≤ 1 ∧ 0 ≤ k2 ∧ k2 ≤ 1 ∧ 0 ≤ k3 ∧ k3 ≤ 1 ∧ 0 ≤ k4 ∧ k4 ≤ 1 ∧ 0 ≤ k5 ∧ k5 ≤ 1 ∧ 0 ≤ k6 ∧ k6 ≤ 1 ∧ 0 ≤ k7 ∧ k7 ≤ 1 ∧ 0 ≤ k8 ∧ k8 ≤ 1 ∧ 0 ≤ q0 ∧ q0 ≤ 1 ∧ 0 ≤ q1 ∧ q1 ≤ 1 ∧ 0 ≤ q2 ∧ q2 ≤ 1 ∧ 0 ≤ q3 ∧ q3 ≤ 1 ∧ 0 ≤ q4 ∧ q4 ≤ 1 ∧ 0 ≤ q5 ∧ q5 ≤ 1 ∧ 0 ≤ q6 ∧ q6 ≤ 1 ∧ 0 ≤ q7 ∧ q7 ≤ 1 ∧ D8 (x - y) r0 r1 r2 r3 r4 r5 r6 r7 := by
  unfold D8 Dg at *
  obtain ⟨⟨a0, b0⟩, ⟨a1, b1⟩, ⟨a2, b2⟩, ⟨a3, b3⟩, ⟨a4, b4⟩, ⟨a5, b5⟩, ⟨a6, b6⟩, ⟨a7, b7⟩, ex⟩ := D
  obtain ⟨⟨f0, g0⟩, ⟨f1, g1⟩, ⟨f2, g2⟩, ⟨f3, g3⟩, ⟨f4, g4⟩, ⟨f5, g5⟩, ⟨f6, g6⟩, ⟨f7, g7⟩, ey⟩ := E
  obtain ⟨r0, q0, u0, v0, p0, o0, w0, z0, l0⟩ := dstep (t := x0 + 65536 - y0) (by omega) (by omega)
  obtain ⟨k1, n0⟩ : ∃ k, 1 - q0 = k := ⟨_, rfl⟩
  have c0 : 0 ≤ k1 ∧ k1 ≤ 1 := by omega
  obtain ⟨r1, q1, u1, v1, p1, o1, w1, z1, l1⟩ := dstep (t := x1 + 65536 - y1 - k1) (by omega) (by omega)
  obtain ⟨k2, n1⟩ : ∃ k, 1 - q1 = k := ⟨_, rfl⟩
  have c1 : 0 ≤ k2 ∧ k2 ≤ 1 := by omega
  obtain ⟨r2, q2, u2, v2, p2, o2, w2, z2, l2⟩ := dstep (t := x2 + 65536 - y2 - k2) (by omega) (by omega)
  obtain ⟨k3, n2⟩ : ∃ k, 1 - q2 = k := ⟨_, rfl⟩
  have c2 : 0 ≤ k3 ∧ k3 ≤ 1 := by omega
  obtain ⟨r3, q3, u3, v3, p3, o3, w3, z3, l3⟩ := dstep (t := x3 + 65536 - y3 - k3) (by omega) (by omega)
  obtain ⟨k4, n3⟩ : ∃ k, 1 - q3 = k := ⟨_, rfl⟩
  have c3 : 0 ≤ k4 ∧ k4 ≤ 1 := by omega
  obtain ⟨r4, q4, u4, v4, p4, o4, w4, z4, l4⟩ := dstep (t := x4 + 65536 - y4 - k4) (by omega) (by omega)
  obtain ⟨k5, n4⟩ : ∃ k, 1 - q4 = k := ⟨_, rfl⟩
  have c4 : 0 ≤ k5 ∧ k5 ≤ 1 := by omega
  obtain ⟨r5, q5, u5, v5, p5, o5, w5, z5, l5⟩ := dstep (t := x5 + 65536 - y5 - k5) (by omega) (by omega)
  obtain ⟨k6, n5⟩ : ∃ k, 1 - q5 = k := ⟨_, rfl⟩
  have c5 : 0 ≤ k6 ∧ k6 ≤ 1 := by omega
  obtain ⟨r6, q6, u6, v6, p6, o6, w6, z6, l6⟩ := dstep (t := x6 + 65536 - y6 - k6) (by omega) (by omega)
  obtain ⟨k7, n6⟩ : ∃ k, 1 - q6 = k := ⟨_, rfl⟩
  have c6 : 0 ≤ k7 ∧ k7 ≤ 1 := by omega
  obtain ⟨r7, q7, u7, v7, p7, o7, w7, z7, l7⟩ := dstep (t := x7 + 65536 - y7 - k7) (by omega) (by omega)
  obtain ⟨k8, n7⟩ : ∃ k, 1 - q7 = k := ⟨_, rfl⟩
  have c7 : 0 ≤ k8 ∧ k8 ≤ 1 := by omega
  refine ⟨r0, r1, r2, r3, r4, r5, r6, r7, q0, q1, q2, q3, q4, q5, q6, q7, k1, k2, k3, k4, k5, k6, k7, k8, u0, v0, n0, u1, v1, n1, u2, v2, n2, u3, v3, n3, u4, v4, n4, u5, v5, n5, u6, v6, n6, u7, v7, n7, c0.1, c0.2, c1.1, c1.2, c2.1, c2.2, c3.1, c3.2, c4.1, c4.2, c5.1, c5.2, c6.1, c6.2, c7.1, c7.2, w0, z0, w1, z1, w2, z2, w3, z3, w4, z4, w5, z5, w6, z6, w7, z7, ?_⟩
  omega

end Go.Proofs.YtfjckgnclhpmcaaDoor.Vm
