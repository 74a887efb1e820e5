/- Plain facts for Div of the reference of layer 2: a digit's bits divided one by one; nothing of the program. -/
import Derived.Test.YtmngbhkokglmjaaRmath
import Derived.Test.YtmngbhkokglmjaaVmath4
namespace Go.Proofs.Ytmngbhkokglmjaa.Vm
set_option maxHeartbeats 1000000
open Go.RowKit (wrap32 wrap64)

/-- what is still to come, and the bit that is next -/
def PB (P B : Int) : Prop := (P = 65536 ∧ B = 32768) ∨ (P = 32768 ∧ B = 16384) ∨ (P = 16384 ∧ B = 8192) ∨ (P = 8192 ∧ B = 4096) ∨ (P = 4096 ∧ B = 2048) ∨ (P = 2048 ∧ B = 1024) ∨ (P = 1024 ∧ B = 512) ∨ (P = 512 ∧ B = 256) ∨ (P = 256 ∧ B = 128) ∨ (P = 128 ∧ B = 64) ∨ (P = 64 ∧ B = 32) ∨ (P = 32 ∧ B = 16) ∨ (P = 16 ∧ B = 8) ∨ (P = 8 ∧ B = 4) ∨ (P = 4 ∧ B = 2) ∨ (P = 2 ∧ B = 1) ∨ (P = 1 ∧ B = 0)

/-- a digit d under what is left, L: of its bits some are divided by b -/
def DJ (L b d P B u g : Int) : Prop := PB P B ∧ 0 ≤ u ∧ u < b ∧ 0 ≤ g ∧ (g + 1) * P ≤ 65536 ∧ L * 65536 + d = (g * b + u) * P + d % P

theorem dj_start {L b d : Int} (h0 : 0 ≤ L) (h1 : L < b) (c : Dg d) : DJ L b d 65536 32768 L 0 := by
  unfold Dg at c
  refine ⟨Or.inl ⟨rfl, rfl⟩, h0, h1, by omega, by omega, ?_⟩
  rw [Int.zero_mul]; omega

theorem dj_end {L b d P u g : Int} (h : DJ L b d P 0 u g) : g * b + u = L * 65536 + d ∧ 0 ≤ u ∧ u < b := by
  obtain ⟨p, h0, h1, h2, h3, h4⟩ := h
  have e : P = 1 := by
    unfold PB at p
    rcases p with ⟨a, c⟩ | ⟨a, c⟩ | ⟨a, c⟩ | ⟨a, c⟩ | ⟨a, c⟩ | ⟨a, c⟩ | ⟨a, c⟩ | ⟨a, c⟩ | ⟨a, c⟩ | ⟨a, c⟩ | ⟨a, c⟩ | ⟨a, c⟩ | ⟨a, c⟩ | ⟨a, c⟩ | ⟨a, c⟩ | ⟨a, c⟩ | ⟨a, c⟩ <;> first | (exact a) | (exfalso; omega)
  subst e
  exact ⟨by omega, h0, h1⟩

theorem dj_step {L b d P B u g : Int} (hB : 0 < B) (c : Dg d) (h : DJ L b d P B u g) :
    0 ≤ u ∧ u < b ∧ 0 ≤ g ∧ g ≤ 32767 ∧ B ≤ 32768 ∧ ∃ m t B' : Int, d / B = m ∧ m % 2 = t ∧ 0 ≤ m ∧ m ≤ 65535 ∧ 0 ≤ t ∧ t ≤ 1 ∧ B / 2 = B' ∧ 0 ≤ B' ∧ B' < B ∧
      (b ≤ u * 2 + t → DJ L b d B B' (u * 2 + t - b) (g * 2 + 1)) ∧ (u * 2 + t < b → DJ L b d B B' (u * 2 + t) (g * 2)) := by
  obtain ⟨p, h0, h1, h2, h3, h4⟩ := h
  have eq1 : (g * 2 + 1) * b = 2 * (g * b) + b := by rw [Int.add_mul, Int.one_mul, Int.mul_right_comm, Int.mul_comm _ 2]
  have eq2 : g * 2 * b = 2 * (g * b) := by rw [Int.mul_right_comm, Int.mul_comm _ 2]
  unfold Dg at c
  unfold DJ
  rw [eq1, eq2]
  clear eq1 eq2
  generalize g * b = G at *
  unfold PB at p
  rcases p with ⟨rfl, rfl⟩ | ⟨rfl, rfl⟩ | ⟨rfl, rfl⟩ | ⟨rfl, rfl⟩ | ⟨rfl, rfl⟩ | ⟨rfl, rfl⟩ | ⟨rfl, rfl⟩ | ⟨rfl, rfl⟩ | ⟨rfl, rfl⟩ | ⟨rfl, rfl⟩ | ⟨rfl, rfl⟩ | ⟨rfl, rfl⟩ | ⟨rfl, rfl⟩ | ⟨rfl, rfl⟩ | ⟨rfl, rfl⟩ | ⟨rfl, rfl⟩ | ⟨rfl, rfl⟩
  · refine ⟨h0, h1, h2, by omega, by omega, d / 32768, d / 32768 % 2, 16384, rfl, rfl, by omega, by omega, by omega, by omega, rfl, by omega, by omega, fun hc => ⟨Or.inr (Or.inl ⟨rfl, rfl⟩), by omega, by omega, by omega, by omega, by omega⟩, fun hc => ⟨Or.inr (Or.inl ⟨rfl, rfl⟩), by omega, by omega, by omega, by omega, by omega⟩⟩
  · refine ⟨h0, h1, h2, by omega, by omega, d / 16384, d / 16384 % 2, 8192, rfl, rfl, by omega, by omega, by omega, by omega, rfl, by omega, by omega, fun hc => ⟨Or.inr (Or.inr (Or.inl ⟨rfl, rfl⟩)), by omega, by omega, by omega, by omega, by omega⟩, fun hc => ⟨Or.inr (Or.inr (Or.inl ⟨rfl, rfl⟩)), by omega, by omega, by omega, by omega, by omega⟩⟩
  · refine ⟨h0, h1, h2, by omega, by omega, d / 8192, d / 8192 % 2, 4096, rfl, rfl, by omega, by omega, by omega, by omega, rfl, by omega, by omega, fun hc => ⟨Or.inr (Or.inr (Or.inr (Or.inl ⟨rfl, rfl⟩))), by omega, by omega, by omega, by omega, by omega⟩, fun hc => ⟨Or.inr (Or.inr (Or.inr (Or.inl ⟨rfl, rfl⟩))), by omega, by omega, by omega, by omega, by omega⟩⟩
  · refine ⟨h0, h1, h2, by omega, by omega, d / 4096, d / 4096 % 2, 2048, rfl, rfl, by omega, by omega, by omega, by omega, rfl, by omega, by omega, fun hc => ⟨Or.inr (Or.inr (Or.inr (Or.inr (Or.inl ⟨rfl, rfl⟩)))), by omega, by omega, by omega, by omega, by omega⟩, fun hc => ⟨Or.inr (Or.inr (Or.inr (Or.inr (Or.inl ⟨rfl, rfl⟩)))), by omega, by omega, by omega, by omega, by omega⟩⟩
  · refine ⟨h0, h1, h2, by omega, by omega, d / 2048, d / 2048 % 2, 1024, rfl, rfl, by omega, by omega, by omega, by omega, rfl, by omega, by omega, fun hc => ⟨Or.inr (Or.inr (Or.inr (Or.inr (Or.inr (Or.inl ⟨rfl, rfl⟩))))), by omega, by omega, by omega, by omega, by omega⟩, fun hc => ⟨Or.inr (Or.inr (Or.inr (Or.inr (Or.inr (Or.inl ⟨rfl, rfl⟩))))), by omega, by omega, by omega, by omega, by omega⟩⟩
  · refine ⟨h0, h1, h2, by omega, by omega, d / 1024, d / 1024 % 2, 512, rfl, rfl, by omega, by omega, by omega, by omega, rfl, by omega, by omega, fun hc => ⟨Or.inr (Or.inr (Or.inr (Or.inr (Or.inr (Or.inr (Or.inl ⟨rfl, rfl⟩)))))), by omega, by omega, by omega, by omega, by omega⟩, fun hc => ⟨Or.inr (Or.inr (Or.inr (Or.inr (Or.inr (Or.inr (Or.inl ⟨rfl, rfl⟩)))))), by omega, by omega, by omega, by omega, by omega⟩⟩
  · refine ⟨h0, h1, h2, by omega, by omega, d / 512, d / 512 % 2, 256, rfl, rfl, by omega, by omega, by omega, by omega, rfl, by omega, by omega, fun hc => ⟨Or.inr (Or.inr (Or.inr (Or.inr (Or.inr (Or.inr (Or.inr (Or.inl ⟨rfl, rfl⟩))))))), by omega, by omega, by omega, by omega, by omega⟩, fun hc => ⟨Or.inr (Or.inr (Or.inr (Or.inr (Or.inr (Or.inr (Or.inr (Or.inl ⟨rfl, rfl⟩))))))), by omega, by omega, by omega, by omega, by omega⟩⟩
  · refine ⟨h0, h1, h2, by omega, by omega, d / 256, d / 256 % 2, 128, rfl, rfl, by omega, by omega, by omega, by omega, rfl, by omega, by omega, fun hc => ⟨Or.inr (Or.inr (Or.inr (Or.inr (Or.inr (Or.inr (Or.inr (Or.inr (Or.inl ⟨rfl, rfl⟩)))))))), by omega, by omega, by omega, by omega, by omega⟩, fun hc => ⟨Or.inr (Or.inr (Or.inr (Or.inr (Or.inr (Or.inr (Or.inr (Or.inr (Or.inl ⟨rfl, rfl⟩)))))))), by omega, by omega, by omega, by omega, by omega⟩⟩
  · refine ⟨h0, h1, h2, by omega, by omega, d / 128, d / 128 % 2, 64, rfl, rfl, by omega, by omega, by omega, by omega, rfl, by omega, by omega, fun hc => ⟨Or.inr (Or.inr (Or.inr (Or.inr (Or.inr (Or.inr (Or.inr (Or.inr (Or.inr (Or.inl ⟨rfl, rfl⟩))))))))), by omega, by omega, by omega, by omega, by omega⟩, fun hc => ⟨Or.inr (Or.inr (Or.inr (Or.inr (Or.inr (Or.inr (Or.inr (Or.inr (Or.inr (Or.inl ⟨rfl, rfl⟩))))))))), by omega, by omega, by omega, by omega, by omega⟩⟩
  · refine ⟨h0, h1, h2, by omega, by omega, d / 64, d / 64 % 2, 32, rfl, rfl, by omega, by omega, by omega, by omega, rfl, by omega, by omega, fun hc => ⟨Or.inr (Or.inr (Or.inr (Or.inr (Or.inr (Or.inr (Or.inr (Or.inr (Or.inr (Or.inr (Or.inl ⟨rfl, rfl⟩)))))))))), by omega, by omega, by omega, by omega, by omega⟩, fun hc => ⟨Or.inr (Or.inr (Or.inr (Or.inr (Or.inr (Or.inr (Or.inr (Or.inr (Or.inr (Or.inr (Or.inl ⟨rfl, rfl⟩)))))))))), by omega, by omega, by omega, by omega, by omega⟩⟩
  · refine ⟨h0, h1, h2, by omega, by omega, d / 32, d / 32 % 2, 16, rfl, rfl, by omega, by omega, by omega, by omega, rfl, by omega, by omega, fun hc => ⟨Or.inr (Or.inr (Or.inr (Or.inr (Or.inr (Or.inr (Or.inr (Or.inr (Or.inr (Or.inr (Or.inr (Or.inl ⟨rfl, rfl⟩))))))))))), by omega, by omega, by omega, by omega, by omega⟩, fun hc => ⟨Or.inr (Or.inr (Or.inr (Or.inr (Or.inr (Or.inr (Or.inr (Or.inr (Or.inr (Or.inr (Or.inr (Or.inl ⟨rfl, rfl⟩))))))))))), by omega, by omega, by omega, by omega, by omega⟩⟩
  · refine ⟨h0, h1, h2, by omega, by omega, d / 16, d / 16 % 2, 8, rfl, rfl, by omega, by omega, by omega, by omega, rfl, by omega, by omega, fun hc => ⟨Or.inr (Or.inr (Or.inr (Or.inr (Or.inr (Or.inr (Or.inr (Or.inr (Or.inr (Or.inr (Or.inr (Or.inr (Or.inl ⟨rfl, rfl⟩)))))))))))), by omega, by omega, by omega, by omega, by omega⟩, fun hc => ⟨Or.inr (Or.inr (Or.inr (Or.inr (Or.inr (Or.inr (Or.inr (Or.inr (Or.inr (Or.inr (Or.inr (Or.inr (Or.inl ⟨rfl, rfl⟩)))))))))))), by omega, by omega, by omega, by omega, by omega⟩⟩
  · refine ⟨h0, h1, h2, by omega, by omega, d / 8, d / 8 % 2, 4, rfl, rfl, by omega, by omega, by omega, by omega, rfl, by omega, by omega, fun hc => ⟨Or.inr (Or.inr (Or.inr (Or.inr (Or.inr (Or.inr (Or.inr (Or.inr (Or.inr (Or.inr (Or.inr (Or.inr (Or.inr (Or.inl ⟨rfl, rfl⟩))))))))))))), by omega, by omega, by omega, by omega, by omega⟩, fun hc => ⟨Or.inr (Or.inr (Or.inr (Or.inr (Or.inr (Or.inr (Or.inr (Or.inr (Or.inr (Or.inr (Or.inr (Or.inr (Or.inr (Or.inl ⟨rfl, rfl⟩))))))))))))), by omega, by omega, by omega, by omega, by omega⟩⟩
  · refine ⟨h0, h1, h2, by omega, by omega, d / 4, d / 4 % 2, 2, rfl, rfl, by omega, by omega, by omega, by omega, rfl, by omega, by omega, fun hc => ⟨Or.inr (Or.inr (Or.inr (Or.inr (Or.inr (Or.inr (Or.inr (Or.inr (Or.inr (Or.inr (Or.inr (Or.inr (Or.inr (Or.inr (Or.inl ⟨rfl, rfl⟩)))))))))))))), by omega, by omega, by omega, by omega, by omega⟩, fun hc => ⟨Or.inr (Or.inr (Or.inr (Or.inr (Or.inr (Or.inr (Or.inr (Or.inr (Or.inr (Or.inr (Or.inr (Or.inr (Or.inr (Or.inr (Or.inl ⟨rfl, rfl⟩)))))))))))))), by omega, by omega, by omega, by omega, by omega⟩⟩
  · refine ⟨h0, h1, h2, by omega, by omega, d / 2, d / 2 % 2, 1, rfl, rfl, by omega, by omega, by omega, by omega, rfl, by omega, by omega, fun hc => ⟨Or.inr (Or.inr (Or.inr (Or.inr (Or.inr (Or.inr (Or.inr (Or.inr (Or.inr (Or.inr (Or.inr (Or.inr (Or.inr (Or.inr (Or.inr (Or.inl ⟨rfl, rfl⟩))))))))))))))), by omega, by omega, by omega, by omega, by omega⟩, fun hc => ⟨Or.inr (Or.inr (Or.inr (Or.inr (Or.inr (Or.inr (Or.inr (Or.inr (Or.inr (Or.inr (Or.inr (Or.inr (Or.inr (Or.inr (Or.inr (Or.inl ⟨rfl, rfl⟩))))))))))))))), by omega, by omega, by omega, by omega, by omega⟩⟩
  · refine ⟨h0, h1, h2, by omega, by omega, d / 1, d / 1 % 2, 0, rfl, rfl, by omega, by omega, by omega, by omega, rfl, by omega, by omega, fun hc => ⟨Or.inr (Or.inr (Or.inr (Or.inr (Or.inr (Or.inr (Or.inr (Or.inr (Or.inr (Or.inr (Or.inr (Or.inr (Or.inr (Or.inr (Or.inr (Or.inr (⟨rfl, rfl⟩)))))))))))))))), by omega, by omega, by omega, by omega, by omega⟩, fun hc => ⟨Or.inr (Or.inr (Or.inr (Or.inr (Or.inr (Or.inr (Or.inr (Or.inr (Or.inr (Or.inr (Or.inr (Or.inr (Or.inr (Or.inr (Or.inr (Or.inr (⟨rfl, rfl⟩)))))))))))))))), by omega, by omega, by omega, by omega, by omega⟩⟩
  · omega

/-- one digit's quotient and rest -/
theorem dq_ex {L b d : Int} (h0 : 0 ≤ L) (h1 : L < b) (c : Dg d) : ∃ q r : Int, q * b + r = L * 65536 + d ∧ 0 ≤ r ∧ r < b ∧ Dg q := by
  unfold Dg at *
  refine ⟨(L * 65536 + d) / b, (L * 65536 + d) % b, by rw [Int.mul_comm]; exact Int.mul_ediv_add_emod _ _, Int.emod_nonneg _ (by omega), Int.emod_lt_of_pos _ (by omega), Int.ediv_nonneg (by omega) (by omega), ?_⟩
  have : (L * 65536 + d) / b < 65536 := Int.ediv_lt_of_lt_mul (by omega) (by omega)
  omega

/-- one round: what was left before it, what is left after it, and the digit -/
def Rnd (L b d q r : Int) : Prop := 0 ≤ L ∧ L < b ∧ Dg d ∧ q * b + r = L * 65536 + d ∧ 0 ≤ r ∧ r < b ∧ Dg q

theorem div_ex {x b d0 d1 d2 d3 d4 d5 d6 d7 : Int} (hb : 0 < b) (D : D8 x d0 d1 d2 d3 d4 d5 d6 d7) :
    ∃ q0 q1 q2 q3 q4 q5 q6 q7 r0 r1 r2 r3 r4 r5 r6 r7 Q : Int, Rnd 0 b d7 q7 r7 ∧ Rnd r7 b d6 q6 r6 ∧ Rnd r6 b d5 q5 r5 ∧ Rnd r5 b d4 q4 r4 ∧ Rnd r4 b d3 q3 r3 ∧ Rnd r3 b d2 q2 r2 ∧ Rnd r2 b d1 q1 r1 ∧ Rnd r1 b d0 q0 r0 ∧ D8 Q q0 q1 q2 q3 q4 q5 q6 q7 ∧ Q * b + r0 = x := by
  obtain ⟨c0, c1, c2, c3, c4, c5, c6, c7, e⟩ := D
  obtain ⟨q7, r7, e7, l7, u7, g7⟩ := dq_ex (L := 0) (Int.le_refl _) hb c7
  obtain ⟨q6, r6, e6, l6, u6, g6⟩ := dq_ex l7 u7 c6
  obtain ⟨q5, r5, e5, l5, u5, g5⟩ := dq_ex l6 u6 c5
  obtain ⟨q4, r4, e4, l4, u4, g4⟩ := dq_ex l5 u5 c4
  obtain ⟨q3, r3, e3, l3, u3, g3⟩ := dq_ex l4 u4 c3
  obtain ⟨q2, r2, e2, l2, u2, g2⟩ := dq_ex l3 u3 c2
  obtain ⟨q1, r1, e1, l1, u1, g1⟩ := dq_ex l2 u2 c1
  obtain ⟨q0, r0, e0, l0, u0, g0⟩ := dq_ex l1 u1 c0
  refine ⟨q0, q1, q2, q3, q4, q5, q6, q7, r0, r1, r2, r3, r4, r5, r6, r7, q0 + q1 * 65536 + q2 * 4294967296 + q3 * 281474976710656 + q4 * 18446744073709551616 + q5 * 1208925819614629174706176 + q6 * 79228162514264337593543950336 + q7 * 5192296858534827628530496329220096, ⟨Int.le_refl _, hb, c7, e7, l7, u7, g7⟩, ⟨l7, u7, c6, e6, l6, u6, g6⟩, ⟨l6, u6, c5, e5, l5, u5, g5⟩, ⟨l5, u5, c4, e4, l4, u4, g4⟩, ⟨l4, u4, c3, e3, l3, u3, g3⟩, ⟨l3, u3, c2, e2, l2, u2, g2⟩, ⟨l2, u2, c1, e1, l1, u1, g1⟩, ⟨l1, u1, c0, e0, l0, u0, g0⟩, ⟨g0, g1, g2, g3, g4, g5, g6, g7, rfl⟩, ?_⟩
  have ex : (q0 + q1 * 65536 + q2 * 4294967296 + q3 * 281474976710656 + q4 * 18446744073709551616 + q5 * 1208925819614629174706176 + q6 * 79228162514264337593543950336 + q7 * 5192296858534827628530496329220096) * b = q0 * b + q1 * b * 65536 + q2 * b * 4294967296 + q3 * b * 281474976710656 + q4 * b * 18446744073709551616 + q5 * b * 1208925819614629174706176 + q6 * b * 79228162514264337593543950336 + q7 * b * 5192296858534827628530496329220096 := by
    simp only [Int.add_mul, Int.mul_right_comm]
  rw [ex]
  clear ex l0 u0 g0 c0 l1 u1 g1 c1 l2 u2 g2 c2 l3 u3 g3 c3 l4 u4 g4 c4 l5 u5 g5 c5 l6 u6 g6 c6 l7 u7 g7 c7
  generalize q0 * b = p0 at *
  generalize q1 * b = p1 at *
  generalize q2 * b = p2 at *
  generalize q3 * b = p3 at *
  generalize q4 * b = p4 at *
  generalize q5 * b = p5 at *
  generalize q6 * b = p6 at *
  generalize q7 * b = p7 at *
  omega

end Go.Proofs.Ytmngbhkokglmjaa.Vm
