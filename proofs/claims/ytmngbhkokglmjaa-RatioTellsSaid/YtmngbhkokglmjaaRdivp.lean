/- What Div of the reference of layer 2 comes to. -/
import Derived.Test.YtmngbhkokglmjaaRadd
import Derived.Test.YtmngbhkokglmjaaRmath4
import Derived.Test.YtmngbhkokglmjaaVdiv
import Derived.Deep.RegionLaw
namespace Go.Proofs.Ytmngbhkokglmjaa.Vr
open Go.RowKit Go.Proofs.Ytmngbhkokglmjaa.Vm Go.Proofs.Ytmngbhkokglmjaa.Vc Go.Proofs.Ytmngbhkokglmjaa.Vl
attribute [local go_sem] alloc_drewN setCell_drewN

set_option maxHeartbeats 20000000

theorem rDiv_pos (h1 l1 b : Int) (s : Bool) (x : Int) (w : World) (b1 : Bd h1 l1) (hp : 0 < b) (hb : b ≤ 9223372036854775807) (hs : decide (h1 < 0) = s) (hx : ((num h1 l1).natAbs : Int) = x) :
    Calls Try.prog 34 #[.agg #[.int .i64 h1, .int .u64 l1], .int .i64 b] w fun e w' => ∃ h l r : Int, e = .returned (.tuple #[.agg #[.int .i64 h, .int .u64 l], .int .i64 r, .int .i64 0]) ∧ Bd h l ∧ num h l * b + r = num h1 l1 ∧ 0 ≤ r ∧ r < b ∧ Below w.heap.size w w' := by
  obtain ⟨n0, n1, n2⟩ := num_abs h1 l1 b1
  obtain ⟨d0, d1, d2, d3, d4, d5, d6, d7, D⟩ := d8_ex n0 n1
  have co := fun w => of_at h1 l1 d0 d1 d2 d3 d4 d5 d6 d7 w b1 D
  obtain ⟨q0, q1, q2, q3, q4, q5, q6, q7, r0, r1, r2, r3, r4, r5, r6, r7, Q, H7, H6, H5, H4, H3, H2, H1, H0, DQ, EQ⟩ := div_ex hp D
  rw [hs] at co n2
  replace H0 := Lib.hid H0
  replace H1 := Lib.hid H1
  replace H2 := Lib.hid H2
  replace H3 := Lib.hid H3
  replace H4 := Lib.hid H4
  replace H5 := Lib.hid H5
  replace H6 := Lib.hid H6
  replace H7 := Lib.hid H7
  have keyA : ∀ (h l : Int) (is : Bool), (s = true → r0 = 0) → ((is = true ∧ Res (sgn s Q) h l 0) ∨ (is = false ∧ ¬ Fits (sgn s Q))) → Bd h l ∧ num h l * b + r0 = num h1 l1 := by
    intro h l is hz r
    have f0 := bd_fits b1
    have hQ := (d8_bd DQ).1
    have hQb : Q * 1 ≤ Q * b := Int.mul_le_mul_of_nonneg_left (by omega) hQ
    have r00 : 0 ≤ r0 := H0.2.2.2.2.1
    have fit : Fits (sgn s Q) := by
      unfold Fits at *
      rw [← n2] at f0
      unfold sgn at *
      cases s <;> simp at * <;> omega
    rcases r with ⟨_, ⟨_, hn, bd⟩ | ⟨h0, _⟩⟩ | ⟨_, nf⟩
    · refine ⟨bd, ?_⟩
      rw [hn, ← n2, ← EQ]
      unfold sgn
      cases s
      · simp
      · have := hz rfl
        subst this
        simp [Int.neg_mul]
    · omega
    · exact absurd fit nf
  have keyB : s = true → 0 < r0 → ∀ (v : Bool) (z h l : Int) (is ok : Bool), ((ok = true ∧ sgn v z = sgn true Q + sgn true 1) ∨ (ok = false ∧ true = true ∧ 340282366920938463463374607431768211456 ≤ Q + 1)) → ((is = true ∧ Res (sgn v z) h l 0) ∨ (is = false ∧ ¬ Fits (sgn v z))) → Bd h l ∧ num h l * b + (b - r0) = num h1 l1 := by
    intro hs' hr v z h l is ok hv r
    have f0 := bd_fits b1
    have hQ := (d8_bd DQ).1
    have hQb : Q * 1 ≤ Q * b := Int.mul_le_mul_of_nonneg_left (by omega) hQ
    subst hs'
    rcases hv with ⟨_, hv⟩ | ⟨_, _, hv⟩
    · have e1 : sgn true Q + sgn true 1 = -(Q + 1) := by unfold sgn; simp; omega
      have e2 : sgn true ((num h1 l1).natAbs : Int) = -((num h1 l1).natAbs : Int) := by unfold sgn; simp
      rw [e1] at hv
      rw [e2] at n2
      rw [hv] at r
      have fit : Fits (-(Q + 1)) := by
        unfold Fits at *
        omega
      rcases r with ⟨_, ⟨_, hn, bd⟩ | ⟨h0, _⟩⟩ | ⟨_, nf⟩
      · refine ⟨bd, ?_⟩
        have e3 : -(Q + 1) * b = -(Q * b) - b := by rw [Int.neg_mul, Int.add_mul, Int.one_mul]; omega
        rw [hn, e3]
        omega
      · omega
      · exact absurd fit nf
    · exfalso
      unfold Fits at f0
      omega
  have bkA := fun w => back_tells s Q q0 q1 q2 q3 q4 q5 q6 q7 w DQ
  have pt := fun w => plus_tells true true Q 1 q0 q1 q2 q3 q4 q5 q6 q7 1 0 0 0 0 0 0 0 w DQ (by unfold D8 Dg; omega)
  have pp := fun w => put_at true 0 1 1 0 0 0 0 0 0 0 w (by omega) (by omega) (by omega) (by omega) (by unfold D8 Dg num; omega)
  have rb : 0 ≤ r0 ∧ r0 < b := ⟨H0.2.2.2.2.1, H0.2.2.2.2.2.1⟩
  replace rb := Lib.hid rb
  replace keyA := Lib.hid keyA
  replace keyB := Lib.hid keyB
  replace DQ := Lib.hid DQ
  replace EQ := Lib.hid EQ
  replace n2 := Lib.hid n2
  have NX := Lib.hid (And.intro n0 n1)
  replace b1 := Lib.hid b1
  have d1' : (b == 0) = false := beq_eq_false_iff_ne.2 (by omega)
  have d2' : decide (b < 0) = false := decide_eq_false (by omega)
  clear D n0 n1 hs hx
  go_enter Try.func34, Try.ntmps34
  go_wp2_with fail
  refine (co _).mono ?_
  rintro e w' ⟨rfl, rfl⟩
  clear co
  go_wp2
  refine wp_loop_rounds 9 ?_
  have HH := H7.out
  unfold Rnd at HH
  obtain ⟨z1, z2, z3, z4, z5, z6, z7⟩ := HH
  have st := dj_start z1 z2 z3
  replace z3 := Lib.hid z3
  replace z4 := Lib.hid z4
  replace z7 := Lib.hid z7
  clear H7
  rw [rounds_succ]
  go_wp2
  go_loop [8, 10, 11] (fun x8 x10 x11 => ∃ (P B u g : Int), x8 = .int .u64 u ∧ x10 = .int .u64 g ∧ x11 = .int .u64 B ∧ 0 ≤ B ∧ DJ 0 b d7 P B u g) (fun _ _ x11 => (intOf x11).toNat)
  case atStart => exact ⟨65536, 32768, 0, 0, rfl, rfl, rfl, by omega, st⟩
  case round =>
    obtain ⟨P, B, u, g, rfl, rfl, rfl, hB, hd⟩ := hrel
    by_cases hlt : 0 < B
    · obtain ⟨b1, b2, b3, b4, b5, m, t, B', e1, e2, b6, b7, b8, b9, e3, b10, b11, n1, n2'⟩ := dj_step hlt z3.out hd
      have e1t : d7.tdiv B = m := by rw [Int.tdiv_eq_ediv_of_nonneg (by have := z3.out; unfold Dg at this; omega)]; exact e1
      have e2t : m.tmod 2 = t := by rw [Int.tmod_eq_emod_of_nonneg b6]; exact e2
      have e3t : B.tdiv 2 = B' := by rw [Int.tdiv_eq_ediv_of_nonneg hB]; exact e3
      clear st hd
      by_cases c : b ≤ u * 2 + t
      · have N := Lib.hid (n1 c)
        clear n1 n2'
        go_wp2
        go_round
        case rel => exact ⟨B, B', _, _, by go_num, by go_num, by go_num, b10, N.out⟩
        case measure => simp [intOf]; omega
      · have N := Lib.hid (n2' (by omega))
        clear n1 n2'
        go_wp2
        go_round
        case rel => exact ⟨B, B', _, _, by go_num, by go_num, by go_num, b10, N.out⟩
        case measure => simp [intOf]; omega
    · obtain rfl : B = 0 := by omega
      obtain ⟨f1, f2, f3⟩ := dj_end hd
      obtain ⟨rfl, rfl⟩ := div_same (z4.out.trans f1.symm) z5 z6 f2 f3
      have HQ := z7.out
      unfold Dg at HQ
      obtain ⟨v1, v2⟩ := HQ
      clear f1 f2 f3 st hd hB hlt z1 z2 z3 z4 z7
      go_wp2
      clear v1 v2
      have HH := H6.out
      unfold Rnd at HH
      obtain ⟨z1, z2, z3, z4, z5, z6, z7⟩ := HH
      have st := dj_start z1 z2 z3
      replace z3 := Lib.hid z3
      replace z4 := Lib.hid z4
      replace z7 := Lib.hid z7
      clear H6
      rw [rounds_succ]
      go_wp2
      go_loop [8, 10, 11] (fun x8 x10 x11 => ∃ (P B u g : Int), x8 = .int .u64 u ∧ x10 = .int .u64 g ∧ x11 = .int .u64 B ∧ 0 ≤ B ∧ DJ r7 b d6 P B u g) (fun _ _ x11 => (intOf x11).toNat)
      case atStart => exact ⟨65536, 32768, r7, 0, rfl, rfl, rfl, by omega, st⟩
      case round =>
        obtain ⟨P, B, u, g, rfl, rfl, rfl, hB, hd⟩ := hrel
        by_cases hlt : 0 < B
        · obtain ⟨b1, b2, b3, b4, b5, m, t, B', e1, e2, b6, b7, b8, b9, e3, b10, b11, n1, n2'⟩ := dj_step hlt z3.out hd
          have e1t : d6.tdiv B = m := by rw [Int.tdiv_eq_ediv_of_nonneg (by have := z3.out; unfold Dg at this; omega)]; exact e1
          have e2t : m.tmod 2 = t := by rw [Int.tmod_eq_emod_of_nonneg b6]; exact e2
          have e3t : B.tdiv 2 = B' := by rw [Int.tdiv_eq_ediv_of_nonneg hB]; exact e3
          clear st hd
          by_cases c : b ≤ u * 2 + t
          · have N := Lib.hid (n1 c)
            clear n1 n2'
            go_wp2
            go_round
            case rel => exact ⟨B, B', _, _, by go_num, by go_num, by go_num, b10, N.out⟩
            case measure => simp [intOf]; omega
          · have N := Lib.hid (n2' (by omega))
            clear n1 n2'
            go_wp2
            go_round
            case rel => exact ⟨B, B', _, _, by go_num, by go_num, by go_num, b10, N.out⟩
            case measure => simp [intOf]; omega
        · obtain rfl : B = 0 := by omega
          obtain ⟨f1, f2, f3⟩ := dj_end hd
          obtain ⟨rfl, rfl⟩ := div_same (z4.out.trans f1.symm) z5 z6 f2 f3
          have HQ := z7.out
          unfold Dg at HQ
          obtain ⟨v1, v2⟩ := HQ
          clear f1 f2 f3 st hd hB hlt z1 z2 z3 z4 z7
          go_wp2
          clear v1 v2
          have HH := H5.out
          unfold Rnd at HH
          obtain ⟨z1, z2, z3, z4, z5, z6, z7⟩ := HH
          have st := dj_start z1 z2 z3
          replace z3 := Lib.hid z3
          replace z4 := Lib.hid z4
          replace z7 := Lib.hid z7
          clear H5
          rw [rounds_succ]
          go_wp2
          go_loop [8, 10, 11] (fun x8 x10 x11 => ∃ (P B u g : Int), x8 = .int .u64 u ∧ x10 = .int .u64 g ∧ x11 = .int .u64 B ∧ 0 ≤ B ∧ DJ r6 b d5 P B u g) (fun _ _ x11 => (intOf x11).toNat)
          case atStart => exact ⟨65536, 32768, r6, 0, rfl, rfl, rfl, by omega, st⟩
          case round =>
            obtain ⟨P, B, u, g, rfl, rfl, rfl, hB, hd⟩ := hrel
            by_cases hlt : 0 < B
            · obtain ⟨b1, b2, b3, b4, b5, m, t, B', e1, e2, b6, b7, b8, b9, e3, b10, b11, n1, n2'⟩ := dj_step hlt z3.out hd
              have e1t : d5.tdiv B = m := by rw [Int.tdiv_eq_ediv_of_nonneg (by have := z3.out; unfold Dg at this; omega)]; exact e1
              have e2t : m.tmod 2 = t := by rw [Int.tmod_eq_emod_of_nonneg b6]; exact e2
              have e3t : B.tdiv 2 = B' := by rw [Int.tdiv_eq_ediv_of_nonneg hB]; exact e3
              clear st hd
              by_cases c : b ≤ u * 2 + t
              · have N := Lib.hid (n1 c)
                clear n1 n2'
                go_wp2
                go_round
                case rel => exact ⟨B, B', _, _, by go_num, by go_num, by go_num, b10, N.out⟩
                case measure => simp [intOf]; omega
              · have N := Lib.hid (n2' (by omega))
                clear n1 n2'
                go_wp2
                go_round
                case rel => exact ⟨B, B', _, _, by go_num, by go_num, by go_num, b10, N.out⟩
                case measure => simp [intOf]; omega
            · obtain rfl : B = 0 := by omega
              obtain ⟨f1, f2, f3⟩ := dj_end hd
              obtain ⟨rfl, rfl⟩ := div_same (z4.out.trans f1.symm) z5 z6 f2 f3
              have HQ := z7.out
              unfold Dg at HQ
              obtain ⟨v1, v2⟩ := HQ
              clear f1 f2 f3 st hd hB hlt z1 z2 z3 z4 z7
              go_wp2
              clear v1 v2
              have HH := H4.out
              unfold Rnd at HH
              obtain ⟨z1, z2, z3, z4, z5, z6, z7⟩ := HH
              have st := dj_start z1 z2 z3
              replace z3 := Lib.hid z3
              replace z4 := Lib.hid z4
              replace z7 := Lib.hid z7
              clear H4
              rw [rounds_succ]
              go_wp2
              go_loop [8, 10, 11] (fun x8 x10 x11 => ∃ (P B u g : Int), x8 = .int .u64 u ∧ x10 = .int .u64 g ∧ x11 = .int .u64 B ∧ 0 ≤ B ∧ DJ r5 b d4 P B u g) (fun _ _ x11 => (intOf x11).toNat)
              case atStart => exact ⟨65536, 32768, r5, 0, rfl, rfl, rfl, by omega, st⟩
              case round =>
                obtain ⟨P, B, u, g, rfl, rfl, rfl, hB, hd⟩ := hrel
                by_cases hlt : 0 < B
                · obtain ⟨b1, b2, b3, b4, b5, m, t, B', e1, e2, b6, b7, b8, b9, e3, b10, b11, n1, n2'⟩ := dj_step hlt z3.out hd
                  have e1t : d4.tdiv B = m := by rw [Int.tdiv_eq_ediv_of_nonneg (by have := z3.out; unfold Dg at this; omega)]; exact e1
                  have e2t : m.tmod 2 = t := by rw [Int.tmod_eq_emod_of_nonneg b6]; exact e2
                  have e3t : B.tdiv 2 = B' := by rw [Int.tdiv_eq_ediv_of_nonneg hB]; exact e3
                  clear st hd
                  by_cases c : b ≤ u * 2 + t
                  · have N := Lib.hid (n1 c)
                    clear n1 n2'
                    go_wp2
                    go_round
                    case rel => exact ⟨B, B', _, _, by go_num, by go_num, by go_num, b10, N.out⟩
                    case measure => simp [intOf]; omega
                  · have N := Lib.hid (n2' (by omega))
                    clear n1 n2'
                    go_wp2
                    go_round
                    case rel => exact ⟨B, B', _, _, by go_num, by go_num, by go_num, b10, N.out⟩
                    case measure => simp [intOf]; omega
                · obtain rfl : B = 0 := by omega
                  obtain ⟨f1, f2, f3⟩ := dj_end hd
                  obtain ⟨rfl, rfl⟩ := div_same (z4.out.trans f1.symm) z5 z6 f2 f3
                  have HQ := z7.out
                  unfold Dg at HQ
                  obtain ⟨v1, v2⟩ := HQ
                  clear f1 f2 f3 st hd hB hlt z1 z2 z3 z4 z7
                  go_wp2
                  clear v1 v2
                  have HH := H3.out
                  unfold Rnd at HH
                  obtain ⟨z1, z2, z3, z4, z5, z6, z7⟩ := HH
                  have st := dj_start z1 z2 z3
                  replace z3 := Lib.hid z3
                  replace z4 := Lib.hid z4
                  replace z7 := Lib.hid z7
                  clear H3
                  rw [rounds_succ]
                  go_wp2
                  go_loop [8, 10, 11] (fun x8 x10 x11 => ∃ (P B u g : Int), x8 = .int .u64 u ∧ x10 = .int .u64 g ∧ x11 = .int .u64 B ∧ 0 ≤ B ∧ DJ r4 b d3 P B u g) (fun _ _ x11 => (intOf x11).toNat)
                  case atStart => exact ⟨65536, 32768, r4, 0, rfl, rfl, rfl, by omega, st⟩
                  case round =>
                    obtain ⟨P, B, u, g, rfl, rfl, rfl, hB, hd⟩ := hrel
                    by_cases hlt : 0 < B
                    · obtain ⟨b1, b2, b3, b4, b5, m, t, B', e1, e2, b6, b7, b8, b9, e3, b10, b11, n1, n2'⟩ := dj_step hlt z3.out hd
                      have e1t : d3.tdiv B = m := by rw [Int.tdiv_eq_ediv_of_nonneg (by have := z3.out; unfold Dg at this; omega)]; exact e1
                      have e2t : m.tmod 2 = t := by rw [Int.tmod_eq_emod_of_nonneg b6]; exact e2
                      have e3t : B.tdiv 2 = B' := by rw [Int.tdiv_eq_ediv_of_nonneg hB]; exact e3
                      clear st hd
                      by_cases c : b ≤ u * 2 + t
                      · have N := Lib.hid (n1 c)
                        clear n1 n2'
                        go_wp2
                        go_round
                        case rel => exact ⟨B, B', _, _, by go_num, by go_num, by go_num, b10, N.out⟩
                        case measure => simp [intOf]; omega
                      · have N := Lib.hid (n2' (by omega))
                        clear n1 n2'
                        go_wp2
                        go_round
                        case rel => exact ⟨B, B', _, _, by go_num, by go_num, by go_num, b10, N.out⟩
                        case measure => simp [intOf]; omega
                    · obtain rfl : B = 0 := by omega
                      obtain ⟨f1, f2, f3⟩ := dj_end hd
                      obtain ⟨rfl, rfl⟩ := div_same (z4.out.trans f1.symm) z5 z6 f2 f3
                      have HQ := z7.out
                      unfold Dg at HQ
                      obtain ⟨v1, v2⟩ := HQ
                      clear f1 f2 f3 st hd hB hlt z1 z2 z3 z4 z7
                      go_wp2
                      clear v1 v2
                      have HH := H2.out
                      unfold Rnd at HH
                      obtain ⟨z1, z2, z3, z4, z5, z6, z7⟩ := HH
                      have st := dj_start z1 z2 z3
                      replace z3 := Lib.hid z3
                      replace z4 := Lib.hid z4
                      replace z7 := Lib.hid z7
                      clear H2
                      rw [rounds_succ]
                      go_wp2
                      go_loop [8, 10, 11] (fun x8 x10 x11 => ∃ (P B u g : Int), x8 = .int .u64 u ∧ x10 = .int .u64 g ∧ x11 = .int .u64 B ∧ 0 ≤ B ∧ DJ r3 b d2 P B u g) (fun _ _ x11 => (intOf x11).toNat)
                      case atStart => exact ⟨65536, 32768, r3, 0, rfl, rfl, rfl, by omega, st⟩
                      case round =>
                        obtain ⟨P, B, u, g, rfl, rfl, rfl, hB, hd⟩ := hrel
                        by_cases hlt : 0 < B
                        · obtain ⟨b1, b2, b3, b4, b5, m, t, B', e1, e2, b6, b7, b8, b9, e3, b10, b11, n1, n2'⟩ := dj_step hlt z3.out hd
                          have e1t : d2.tdiv B = m := by rw [Int.tdiv_eq_ediv_of_nonneg (by have := z3.out; unfold Dg at this; omega)]; exact e1
                          have e2t : m.tmod 2 = t := by rw [Int.tmod_eq_emod_of_nonneg b6]; exact e2
                          have e3t : B.tdiv 2 = B' := by rw [Int.tdiv_eq_ediv_of_nonneg hB]; exact e3
                          clear st hd
                          by_cases c : b ≤ u * 2 + t
                          · have N := Lib.hid (n1 c)
                            clear n1 n2'
                            go_wp2
                            go_round
                            case rel => exact ⟨B, B', _, _, by go_num, by go_num, by go_num, b10, N.out⟩
                            case measure => simp [intOf]; omega
                          · have N := Lib.hid (n2' (by omega))
                            clear n1 n2'
                            go_wp2
                            go_round
                            case rel => exact ⟨B, B', _, _, by go_num, by go_num, by go_num, b10, N.out⟩
                            case measure => simp [intOf]; omega
                        · obtain rfl : B = 0 := by omega
                          obtain ⟨f1, f2, f3⟩ := dj_end hd
                          obtain ⟨rfl, rfl⟩ := div_same (z4.out.trans f1.symm) z5 z6 f2 f3
                          have HQ := z7.out
                          unfold Dg at HQ
                          obtain ⟨v1, v2⟩ := HQ
                          clear f1 f2 f3 st hd hB hlt z1 z2 z3 z4 z7
                          go_wp2
                          clear v1 v2
                          have HH := H1.out
                          unfold Rnd at HH
                          obtain ⟨z1, z2, z3, z4, z5, z6, z7⟩ := HH
                          have st := dj_start z1 z2 z3
                          replace z3 := Lib.hid z3
                          replace z4 := Lib.hid z4
                          replace z7 := Lib.hid z7
                          clear H1
                          rw [rounds_succ]
                          go_wp2
                          go_loop [8, 10, 11] (fun x8 x10 x11 => ∃ (P B u g : Int), x8 = .int .u64 u ∧ x10 = .int .u64 g ∧ x11 = .int .u64 B ∧ 0 ≤ B ∧ DJ r2 b d1 P B u g) (fun _ _ x11 => (intOf x11).toNat)
                          case atStart => exact ⟨65536, 32768, r2, 0, rfl, rfl, rfl, by omega, st⟩
                          case round =>
                            obtain ⟨P, B, u, g, rfl, rfl, rfl, hB, hd⟩ := hrel
                            by_cases hlt : 0 < B
                            · obtain ⟨b1, b2, b3, b4, b5, m, t, B', e1, e2, b6, b7, b8, b9, e3, b10, b11, n1, n2'⟩ := dj_step hlt z3.out hd
                              have e1t : d1.tdiv B = m := by rw [Int.tdiv_eq_ediv_of_nonneg (by have := z3.out; unfold Dg at this; omega)]; exact e1
                              have e2t : m.tmod 2 = t := by rw [Int.tmod_eq_emod_of_nonneg b6]; exact e2
                              have e3t : B.tdiv 2 = B' := by rw [Int.tdiv_eq_ediv_of_nonneg hB]; exact e3
                              clear st hd
                              by_cases c : b ≤ u * 2 + t
                              · have N := Lib.hid (n1 c)
                                clear n1 n2'
                                go_wp2
                                go_round
                                case rel => exact ⟨B, B', _, _, by go_num, by go_num, by go_num, b10, N.out⟩
                                case measure => simp [intOf]; omega
                              · have N := Lib.hid (n2' (by omega))
                                clear n1 n2'
                                go_wp2
                                go_round
                                case rel => exact ⟨B, B', _, _, by go_num, by go_num, by go_num, b10, N.out⟩
                                case measure => simp [intOf]; omega
                            · obtain rfl : B = 0 := by omega
                              obtain ⟨f1, f2, f3⟩ := dj_end hd
                              obtain ⟨rfl, rfl⟩ := div_same (z4.out.trans f1.symm) z5 z6 f2 f3
                              have HQ := z7.out
                              unfold Dg at HQ
                              obtain ⟨v1, v2⟩ := HQ
                              clear f1 f2 f3 st hd hB hlt z1 z2 z3 z4 z7
                              go_wp2
                              clear v1 v2
                              have HH := H0.out
                              unfold Rnd at HH
                              obtain ⟨z1, z2, z3, z4, z5, z6, z7⟩ := HH
                              have st := dj_start z1 z2 z3
                              replace z3 := Lib.hid z3
                              replace z4 := Lib.hid z4
                              replace z7 := Lib.hid z7
                              clear H0
                              rw [rounds_succ]
                              go_wp2
                              go_loop [8, 10, 11] (fun x8 x10 x11 => ∃ (P B u g : Int), x8 = .int .u64 u ∧ x10 = .int .u64 g ∧ x11 = .int .u64 B ∧ 0 ≤ B ∧ DJ r1 b d0 P B u g) (fun _ _ x11 => (intOf x11).toNat)
                              case atStart => exact ⟨65536, 32768, r1, 0, rfl, rfl, rfl, by omega, st⟩
                              case round =>
                                obtain ⟨P, B, u, g, rfl, rfl, rfl, hB, hd⟩ := hrel
                                by_cases hlt : 0 < B
                                · obtain ⟨b1, b2, b3, b4, b5, m, t, B', e1, e2, b6, b7, b8, b9, e3, b10, b11, n1, n2'⟩ := dj_step hlt z3.out hd
                                  have e1t : d0.tdiv B = m := by rw [Int.tdiv_eq_ediv_of_nonneg (by have := z3.out; unfold Dg at this; omega)]; exact e1
                                  have e2t : m.tmod 2 = t := by rw [Int.tmod_eq_emod_of_nonneg b6]; exact e2
                                  have e3t : B.tdiv 2 = B' := by rw [Int.tdiv_eq_ediv_of_nonneg hB]; exact e3
                                  clear st hd
                                  by_cases c : b ≤ u * 2 + t
                                  · have N := Lib.hid (n1 c)
                                    clear n1 n2'
                                    go_wp2
                                    go_round
                                    case rel => exact ⟨B, B', _, _, by go_num, by go_num, by go_num, b10, N.out⟩
                                    case measure => simp [intOf]; omega
                                  · have N := Lib.hid (n2' (by omega))
                                    clear n1 n2'
                                    go_wp2
                                    go_round
                                    case rel => exact ⟨B, B', _, _, by go_num, by go_num, by go_num, b10, N.out⟩
                                    case measure => simp [intOf]; omega
                                · obtain rfl : B = 0 := by omega
                                  obtain ⟨f1, f2, f3⟩ := dj_end hd
                                  obtain ⟨rfl, rfl⟩ := div_same (z4.out.trans f1.symm) z5 z6 f2 f3
                                  have HQ := z7.out
                                  unfold Dg at HQ
                                  obtain ⟨v1, v2⟩ := HQ
                                  clear f1 f2 f3 st hd hB hlt z1 z2 z3 z4 z7
                                  go_wp2
                                  clear v1 v2
                                  obtain ⟨u1, u2⟩ := rb.out
                                  rw [rounds_succ]
                                  by_cases c : s = true ∧ 0 < r0
                                  · obtain ⟨rfl, c2⟩ := c
                                    go_wp2
                                    go_region_law (first | (go_simp; go_at_call 70; refine (pp _).mono ?_; rintro e w1 ⟨rfl, rfl⟩) | (go_simp; go_at_call 69; refine (pt _).mono ?_; rintro e w2 ⟨v, z, z0, z1, z2, z3, z4, z5, z6, z7, ok, rfl, DZ, hv, hb2⟩; have qs := fun i => hb2.cell (p := ⟨w.heap.size + 1 + 1 + 1 + 1 + 1 + 1, i, none⟩) (by simp <;> omega); have fs := fun i => hb2.frozen (p := ⟨w.heap.size + 1 + 1 + 1 + 1 + 1 + 1, i, none⟩) (by simp <;> omega); have c0' : w2.cell? ⟨w.heap.size + 1 + 1 + 1 + 1 + 1 + 1, 0, none⟩ = some (.bool true) := (qs 0).trans (by simp [go_sem]); have f0' : w2.frozen? ⟨w.heap.size + 1 + 1 + 1 + 1 + 1 + 1, 0, none⟩ = false := (fs 0).trans (by simp [go_sem]); have c1' : w2.cell? ⟨w.heap.size + 1 + 1 + 1 + 1 + 1 + 1, 1, none⟩ = some (.int .u64 q0) := (qs 1).trans (by simp [go_sem]); have f1' : w2.frozen? ⟨w.heap.size + 1 + 1 + 1 + 1 + 1 + 1, 1, none⟩ = false := (fs 1).trans (by simp [go_sem]); have c2' : w2.cell? ⟨w.heap.size + 1 + 1 + 1 + 1 + 1 + 1, 2, none⟩ = some (.int .u64 q1) := (qs 2).trans (by simp [go_sem]); have f2' : w2.frozen? ⟨w.heap.size + 1 + 1 + 1 + 1 + 1 + 1, 2, none⟩ = false := (fs 2).trans (by simp [go_sem]); have c3' : w2.cell? ⟨w.heap.size + 1 + 1 + 1 + 1 + 1 + 1, 3, none⟩ = some (.int .u64 q2) := (qs 3).trans (by simp [go_sem]); have f3' : w2.frozen? ⟨w.heap.size + 1 + 1 + 1 + 1 + 1 + 1, 3, none⟩ = false := (fs 3).trans (by simp [go_sem]); have c4' : w2.cell? ⟨w.heap.size + 1 + 1 + 1 + 1 + 1 + 1, 4, none⟩ = some (.int .u64 q3) := (qs 4).trans (by simp [go_sem]); have f4' : w2.frozen? ⟨w.heap.size + 1 + 1 + 1 + 1 + 1 + 1, 4, none⟩ = false := (fs 4).trans (by simp [go_sem]); have c5' : w2.cell? ⟨w.heap.size + 1 + 1 + 1 + 1 + 1 + 1, 5, none⟩ = some (.int .u64 q4) := (qs 5).trans (by simp [go_sem]); have f5' : w2.frozen? ⟨w.heap.size + 1 + 1 + 1 + 1 + 1 + 1, 5, none⟩ = false := (fs 5).trans (by simp [go_sem]); have c6' : w2.cell? ⟨w.heap.size + 1 + 1 + 1 + 1 + 1 + 1, 6, none⟩ = some (.int .u64 q5) := (qs 6).trans (by simp [go_sem]); have f6' : w2.frozen? ⟨w.heap.size + 1 + 1 + 1 + 1 + 1 + 1, 6, none⟩ = false := (fs 6).trans (by simp [go_sem]); have c7' : w2.cell? ⟨w.heap.size + 1 + 1 + 1 + 1 + 1 + 1, 7, none⟩ = some (.int .u64 q6) := (qs 7).trans (by simp [go_sem]); have f7' : w2.frozen? ⟨w.heap.size + 1 + 1 + 1 + 1 + 1 + 1, 7, none⟩ = false := (fs 7).trans (by simp [go_sem]); have c8' : w2.cell? ⟨w.heap.size + 1 + 1 + 1 + 1 + 1 + 1, 8, none⟩ = some (.int .u64 q7) := (qs 8).trans (by simp [go_sem]); have f8' : w2.frozen? ⟨w.heap.size + 1 + 1 + 1 + 1 + 1 + 1, 8, none⟩ = false := (fs 8).trans (by simp [go_sem]); have s0' : w2.cell? ⟨w.heap.size + 1, 0, none⟩ = some (.int .i64 0) := (hb2.cell (p := ⟨w.heap.size + 1, 0, none⟩) (by simp <;> omega)).trans (by simp [go_sem]); have s1' : w2.cell? ⟨w.heap.size + 1, 1, none⟩ = some (.int .u64 0) := (hb2.cell (p := ⟨w.heap.size + 1, 1, none⟩) (by simp <;> omega)).trans (by simp [go_sem]); have t0' : w2.frozen? ⟨w.heap.size + 1, 0, none⟩ = false := (hb2.frozen (p := ⟨w.heap.size + 1, 0, none⟩) (by simp <;> omega)).trans (by simp [go_sem]); have t1' : w2.frozen? ⟨w.heap.size + 1, 1, none⟩ = false := (hb2.frozen (p := ⟨w.heap.size + 1, 1, none⟩) (by simp <;> omega)).trans (by simp [go_sem]); have hz2 := hb2.size; clear qs fs))
                                    all_goals go_wp2_with fail
                                    all_goals refine (back_tells v z z0 z1 z2 z3 z4 z5 z6 z7 _ DZ).mono ?_
                                    all_goals rintro e w3 ⟨h, l, is, rfl, R, hb3⟩
                                    all_goals obtain ⟨k1, k2⟩ := keyB.out (by simp) c2 v z h l is ok hv R
                                    all_goals replace k2 := Lib.hid k2
                                    all_goals clear R hv bkA pt pp keyA keyB
                                    all_goals have hz : w.heap.size + 1 + 1 + 1 + 1 + 1 + 1 < w2.heap.size := Nat.lt_of_lt_of_le (by simp <;> omega) hz2
                                    all_goals have B2 : Below w.heap.size w w2 := Below.trans (by repeat (first | exact Below.refl _ _ | (with_reducible refine below_alloc (Nat.le_refl _) ?_ _) | (with_reducible refine Below.drew ?_))) (hb2.mono (by simp <;> omega))
                                    all_goals have B3 : Below w.heap.size w w3 := Below.trans (below_nine v z0 z1 z2 z3 z4 z5 z6 z7 B2 (by omega)) (hb3.mono (by simp <;> omega))
                                    all_goals have s0'' : w3.cell? ⟨w.heap.size + 1, 0, none⟩ = some (.int .i64 0) := (hb3.cell (p := ⟨w.heap.size + 1, 0, none⟩) (by simp <;> omega)).trans (by simp [go_sem, s0'])
                                    all_goals have t0'' : w3.frozen? ⟨w.heap.size + 1, 0, none⟩ = false := (hb3.frozen (p := ⟨w.heap.size + 1, 0, none⟩) (by simp <;> omega)).trans (by simp [go_sem, t0'])
                                    all_goals have s1'' : w3.cell? ⟨w.heap.size + 1, 1, none⟩ = some (.int .u64 0) := (hb3.cell (p := ⟨w.heap.size + 1, 1, none⟩) (by simp <;> omega)).trans (by simp [go_sem, s1'])
                                    all_goals have t1'' : w3.frozen? ⟨w.heap.size + 1, 1, none⟩ = false := (hb3.frozen (p := ⟨w.heap.size + 1, 1, none⟩) (by simp <;> omega)).trans (by simp [go_sem, t1'])
                                    all_goals have hz3 : w.heap.size + 1 < w3.heap.size := Nat.lt_of_lt_of_le (by simp <;> omega) hb3.size
                                    all_goals clear c0' f0' c1' f1' c2' f2' c3' f3' c4' f4' c5' f5' c6' f6' c7' f7' c8' f8' s0' s1' t0' t1' hb2 hb3 hz2
                                    all_goals go_wp2
                                    all_goals refine bodyPost_ret (v := .tuple #[.agg #[.int .i64 h, .int .u64 l], .int .i64 (b - r0), .int .i64 0]) (by simp [results, Try.results34, go_sem, s0'', s1'', hz3]) rfl ⟨h, l, b - r0, rfl, k1, k2.out, by omega, by omega, ?_⟩
                                    all_goals repeat (first | exact B3 | (with_reducible refine below_alloc (Nat.le_refl _) ?_ _) | (with_reducible refine Below.setCell ?_ (by simp) _))
                                  · have hz : s = true → r0 = 0 := fun h => by
                                      by_cases c2 : 0 < r0
                                      · exact absurd ⟨h, c2⟩ c
                                      · omega
                                    by_cases c1 : s = true
                                    · subst c1
                                      have c2 := hz rfl
                                      subst c2
                                      go_wp2_with fail
                                      refine (bkA _).mono ?_
                                      rintro e w2 ⟨h, l, is, rfl, R, hb2⟩
                                      obtain ⟨k1, k2⟩ := keyA.out h l is hz R
                                      replace k2 := Lib.hid k2
                                      clear R bkA pt pp keyA keyB
                                      have s0' : w2.cell? ⟨w.heap.size + 1, 0, none⟩ = some (.int .i64 0) := (hb2.cell (p := ⟨w.heap.size + 1, 0, none⟩) (by simp <;> omega)).trans (by simp [go_sem])
                                      have s1' : w2.cell? ⟨w.heap.size + 1, 1, none⟩ = some (.int .u64 0) := (hb2.cell (p := ⟨w.heap.size + 1, 1, none⟩) (by simp <;> omega)).trans (by simp [go_sem])
                                      have t0' : w2.frozen? ⟨w.heap.size + 1, 0, none⟩ = false := (hb2.frozen (p := ⟨w.heap.size + 1, 0, none⟩) (by simp <;> omega)).trans (by simp [go_sem])
                                      have t1' : w2.frozen? ⟨w.heap.size + 1, 1, none⟩ = false := (hb2.frozen (p := ⟨w.heap.size + 1, 1, none⟩) (by simp <;> omega)).trans (by simp [go_sem])
                                      have hz : w.heap.size + 1 < w2.heap.size := Nat.lt_of_lt_of_le (by simp <;> omega) hb2.size
                                      have hz' : w.heap.size + 1 ≠ w2.heap.size := by omega
                                      have B2 : Below w.heap.size w w2 := Below.trans (by repeat (first | exact Below.refl _ _ | refine below_alloc (Nat.le_refl _) ?_ _)) (hb2.mono (by simp <;> omega))
                                      go_wp2
                                      refine bodyPost_ret (v := .tuple #[.agg #[.int .i64 h, .int .u64 l], .int .i64 0, .int .i64 0]) (by simp [results, Try.results34, go_sem, s0', s1', hz]) rfl ⟨h, l, 0, rfl, k1, k2.out, u1, u2, ?_⟩
                                      repeat (first | exact B2 | (with_reducible refine below_alloc (Nat.le_refl _) ?_ _) | (with_reducible refine Below.setCell ?_ (by simp) _))
                                    · obtain rfl : s = false := by simpa using c1
                                      go_wp2_with fail
                                      refine (bkA _).mono ?_
                                      rintro e w2 ⟨h, l, is, rfl, R, hb2⟩
                                      obtain ⟨k1, k2⟩ := keyA.out h l is hz R
                                      replace k2 := Lib.hid k2
                                      clear R bkA pt pp keyA keyB
                                      have s0' : w2.cell? ⟨w.heap.size + 1, 0, none⟩ = some (.int .i64 0) := (hb2.cell (p := ⟨w.heap.size + 1, 0, none⟩) (by simp <;> omega)).trans (by simp [go_sem])
                                      have s1' : w2.cell? ⟨w.heap.size + 1, 1, none⟩ = some (.int .u64 0) := (hb2.cell (p := ⟨w.heap.size + 1, 1, none⟩) (by simp <;> omega)).trans (by simp [go_sem])
                                      have t0' : w2.frozen? ⟨w.heap.size + 1, 0, none⟩ = false := (hb2.frozen (p := ⟨w.heap.size + 1, 0, none⟩) (by simp <;> omega)).trans (by simp [go_sem])
                                      have t1' : w2.frozen? ⟨w.heap.size + 1, 1, none⟩ = false := (hb2.frozen (p := ⟨w.heap.size + 1, 1, none⟩) (by simp <;> omega)).trans (by simp [go_sem])
                                      have hz : w.heap.size + 1 < w2.heap.size := Nat.lt_of_lt_of_le (by simp <;> omega) hb2.size
                                      have hz' : w.heap.size + 1 ≠ w2.heap.size := by omega
                                      have B2 : Below w.heap.size w w2 := Below.trans (by repeat (first | exact Below.refl _ _ | refine below_alloc (Nat.le_refl _) ?_ _)) (hb2.mono (by simp <;> omega))
                                      go_wp2
                                      refine bodyPost_ret (v := .tuple #[.agg #[.int .i64 h, .int .u64 l], .int .i64 r0, .int .i64 0]) (by simp [results, Try.results34, go_sem, s0', s1', hz]) rfl ⟨h, l, r0, rfl, k1, k2.out, u1, u2, ?_⟩
                                      repeat (first | exact B2 | (with_reducible refine below_alloc (Nat.le_refl _) ?_ _) | (with_reducible refine Below.setCell ?_ (by simp) _))

end Go.Proofs.Ytmngbhkokglmjaa.Vr
