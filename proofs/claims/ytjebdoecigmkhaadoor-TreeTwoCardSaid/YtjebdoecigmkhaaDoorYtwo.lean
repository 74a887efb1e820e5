/- TreeTwo, walked. -/
import Derived.Test.YtjebdoecigmkhaaDoorYlive
import Derived.Test.YtjebdoecigmkhaaDoorYpure
import Derived.Test.YtjebdoecigmkhaaDoorYmv
import Derived.Test.YtjebdoecigmkhaaDoorYrfew
namespace Go.Proofs.YtjebdoecigmkhaaDoor.Yl
set_option linter.unusedSimpArgs false
set_option linter.unusedVariables false
open Go.RowKit Go.Proofs.YtjebdoecigmkhaaDoor.Bn Go.Proofs.YtjebdoecigmkhaaDoor.Zm Go.Proofs.YtjebdoecigmkhaaDoor.Zr Go.Proofs.YtjebdoecigmkhaaDoor.Zp Go.Proofs.YtjebdoecigmkhaaDoor.Zk Go.Proofs.YtjebdoecigmkhaaDoor.Ym Go.Proofs.YtjebdoecigmkhaaDoor.Yp Go.Proofs.YtjebdoecigmkhaaDoor.Yr Go.Proofs.YtjebdoecigmkhaaDoor.Yg

set_option maxHeartbeats 2000000

set_option maxRecDepth 100000 in
theorem ttwo_walk (s t : ByteArray) (w : World) (hm : s.size ≤ maxLen) (hmt : t.size ≤ maxLen) (tb : True) : Calls Tryd.prog 5 #[.string s, .string t] w fun e w' => e = .returned (.bool true) ∧ Below w.heap.size w w' := by
  have cl := fun w => ylive_ok w
  have hm' := hm
  have hmt' := hmt
  unfold maxLen at hm hmt
  by_cases h4 : 200 < s.size
  · have d1 : decide ((200 : Int) < (s.size : Int)) = true := decide_eq_true (by omega)
    clear h4
    go_enter Tryd.func5, Tryd.ntmps5
    go_wp2_with fail
    refine (cl _).mono ?_
    rintro e w1 ⟨rfl, hb⟩
    go_wp2_with fail
    go_ret
    exact ⟨rfl, hb⟩
  have d1 : decide ((200 : Int) < (s.size : Int)) = false := decide_eq_false (by omega)
  by_cases h5 : 200 < t.size
  · have d2 : decide ((200 : Int) < (t.size : Int)) = true := decide_eq_true (by omega)
    clear h4 h5
    go_enter Tryd.func5, Tryd.ntmps5
    go_wp2_with fail
    refine (cl _).mono ?_
    rintro e w1 ⟨rfl, hb⟩
    go_wp2_with fail
    go_ret
    exact ⟨rfl, hb⟩
  have d2 : decide ((200 : Int) < (t.size : Int)) = false := decide_eq_false (by omega)
  have hs4 : s.size ≤ 200 := by omega
  have ht4 : t.size ≤ 200 := by omega
  clear h4 h5
  obtain ⟨R, hR⟩ : ∃ R, parseR s = R := ⟨_, rfl⟩
  obtain ⟨Q, hQ⟩ : ∃ Q, parseR t = Q := ⟨_, rfl⟩
  have cp := fun w => Parse_any s w R hm' (Lib.hid hR)
  have cq := fun w => Parse_any t w Q hmt' (Lib.hid hQ)
  cases R with
  | error x =>
    obtain ⟨er, q⟩ := x
    have d3 : ((er : Int) != 0) = true := by rcases parseR_er hR with rfl | rfl | rfl <;> rfl
    cases Q with
    | error y =>
      obtain ⟨er2, q2⟩ := y
      clear hR hQ hm' hmt'
      go_enter Tryd.func5, Tryd.ntmps5
      go_wp2_with fail
      refine (cl _).mono ?_
      rintro e w1 ⟨rfl, hb⟩
      go_wp2_with fail
      refine (cp _).mono ?_
      rintro e w2 ⟨rfl, hb2⟩
      go_wp2_with fail
      refine (cq _).mono ?_
      rintro e w3 ⟨rfl, hb3⟩
      have B := bthen (bthen hb hb2) hb3
      go_wp2_with fail
      go_ret
      exact ⟨rfl, B⟩
    | ok b =>
      clear hR hQ hm' hmt'
      go_enter Tryd.func5, Tryd.ntmps5
      go_wp2_with fail
      refine (cl _).mono ?_
      rintro e w1 ⟨rfl, hb⟩
      go_wp2_with fail
      refine (cp _).mono ?_
      rintro e w2 ⟨rfl, hb2⟩
      go_wp2_with fail
      refine (cq _).mono ?_
      rintro e w3 ⟨v, S, rfl, hb3, -, -⟩
      have B := bthen (bthen hb hb2) hb3
      go_wp2_with fail
      go_ret
      exact ⟨rfl, B⟩
  | ok a =>
    have hp : parse (by_ s) = .ok a := by rw [← hR, parseR_small (by omega)]
    have hq : parse (by_ t) = Q := by rw [← hQ, parseR_small (by omega)]
    have hpt := parse_two (t := by_ t) hp (by rw [by_len]; exact hs4) (by rw [by_len]; exact ht4)
    rw [hq, by_len] at hpt
    obtain ⟨u1, e1, z1, s1⟩ := sum_two s ⟨#[10]⟩ (by omega) (by decide)
    have z1' : u1.size = s.size + 1 := z1
    obtain ⟨u, e2, z2, s2⟩ := sum_two u1 t (by omega) (by omega)
    have eu : by_ u = by_ s ++ 10 :: by_ t := by rw [e2, e1]; simp [by_]
    have hus : u.size ≤ 401 := by omega
    rw [← eu] at hpt
    have hum : u.size ≤ maxLen := by unfold maxLen; omega
    have hpu : parseR u = parse (by_ u) := parseR_small (by omega)
    cases Q with
    | error y =>
      obtain ⟨er2, q2⟩ := y
      have d3 : ((er2 : Int) != 0) = true := by rcases parseR_er hQ with rfl | rfl | rfl <;> rfl
      have hq2 : q2 ≤ t.size := by
        have := parse_at hq
        rwa [by_len] at this
      have cu := fun w => Parse_any u w (.error (er2, s.size + 1 + q2)) hum (Lib.hid (by rw [hpu, hpt]))
      have hw1 : ((s.size + 1 + q2 : Nat) : Int) = (s.size : Int) + 1 + q2 := by omega
      rw [show (ParRes (.error (er2, s.size + 1 + q2))) = fun w e w' => e = .returned (.tuple #[.slice none 0 0, .int .i64 ((s.size : Int) + 1 + q2), .int .i64 (er2 : Nat)]) ∧ Below w.heap.size w w' from by
        funext w e w'
        simp only [ParRes, hw1]] at cu
      clear hR hQ hm' hmt' hp hq hpt hpu e1 e2 eu z1 z2 hw1
      go_enter Tryd.func5, Tryd.ntmps5
      go_wp2_with fail
      refine (cl _).mono ?_
      rintro e w1 ⟨rfl, hb⟩
      go_wp2_with fail
      refine (cp _).mono ?_
      rintro e w2 ⟨v, S, rfl, hb2, -, -⟩
      go_wp2_with fail
      refine (cq _).mono ?_
      rintro e w3 ⟨rfl, hb3⟩
      go_wp2_with fail
      refine (cu _).mono ?_
      rintro e w4 ⟨rfl, hb4⟩
      have B := bthen (bthen (bthen hb hb2) hb3) hb4
      clear hb hb2 hb3 hb4 cl cp cq cu
      go_wp2_with fail
      go_ret
      exact ⟨rfl, B⟩
    | ok b =>
      have hpc : parse (by_ u) = .ok (a ++ mvL (s.size + 1) b) := hpt
      obtain ⟨C, hC⟩ : ∃ C, a ++ mvL (s.size + 1) b = C := ⟨_, rfl⟩
      rw [hC] at hpc
      have cu := fun w => Parse_any u w (.ok C) hum (Lib.hid (by rw [hpu, hpc]))
      obtain ⟨ta, hta⟩ := parseR_cut_ok hR
      obtain ⟨tb2, htb⟩ := parseR_cut_ok hQ
      obtain ⟨tc, htc⟩ := parseR_cut_ok (hpu.trans hpc)
      obtain ⟨pa1, _, _, pa4, pa5⟩ := parse_right hp (cutR_ok hta).2
      obtain ⟨pb1, _, _, pb4, pb5⟩ := parse_right hq (cutR_ok htb).2
      obtain ⟨pc1, _⟩ := parse_right hpc (cutR_ok htc).2
      rw [by_len] at pa5 pb5
      have hcc : countL C ≤ 400 := by rw [← hC, countL_append, count_mvL]; omega
      have hcC : cntL (embL C) < 1000 := by rw [cnt_embL]; omega
      have hsame : Hid (SameL (embL C) (embL a ++ embL b)) := Lib.hid (by
        rw [← hC, embL_append]
        exact sameL_append (sameL_refl _) (same_mvL _ _))
      have hws := ws_embL 0 C pc1
      have hla : (embL a).length ≤ 1000 := by have := cnt_len (embL a); rw [cnt_embL] at this; omega
      have hlb : (embL b).length ≤ 1000 := by have := cnt_len (embL b); rw [cnt_embL] at this; omega
      clear hR hQ hm' hmt' hp hq hpt hpu e1 e2 eu z1 z2 hpc hC hta htb htc pa1 pb1 pa4 pb4 pa5 pb5
      go_enter Tryd.func5, Tryd.ntmps5
      go_wp2_with fail
      refine (cl _).mono ?_
      rintro e w1 ⟨rfl, hb⟩
      go_wp2_with fail
      refine (cp _).mono ?_
      rintro e w2 ⟨va, Sa, rfl, hb2, Na, hSa⟩
      go_wp2_with fail
      refine (cq _).mono ?_
      rintro e w3 ⟨vb, Sb, rfl, hb3, Nb, hSb⟩
      go_wp2_with fail
      refine (cu _).mono ?_
      rintro e w4 ⟨vc, Sc, rfl, hb4, Nc, hSc⟩
      have B := bthen (bthen (bthen hb hb2) hb3) hb4
      have Na4 : NdsV Sa w4 va a := (Na.kept ((Stay.below hb3).mono (fun b hb => (hSa b hb).2))).kept ((Stay.below hb4).mono (fun b hb => Nat.lt_of_lt_of_le (hSa b hb).2 hb3.size))
      have Nb4 : NdsV Sb w4 vb b := Nb.kept ((Stay.below hb4).mono (fun b hb => (hSb b hb).2))
      have Sa4 : ∀ b, Sa b → b < w4.heap.size := fun b hb => Nat.lt_of_lt_of_le (Nat.lt_of_lt_of_le (hSa b hb).2 hb3.size) hb4.size
      have Sb4 : ∀ b, Sb b → b < w4.heap.size := fun b hb => Nat.lt_of_lt_of_le (hSb b hb).2 hb4.size
      have Sc4 : ∀ b, Sc b → b < w4.heap.size := fun b hb => (hSc b hb).2
      clear hb hb2 hb3 hb4 cl cp cq cu Na Nb hSa hSb hSc
      go_wp2_with fail
      refine (rFew_any C vc Sc _ 400 Nc Sc4 pc1 (by omega) (by omega)).mono ?_
      rintro e w5 ⟨rfl, hb5⟩
      replace B := bthen B hb5
      have NA := (nsV_emb Na4).on Sa4 hb5
      have NB := (nsV_emb Nb4).on Sb4 hb5
      have NCc := (nsV_emb Nc).on Sc4 hb5
      have Sa5 : ∀ b, Sa b → b < w5.heap.size := fun b hb => Nat.lt_of_lt_of_le (Sa4 b hb) hb5.size
      have Sb5 : ∀ b, Sb b → b < w5.heap.size := fun b hb => Nat.lt_of_lt_of_le (Sb4 b hb) hb5.size
      have Sc5 : ∀ b, Sc b → b < w5.heap.size := fun b hb => Nat.lt_of_lt_of_le (Sc4 b hb) hb5.size
      clear Na4 Nb4 Nc Sa4 Sb4 Sc4 hb5
      obtain ⟨xa, Ha, Ca⟩ := NA.cells
      have X0 := OneC.start 40 5 w5 (Below.refl w5.heap.size w5)
      go_wp2_with (first | (at_builtin; refine put_c 23 underI infoI (by rfl) (by decide) (by go_simp) _ _ rfl X0 rfl rfl Ha (by omega) (by unfold maxLen; omega) ?_))
      intro v6 w6 X6 _
      have X6 : OneC 40 5 w5 w6 v6 (embL a).length xa := by simpa using X6
      have NB6 := NB.on Sb5 X6.below
      have NA6 : NCs Sa w6 xa (embL a) := Ca.kept ((Stay.below X6.below).mono Sa5)
      have NC6 := NCc.on Sc5 X6.below
      have Sa6 : ∀ b, Sa b → b < w6.heap.size := fun b hb => Nat.lt_of_lt_of_le (Sa5 b hb) X6.below.size
      have Sb6 : ∀ b, Sb b → b < w6.heap.size := fun b hb => Nat.lt_of_lt_of_le (Sb5 b hb) X6.below.size
      have Sc6 : ∀ b, Sc b → b < w6.heap.size := fun b hb => Nat.lt_of_lt_of_le (Sc5 b hb) X6.below.size
      obtain ⟨xb, Hb, Cb⟩ := NB6.cells
      clear X0 NA Ha Ca NB NB6
      go_wp2_with (first | (at_builtin; refine put_c 23 underI infoI (by rfl) (by decide) (by go_simp) _ _ rfl X6 rfl rfl Hb (by omega) (by unfold maxLen; omega) ?_))
      intro v7 w7 X7 _
      have B7 : Below w.heap.size w w7 := bthen B X7.below
      have g5 : ∀ y, y < w5.heap.size → w7.heap[y]? = w5.heap[y]? := fun y hy => X7.below.block y hy
      have g6 : ∀ y, y < w5.heap.size → w6.heap[y]? = w5.heap[y]? := fun y hy => X6.below.block y hy
      have kS : ∀ S : Nat → Prop, (∀ b, S b → b < w5.heap.size) → Stay S w6 w7 := fun S hS y hy => (g5 y (hS y hy)).trans (g6 y (hS y hy)).symm
      have l7 := X7.below.size
      have NR := (((NA6.kept (kS Sa Sa5)).mono (T := fun y => Sa y ∨ Sb y) (fun b h => .inl h)).append ((Cb.kept (kS Sb Sb5)).mono (T := fun y => Sa y ∨ Sb y) (fun b h => .inr h)))
      have e7 : (embL a).length + (embL b).length = (embL a ++ embL b).length := by simp
      rw [e7] at X7
      have NF := X7.items NR
      have NC7 : NsV Sc w7 vc (embL C) := NCc.kept ((Stay.below X7.below).mono Sc5)
      have so := Same_any 1000 (by omega) (embL C) (embL a ++ embL b) vc v7 (fun y => Sc y ∨ ((Sa y ∨ Sb y) ∨ v7.ownBlock = some y)) w7 true hcC hws (NC7.mono (fun b h => .inl h)) (NF.mono (fun b h => .inr h)) (by
        rintro y (h | (h | h) | h)
        · have := Sc5 y h; omega
        · have := Sa5 y h; omega
        · have := Sb5 y h; omega
        · exact (X7.own h).2) (Lib.hid ⟨fun _ => hsame.out, fun _ => rfl⟩)
      clear X6 X7 NC6 NA6 Hb Cb NR NF NC7 NCc kS g5 g6 Sa5 Sb5 Sc5 Sa6 Sb6 Sc6 hsame hws B
      go_wp2_with fail
      refine so.mono ?_
      rintro e w8 ⟨rfl, hb8⟩
      have B8 := bthen B7 hb8
      clear so hb8
      go_wp2_with fail
      go_ret
      exact ⟨rfl, B8⟩

end Go.Proofs.YtjebdoecigmkhaaDoor.Yl
