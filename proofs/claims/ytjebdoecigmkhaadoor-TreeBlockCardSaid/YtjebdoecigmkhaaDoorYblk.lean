/- TreeBlock, walked. -/
import Derived.Test.YtjebdoecigmkhaaDoorYlive
import Derived.Test.YtjebdoecigmkhaaDoorYpure
import Derived.Test.YtjebdoecigmkhaaDoorYmv
import Derived.Test.YtjebdoecigmkhaaDoorYrfew
import Derived.Test.YtjebdoecigmkhaaDoorYpdeep
namespace Go.Proofs.YtjebdoecigmkhaaDoor.Yl
set_option linter.unusedSimpArgs false
set_option linter.unusedVariables false
open Go.RowKit Go.Proofs.YtjebdoecigmkhaaDoor.Bn Go.Proofs.YtjebdoecigmkhaaDoor.Zm Go.Proofs.YtjebdoecigmkhaaDoor.Zr Go.Proofs.YtjebdoecigmkhaaDoor.Zp Go.Proofs.YtjebdoecigmkhaaDoor.Zk Go.Proofs.YtjebdoecigmkhaaDoor.Ym Go.Proofs.YtjebdoecigmkhaaDoor.Yp Go.Proofs.YtjebdoecigmkhaaDoor.Yr Go.Proofs.YtjebdoecigmkhaaDoor.Yg

set_option maxHeartbeats 2000000

set_option maxRecDepth 100000 in
theorem tblk_walk (s : ByteArray) (w : World) (hm : s.size ≤ maxLen) (tb : True) : Calls Tryd.prog 6 #[.string s] w fun e w' => e = .returned (.bool true) ∧ Below w.heap.size w w' := by
  have cl := fun w => ylive_ok w
  have hm' := hm
  unfold maxLen at hm
  by_cases h4 : 200 < s.size
  · have d1 : decide ((200 : Int) < (s.size : Int)) = true := decide_eq_true (by omega)
    clear h4
    go_enter Tryd.func6, Tryd.ntmps6
    go_wp2_with fail
    refine (cl _).mono ?_
    rintro e w1 ⟨rfl, hb⟩
    go_wp2_with fail
    go_ret
    exact ⟨rfl, hb⟩
  have d1 : decide ((200 : Int) < (s.size : Int)) = false := decide_eq_false (by omega)
  have hs4 : s.size ≤ 200 := by omega
  clear h4
  obtain ⟨R, hR⟩ : ∃ R, parseR s = R := ⟨_, rfl⟩
  have cp := fun w => Parse_any s w R hm' (Lib.hid hR)
  obtain ⟨u1, e1, z1, s1⟩ := sum_two ⟨#[120, 32, 55, 32, 123]⟩ s (by decide) (by omega)
  have z1' : u1.size = 5 + s.size := z1
  obtain ⟨u, e2, z2, s2⟩ := sum_two u1 ⟨#[10, 125]⟩ (by omega) (by decide)
  have z2' : u.size = u1.size + 2 := z2
  have eu : by_ u = blk (by_ s) := by rw [e2, e1]; simp [by_, blk]
  have hum : u.size ≤ maxLen := by unfold maxLen; omega
  have hpu : parseR u = parse (blk (by_ s)) := by rw [parseR_small (by omega), eu]
  obtain ⟨Q, hQ⟩ : ∃ Q, parseR u = Q := ⟨_, rfl⟩
  have cu := fun w => Parse_any u w Q hum (Lib.hid hQ)
  have hR' : parse (by_ s) = R := by rw [← hR, parseR_small (by omega)]
  have hQ' : parse (blk (by_ s)) = Q := by rw [← hQ, hpu]
  cases R with
  | error x =>
    obtain ⟨er, q⟩ := x
    have d3 : ((er : Int) != 0) = true := by rcases parseR_er hR with rfl | rfl | rfl <;> rfl
    cases Q with
    | error y =>
      obtain ⟨er2, q2⟩ := y
      have d4 : ((er2 : Int) != 0) = true := by rcases parseR_er hQ with rfl | rfl | rfl <;> rfl
      clear hR hQ hm' hR' hQ' hpu eu e1 e2 z1 z2 z1' z2'
      go_enter Tryd.func6, Tryd.ntmps6
      go_wp2_with fail
      refine (cl _).mono ?_
      rintro e w1 ⟨rfl, hb⟩
      go_wp2_with fail
      refine (cp _).mono ?_
      rintro e w2 ⟨rfl, hb2⟩
      go_wp2_with fail
      refine (cu _).mono ?_
      rintro e w3 ⟨rfl, hb3⟩
      have B := bthen (bthen hb hb2) hb3
      go_wp2_with fail
      go_ret
      exact ⟨rfl, B⟩
    | ok k =>
      have hq : q < s.size := by
        rcases parse_block_bad (by rw [by_len]; exact hs4) hR' with h | ⟨x, h⟩
        · rwa [by_len] at h
        · rw [hQ'] at h; cases h
      have dq : decide ((q : Int) < (s.size : Int)) = true := decide_eq_true (by omega)
      have dq2 : decide (q < s.size) = true := decide_eq_true hq
      clear hR hQ hm' hR' hQ' hpu eu e1 e2 z1 z2 z1' z2'
      go_enter Tryd.func6, Tryd.ntmps6
      go_wp2_with fail
      refine (cl _).mono ?_
      rintro e w1 ⟨rfl, hb⟩
      go_wp2_with fail
      refine (cp _).mono ?_
      rintro e w2 ⟨rfl, hb2⟩
      go_wp2_with fail
      refine (cu _).mono ?_
      rintro e w3 ⟨v, S, rfl, hb3, -, -⟩
      have B := bthen (bthen hb hb2) hb3
      go_wp2_with fail
      go_ret
      exact ⟨rfl, B⟩
  | ok l =>
    obtain ⟨ta, hta⟩ := parseR_cut_ok hR
    obtain ⟨pa1, _, _, pa4, pa5⟩ := parse_right hR' (cutR_ok hta).2
    rw [by_len] at pa5
    obtain ⟨b1, b2, b3⟩ := parse_block (by rw [by_len]; exact hs4) hR'
    have hcl : countL l < 1000 := by omega
    by_cases h6 : deepL l = 6
    · obtain ⟨q, hq4, hqe⟩ := b2 h6
      obtain rfl : Q = .error (7, q) := by rw [← hQ', hqe]
      have d6 : ((deepL l : Int) == 6) = true := beq_iff_eq.2 (by omega)
      have dq : decide ((4 : Int) < (q : Int)) = true := decide_eq_true (by omega)
      have dq2 : decide (4 < q) = true := decide_eq_true hq4
      clear hR hQ hm' hR' hQ' hpu eu e1 e2 z1 z2 z1' z2' b1 b2 b3 hta pa1 pa4 hqe h6
      go_enter Tryd.func6, Tryd.ntmps6
      go_wp2_with fail
      refine (cl _).mono ?_
      rintro e w1 ⟨rfl, hb⟩
      go_wp2_with fail
      refine (cp _).mono ?_
      rintro e w2 ⟨v, S, rfl, hb2, hN, hS⟩
      go_wp2_with fail
      refine (cu _).mono ?_
      rintro e w3 ⟨rfl, hb3⟩
      have B := bthen (bthen hb hb2) hb3
      have N3 : NdsV S w3 v l := hN.kept ((Stay.below hb3).mono (fun b hb => (hS b hb).2))
      have S3 : ∀ b, S b → b < w3.heap.size := fun b hb => Nat.lt_of_lt_of_le (hS b hb).2 hb3.size
      clear hN hS hb hb2 hb3 cl cp cu
      go_wp2_with fail
      refine (pDeep_any 1000 (by omega) l v S _ hcl N3 S3).mono ?_
      rintro e w4 ⟨rfl, hb4⟩
      replace B := bthen B hb4
      clear N3 S3 hb4
      go_wp2_with fail
      go_ret
      exact ⟨rfl, B⟩
    · have hqe := b3 (by omega)
      obtain ⟨k, hk⟩ : ∃ k, k = [Nd.mk [120] 0 [⟨true, 7, [], 2⟩] true (mvL 5 l)] := ⟨_, rfl⟩
      rw [← hk] at hqe
      obtain rfl : Q = .ok k := by rw [← hQ', hqe]
      have d6 : ((deepL l : Int) == 6) = false := beq_eq_false_iff_ne.2 (by omega)
      obtain ⟨tc, htc⟩ := parseR_cut_ok hQ
      have hQu : parse (by_ u) = .ok k := by rw [eu]; exact hQ'
      obtain ⟨pk1, _⟩ := parse_right hQu (cutR_ok htc).2
      have hck : countL k ≤ 400 := by rw [hk]; simp only [countL, countN, count_mvL]; omega
      have hsame : Hid (SameL (embL (mvL 5 l)) (embL l)) := Lib.hid (same_mvL 5 l)
      have hwk : WsL 1000000 (embL (mvL 5 l)) := by
        rw [hk] at pk1
        simp only [RightL, RightN] at pk1
        exact ws_embL _ _ pk1.1.2.2.2.2.2
      have hcm : cntL (embL (mvL 5 l)) < 1000 := by rw [cnt_embL, count_mvL]; exact hcl
      have hkl : k.length = 1 := by rw [hk]; rfl
      have hlm : (mvL 5 l).length = l.length := by
        have : ∀ (x : List Nd), (mvL 5 x).length = x.length := by
          intro x
          induction x with
          | nil => rfl
          | cons n x ih => simp [mvL, ih]
        exact this l
      clear hR hQ hm' hR' hQ' hpu eu e1 e2 z1 z2 z1' z2' b1 b2 b3 hta pa1 pa4 hqe htc hQu
      go_enter Tryd.func6, Tryd.ntmps6
      go_wp2_with fail
      refine (cl _).mono ?_
      rintro e w1 ⟨rfl, hb⟩
      go_wp2_with fail
      refine (cp _).mono ?_
      rintro e w2 ⟨v, S, rfl, hb2, hN, hS⟩
      go_wp2_with fail
      refine (cu _).mono ?_
      rintro e w3 ⟨vk, Sk, rfl, hb3, Nk, hSk⟩
      have B := bthen (bthen hb hb2) hb3
      have N3 : NdsV S w3 v l := hN.kept ((Stay.below hb3).mono (fun b hb => (hS b hb).2))
      have S3 : ∀ b, S b → b < w3.heap.size := fun b hb => Nat.lt_of_lt_of_le (hS b hb).2 hb3.size
      have K3 : ∀ b, Sk b → b < w3.heap.size := fun b hb => (hSk b hb).2
      clear hN hS hb hb2 hb3 cl cp cu hSk
      go_wp2_with fail
      refine (pDeep_any 1000 (by omega) l v S _ hcl N3 S3).mono ?_
      rintro e w4 ⟨rfl, hb4⟩
      replace B := bthen B hb4
      have N4 : NdsV S w4 v l := N3.kept ((Stay.below hb4).mono S3)
      have S4 : ∀ b, S b → b < w4.heap.size := fun b hb => Nat.lt_of_lt_of_le (S3 b hb) hb4.size
      have Nk4 : NdsV Sk w4 vk k := Nk.kept ((Stay.below hb4).mono K3)
      have K4 : ∀ b, Sk b → b < w4.heap.size := fun b hb => Nat.lt_of_lt_of_le (K3 b hb) hb4.size
      clear N3 S3 Nk K3 hb4
      go_wp2_with fail
      refine (rFew_any k vk Sk _ 400 Nk4 K4 pk1 (by omega) (by omega)).mono ?_
      rintro e w5 ⟨rfl, hb5⟩
      replace B := bthen B hb5
      have N5 : NdsV S w5 v l := N4.kept ((Stay.below hb5).mono S4)
      have S5 : ∀ b, S b → b < w5.heap.size := fun b hb => Nat.lt_of_lt_of_le (S4 b hb) hb5.size
      have Nk5 : NdsV Sk w5 vk k := Nk4.kept ((Stay.below hb5).mono K4)
      have K5 : ∀ b, Sk b → b < w5.heap.size := fun b hb => Nat.lt_of_lt_of_le (K4 b hb) hb5.size
      clear N4 S4 Nk4 K4 hb5 pk1 hck
      subst hk
      obtain ⟨ptr, cap, rfl, hN⟩ := Nk5
      obtain ⟨g, o, rfl, hN2⟩ := hN.resolve_left (by simp)
      have n0 := hN2.get 0 (by simp)
      obtain ⟨hg, a0, a1, ⟨vw, a2, hw⟩, a3, vm, a4, hm2⟩ := nd_un (nm := [120]) (a := 0) (ws := [⟨true, 7, [], 2⟩]) (b := true) (ks := mvL 5 l) n0
      obtain ⟨pw, cw, rfl, hw⟩ := hw
      obtain ⟨gw, ow, rfl, hw2⟩ := hw.resolve_left (by simp)
      obtain ⟨hgw, c0, c1, c2, c3⟩ := hw2.get 0 (by simp)
      have so := Same_any 1000 (by omega) (embL (mvL 5 l)) (embL l) vm v (fun y => Sk y ∨ S y) w5 true hcm hwk ((nsV_emb hm2).mono (fun b h => .inl h)) ((nsV_emb N5).mono (fun b h => .inr h)) (by
        rintro y (h | h)
        · exact K5 y h
        · exact S5 y h) (Lib.hid ⟨fun _ => hsame.out, fun _ => rfl⟩)
      obtain ⟨pm, cm, rfl, -⟩ := hm2
      simp at a0 a1 a2 a3 a4 c0 c1 c2 c3
      simp only [List.length_cons, List.length_nil]
      rw [hlm] at a4 so
      clear hN hN2 n0 hw hw2 N5 S5 K5 hsame hwk hcm hg hgw
      go_wp2_with fail
      refine so.mono ?_
      rintro e w6 ⟨rfl, hb6⟩
      replace B := bthen B hb6
      clear so hb6
      go_wp2_with fail
      go_ret
      exact ⟨rfl, B⟩

end Go.Proofs.YtjebdoecigmkhaaDoor.Yl
