/- LayoutDoes, walked. -/
import Derived.Test.YtabhbcedldjjjaaGreatDoorYodr
import Derived.Test.YtabhbcedldjjjaaGreatDoorJYo
import Derived.Test.YtabhbcedldjjjaaGreatDoorFrameN
import Derived.Test.YtabhbcedldjjjaaGreatDoorYrleft
namespace Go.Proofs.YtabhbcedldjjjaaGreatDoor.Yl
set_option linter.unusedSimpArgs false
set_option linter.unusedVariables false
open Go Go.RowKit Go.Proofs.YtabhbcedldjjjaaGreatDoor.Zm Go.Proofs.YtabhbcedldjjjaaGreatDoor.Ym Go.Proofs.YtabhbcedldjjjaaGreatDoor.Bn Go.Proofs.YtabhbcedldjjjaaGreatDoor.Zp Go.Proofs.YtabhbcedldjjjaaGreatDoor.Zk Go.Proofs.YtabhbcedldjjjaaGreatDoor.Yp Go.Proofs.YtabhbcedldjjjaaGreatDoor.Zr Go.Proofs.YtabhbcedldjjjaaGreatDoor.Yg Go.Proofs.YtabhbcedldjjjaaGreatDoor.Yo

set_option maxHeartbeats 2000000

set_option maxRecDepth 100000 in
theorem ldoes_walk (a0 : Option Addr) (n0 c0 : Nat) (l : List NI) (s : ByteArray) (w : World) (hl : ItemsOf w a0 n0 c0 l) (hm : s.size ≤ maxLen) (tb : Pows w) :
    Calls Tryz.prog 3 #[.slice a0 n0 c0, .string s] w fun e w' => e = .returned (.bool true) ∧ Below w.heap.size w w' := by
  have cl := yolive_ok w tb
  have hm' := hm
  unfold maxLen at hm
  obtain ⟨e0, l1, l2, l3, l4⟩ := hl
  subst e0
  have sS : ∀ W, Below w.heap.size w W → ∀ b, b < w.heap.size → b < W.heap.size := fun W hB b hb => Nat.lt_of_lt_of_le hb hB.size
  have on_ : ∀ W v x, Below w.heap.size w W → NsV (· < w.heap.size) w v x → NsV (· < w.heap.size) W v x := fun W v x hB h => h.on (fun b hb => hb) hB
  obtain ⟨r0, hr0⟩ : ∃ r, decide (0 ≤ lft 12 l 60) = r := ⟨_, rfl⟩
  have cf0 := Lib.hid (fun W (hB : Below w.heap.size w W) => rFewI_any l (.slice a0 l.length c0) (· < w.heap.size) W 60 r0 (on_ W _ _ hB l4) (sS W hB) l1 l3 (by omega) (by omega) (Lib.hid hr0))
  cases r0 with
  | false =>
    clear hr0 on_ sS l4 l3 l2 l1
    go_enter Tryz.func3, Tryz.ntmps3
    go_wp2_with fail
    refine cl.mono ?_
    rintro e w1 ⟨rfl, hb⟩
    go_wp2_with fail
    refine (cf0.out _ hb).mono ?_
    rintro e w2 ⟨rfl, hb2⟩
    have B := bthen hb hb2
    go_wp2_with fail
    go_ret
    exact ⟨rfl, B⟩
  | true =>
    by_cases h4 : 400 < s.size
    · have d1 : decide ((400 : Int) < (s.size : Int)) = true := decide_eq_true (by omega)
      clear hr0 on_ sS l4 l3 l2 l1 h4
      go_enter Tryz.func3, Tryz.ntmps3
      go_wp2_with fail
      refine cl.mono ?_
      rintro e w1 ⟨rfl, hb⟩
      go_wp2_with fail
      refine (cf0.out _ hb).mono ?_
      rintro e w2 ⟨rfl, hb2⟩
      have B := bthen hb hb2
      go_wp2_with fail
      go_ret
      exact ⟨rfl, B⟩
    have d1 : decide ((400 : Int) < (s.size : Int)) = false := decide_eq_false (by omega)
    have f0 := lft_few 12 l 60 (of_decide_eq_true hr0)
    have hc : cntL l ≤ 60 := by
      have := of_decide_eq_true hr0
      omega
    have hws := f0.2.mono (b := 1000000) (by omega)
    obtain ⟨p, hp⟩ : ∃ p, printI l = p := ⟨_, rfl⟩
    obtain ⟨q, hq⟩ : ∃ q, canonR s = q := ⟨_, rfl⟩
    have kp := Lib.hid (fun W (hB : Below w.heap.size w W) => Print_any l (.slice a0 l.length c0) (· < w.heap.size) W p (by omega) hws l2 (on_ W _ _ hB l4) (sS W hB) (tb.kept hB) (Lib.hid hp))
    have kr := Lib.hid (fun W (hB : Below w.heap.size w W) => rPrint_any l (.slice a0 l.length c0) (· < w.heap.size) W p (by omega) l2 (on_ W _ _ hB l4) (sS W hB) (Lib.hid hp))
    have hcl : Hid (∀ l', parseR s = .ok l' → countL l' ≤ 4000) := Lib.hid (fun l' h => by
      have hp : parse (by_ s) = .ok l' := by rw [← parseR_small (by omega)]; exact h
      obtain ⟨a, ha⟩ := parseR_cut_ok h
      obtain ⟨_, _, _, p4, p5⟩ := parse_right hp (cutR_ok ha).2
      rw [by_len] at p5
      omega)
    have kc := Lib.hid (fun W P => Canon_any s W q hm' P hcl (Lib.hid hq))
    have kd := Lib.hid (fun W => rCanon_any s W q hm' hcl (Lib.hid hq))
    obtain ⟨p1, p2⟩ := p
    obtain ⟨q1, q2, q3⟩ := q
    clear hr0 on_ sS l4 l3 l2 l1 hws f0 hp hq hcl h4 hm'
    go_enter Tryz.func3, Tryz.ntmps3
    go_wp2_with fail
    refine cl.mono ?_
    rintro e w1 ⟨rfl, hb⟩
    go_wp2_with fail
    refine (cf0.out _ hb).mono ?_
    rintro e w2 ⟨rfl, hb2⟩
    have B2 := bthen hb hb2
    clear hb hb2
    go_wp2_with fail
    refine (kp.out _ B2).mono ?_
    rintro e w3 ⟨rfl, hb3⟩
    have B3 := bthen B2 hb3
    clear hb3 B2
    go_wp2_with fail
    refine (kr.out _ B3).mono ?_
    rintro e w4 ⟨rfl, hb4⟩
    have B4 := bthen B3 hb4
    clear hb4 B3
    go_wp2_with fail
    refine (kc.out _ (tb.kept B4)).mono ?_
    rintro e w5 ⟨rfl, hb5⟩
    have B5 := bthen B4 hb5
    clear hb5 B4
    go_wp2_with fail
    refine (kd.out _).mono ?_
    rintro e w6 ⟨rfl, hb6⟩
    have B6 := bthen B5 hb6
    clear hb6 B5
    go_wp2_with fail
    go_ret
    exact ⟨rfl, B6⟩

end Go.Proofs.YtabhbcedldjjjaaGreatDoor.Yl
