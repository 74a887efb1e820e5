/- Texts that are joined: Zlive, Znames, Zahead, Zlexb, Zrjoin. -/
import Derived.Test.YtabhbcedldjjjaaGreatDoorZcut
import Derived.OpenShut
import Derived.Test.YtabhbcedldjjjaaGreatDoorZjoin
import Derived.Test.YtabhbcedldjjjaaGreatDoorZapp
import Derived.StillTailTactics
namespace Go.Proofs.YtabhbcedldjjjaaGreatDoor.Zl
set_option linter.unusedSimpArgs false
set_option linter.unusedVariables false
open Go.RowKit Go.Proofs.YtabhbcedldjjjaaGreatDoor.Zm Go.Proofs.YtabhbcedldjjjaaGreatDoor.Zr Go.Proofs.YtabhbcedldjjjaaGreatDoor.Zp Go.Proofs.YtabhbcedldjjjaaGreatDoor.Zk Go.Proofs.YtabhbcedldjjjaaGreatDoor.Bn

set_option maxHeartbeats 1000000

/-- "a 12;" -/
theorem cut_live : cutR ⟨#[97, 32, 49, 50, 59]⟩ = .ok [⟨1, 0, 0, [97]⟩, ⟨2, 2, 12, []⟩, ⟨5, 4, 0, []⟩] := by
  have e : by_ ⟨#[97, 32, 49, 50, 59]⟩ = [97, 32, 49, 50, 59] := rfl
  rw [cutR, if_neg (by decide), e]
  rw [cut_tok (k := 1) (n := 0) (s := [97]) (len := 1) 0 0 (by rfl), if_neg (by decide)]
  rw [show ([32, 49, 50, 59] : List UInt8).drop (1 - 1) = [32, 49, 50, 59] from rfl, cut_skip (n := 1) _ _ (by rfl)]
  rw [show ([49, 50, 59] : List UInt8).drop (1 - 1) = [49, 50, 59] from rfl, cut_tok (k := 2) (n := 12) (s := []) (len := 2) _ _ (by rfl), if_neg (by decide)]
  rw [show ([50, 59] : List UInt8).drop (2 - 1) = [59] from rfl, cut_tok (k := 5) (n := 0) (s := []) (len := 1) _ _ (by rfl), if_neg (by decide)]
  rw [show ([] : List UInt8).drop (1 - 1) = [] from rfl, cut_nil]
  rfl

/-- the cells of a row of tokens, by their place -/
theorem row_cells {W : World} {g : Nat} {a : List Tk} (R : RowT W g a) (i : Nat) (h : i < a.length) :
    W.cell? ⟨g, i * 4, none⟩ = some (.int .i64 a[i].k) ∧ W.cell? ⟨g, i * 4 + 1, none⟩ = some (.int .i64 a[i].a) ∧ W.cell? ⟨g, i * 4 + 2, none⟩ = some (.int .i64 a[i].n) ∧ W.cell? ⟨g, i * 4 + 3, none⟩ = some (.string ⟨a[i].s.toArray⟩) :=
  ⟨R.at_ i h 0 (by omega), R.at_ i h 1 (by omega), R.at_ i h 2 (by omega), R.at_ i h 3 (by omega)⟩

end Go.Proofs.YtabhbcedldjjjaaGreatDoor.Zl

namespace Go.Proofs.YtabhbcedldjjjaaGreatDoor.Zl
set_option linter.unusedSimpArgs false
set_option linter.unusedVariables false
open Go.RowKit Go.Proofs.YtabhbcedldjjjaaGreatDoor.Zm Go.Proofs.YtabhbcedldjjjaaGreatDoor.Zr Go.Proofs.YtabhbcedldjjjaaGreatDoor.Zp Go.Proofs.YtabhbcedldjjjaaGreatDoor.Zk Go.Proofs.YtabhbcedldjjjaaGreatDoor.Bn

set_option maxHeartbeats 1000000

theorem err_ne {s : ByteArray} {er q : Nat} (h : cutR s = .error (er, q)) : er = 5 ∨ er = 6 := by
  unfold cutR at h
  split at h
  · injection h with h; injection h with h _; exact .inr h.symm
  · obtain ⟨_, _, _, he, _⟩ := cut_ahead _ _ _ _ _ _ (Nat.le_refl _) h
    exact he

end Go.Proofs.YtabhbcedldjjjaaGreatDoor.Zl

namespace Go.Proofs.YtabhbcedldjjjaaGreatDoor.Zl
set_option linter.unusedSimpArgs false
set_option linter.unusedVariables false
open Go.RowKit Go.Proofs.YtabhbcedldjjjaaGreatDoor.Zm Go.Proofs.YtabhbcedldjjjaaGreatDoor.Zr Go.Proofs.YtabhbcedldjjjaaGreatDoor.Zp Go.Proofs.YtabhbcedldjjjaaGreatDoor.Zk Go.Proofs.YtabhbcedldjjjaaGreatDoor.Bn

set_option maxHeartbeats 1000000

theorem by_append (a b : ByteArray) : by_ (a ++ b) = by_ a ++ by_ b := by
  show (a ++ b).data.toList = _
  rw [ByteArray.data_append]; simp [by_]

/-- two texts together -/
theorem sum_two (a b : ByteArray) (ha : a.size ≤ 1000000) (hb : b.size ≤ 1000000) : ∃ u : ByteArray, by_ u = by_ a ++ by_ b ∧ u.size = a.size + b.size ∧ ∀ w, (Op.stringOp .add a b).run Tryz.prog w = .ok (.string u) w :=
  ⟨a ++ b, by_append a b, ByteArray.size_append, fun w => run_string_add_sum w _ _ (by omega)⟩

theorem slice_to (s : ByteArray) (b : Nat) (hb : b ≤ s.size) : ∃ t : ByteArray, by_ t = (by_ s).take b ∧ t.size = b ∧
    ∀ w, (Instr.slice 9 (.string s) none (some (.int .i64 (b : Int))) none).run Tryz.prog w = .ok (.string t) w := by
  refine ⟨s.extract 0 b, ?_, ?_, fun w => ?_⟩
  · rw [by_extract s 0 b (by omega) hb, List.drop_zero]
  · rw [ByteArray.size_extract]; omega
  · rw [run_slice_string_to_if _ _ _ _ _ Tryz.underlying9, if_pos ⟨by omega, by omega⟩]; simp

end Go.Proofs.YtabhbcedldjjjaaGreatDoor.Zl

namespace Go.Proofs.YtabhbcedldjjjaaGreatDoor.Zl
set_option linter.unusedSimpArgs false
set_option linter.unusedVariables false
open Go.RowKit Go.Proofs.YtabhbcedldjjjaaGreatDoor.Zm Go.Proofs.YtabhbcedldjjjaaGreatDoor.Zr Go.Proofs.YtabhbcedldjjjaaGreatDoor.Zp Go.Proofs.YtabhbcedldjjjaaGreatDoor.Zk Go.Proofs.YtabhbcedldjjjaaGreatDoor.Bn

set_option maxHeartbeats 1000000

theorem tokN_tkI (t : Tk) : tokN (tkI t) = t := by
  obtain ⟨k, a, n, s⟩ := t
  simp [tokN, tkI, by_]

theorem fine_tkI {t : Tk} (h : Fine t) : FineI (tkI t) := by
  obtain ⟨k, a, n, s⟩ := t
  rcases h with ⟨h1, h2, h3⟩ | ⟨h1, h2, h3⟩ | ⟨h1, h2, h3⟩
  · simp only at h1 h2 h3; subst h1 h2; exact .inl ⟨rfl, rfl, by simpa [tkI, by_] using h3⟩
  · simp only at h1 h2 h3; subst h1 h2; exact .inr (.inl ⟨rfl, rfl, by simp only [tkI]; omega, by simp only [tkI]; omega⟩)
  · simp only at h1 h2 h3; subst h2 h3
    refine .inr (.inr ⟨?_, rfl, rfl⟩)
    simp only [tkI]; omega

theorem fineI_bare {t : TkI} (h : FineI t) : bareI (tkI (tokN t)) = bareI t := by
  obtain ⟨k, a, n, s⟩ := t
  have hs : (⟨(by_ s).toArray⟩ : ByteArray) = s := by apply ByteArray.ext; simp [by_]
  rcases h with ⟨h1, h2, h3⟩ | ⟨h1, h2, h3, h4⟩ | ⟨h1, h2, h3⟩
  · simp only at h1 h2; subst h1 h2; simp [bareI, tkI, tokN, hs]
  · simp only at h1 h2 h3 h4; subst h1 h2; simp [bareI, tkI, tokN]; omega
  · simp only at h1 h2 h3; subst h2 h3; simp [bareI, tkI, tokN]; omega

/-- own tokens, put together, are those of the list -/
theorem toks_own (a : List Tk) : toks (fun i => tkI (a.getD i ⟨0, 0, 0, []⟩)) a.length = a := by
  apply List.ext_getElem
  · rw [toks_len]
  · intro i h1 h2
    simp [toks, tokN_tkI, h2]

/-- what was cut out of the tokens that were put together -/
theorem bare_frame {z : Nat → TkI} {n : Nat} {b : List Tk} (h : b.map bare = (toks z n).map bare) (hf : ∀ i, i < n → FineI (z i)) :
    b.length = n ∧ ∀ i, i < b.length → bareI (tkI (b.getD i ⟨0, 0, 0, []⟩)) = bareI (z i) := by
  obtain ⟨h1, h2⟩ := bare_tk h
  rw [toks_len] at h1
  refine ⟨h1, fun i hi => (h2 i hi).trans ?_⟩
  have e : (toks z n).getD i ⟨0, 0, 0, []⟩ = tokN (z i) := by simp [List.getD, toks, show i < n by omega]
  rw [e]; exact fineI_bare (hf i (by omega))

theorem joinIs_exists (n : Nat) (z : Nat → TkI) (hn : n ≤ 1000) : (JoinIs n z [] 1 ∧ ∃ i, i < n ∧ ¬ FineI (z i)) ∨ (JoinIs n z (join (toks z n)) 0 ∧ (∀ i, i < n → FineI (z i)) ∧ (join (toks z n)).length ≤ 17 * n) := by
  by_cases h : ∀ i, i < n → FineI (z i)
  · have hl := join_len (toks z n) (toks_fine h)
    rw [toks_len] at hl
    exact .inr ⟨.inr ⟨by omega, h, .inr ⟨rfl, rfl, by omega⟩⟩, h, hl⟩
  · have : ∃ i, i < n ∧ ¬ FineI (z i) := by
      refine Classical.byContradiction fun hc => h fun i hi => Classical.byContradiction fun hf => hc ⟨i, hi, hf⟩
    exact .inl ⟨.inl ⟨rfl, rfl, .inr this⟩, this⟩

theorem wf_own {a : List Tk} (hf : ∀ t ∈ a, Fine t) (ha : a.length ≤ 1000000) : ∀ i, i < a.length → (Lit.int .i64 (tkI (a.getD i ⟨0, 0, 0, []⟩)).k).wf = true ∧ (tkI (a.getD i ⟨0, 0, 0, []⟩)).s.size ≤ maxLen := by
  intro i hi
  have e : a.getD i ⟨0, 0, 0, []⟩ = a[i] := by simp [List.getD, hi]
  rw [e]
  have h := hf a[i] (List.getElem_mem _)
  generalize a[i] = t at h
  obtain ⟨k, p, n, s⟩ := t
  have hz : (⟨s.toArray⟩ : ByteArray).size = s.length := by simp [ByteArray.size]
  have ht := text_len h
  rcases h with ⟨h1, h2, h3⟩ | ⟨h1, h2, h3⟩ | ⟨h1, h2, h3⟩
  · simp only at h1 h2 h3; subst h1 h2
    refine ⟨by simp only [tkI]; exact WalkArith.wf_i64 (by omega), ?_⟩
    simp only [tkI, hz]
    simp [text] at ht
    unfold maxLen; omega
  · simp only at h1 h2 h3; subst h1 h2
    exact ⟨by simp only [tkI]; exact WalkArith.wf_i64 (by omega), by simp only [tkI, hz]; simp⟩
  · simp only at h1 h2 h3; subst h2 h3
    exact ⟨by simp only [tkI]; exact WalkArith.wf_i64 (by omega), by simp only [tkI, hz]; simp⟩

end Go.Proofs.YtabhbcedldjjjaaGreatDoor.Zl

namespace Go.Proofs.YtabhbcedldjjjaaGreatDoor.Zr
set_option linter.unusedSimpArgs false
set_option linter.unusedVariables false
open Go.RowKit Go.Proofs.YtabhbcedldjjjaaGreatDoor.Zm Go.Proofs.YtabhbcedldjjjaaGreatDoor.Zk Go.Proofs.YtabhbcedldjjjaaGreatDoor.Zp Go.Proofs.YtabhbcedldjjjaaGreatDoor.Zl Go.Proofs.YtabhbcedldjjjaaGreatDoor.Bn

set_option maxHeartbeats 1000000

/-- the last m decimal digits of n -/
def lastDigits : Nat → Nat → List UInt8
  | _, 0 => []
  | n, m + 1 => lastDigits (n / 10) m ++ [UInt8.ofNat (48 + n % 10)]

theorem lastDigits_dec (n : Nat) : lastDigits n (Lib.decDigits n).length = Lib.decDigits n := by
  induction n using Nat.strongRecOn with
  | _ n ih =>
    rw [dec_eq]
    by_cases h : n < 10
    · rw [if_pos h]
      simp [lastDigits, Nat.mod_eq_of_lt h]
    · rw [if_neg h, List.length_append]
      show lastDigits n ((Lib.decDigits (n / 10)).length + 1) = _
      rw [lastDigits, ih _ (by omega)]

theorem lastDigits_len (n m : Nat) : (lastDigits n m).length = m := by
  induction m generalizing n with
  | zero => rfl
  | succ m ih => simp [lastDigits, ih]

/-- the digits that are there behind k rounds: those of n, the rest of which is n / 10^k -/
theorem lastDigits_more (n m : Nat) : ∀ k, lastDigits n (k + m) = lastDigits (n / 10 ^ k) m ++ lastDigits n k := by
  intro k
  induction k generalizing n with
  | zero => simp [lastDigits]
  | succ k ih =>
    rw [show k + 1 + m = (k + m) + 1 by omega, lastDigits, ih, lastDigits, Nat.div_div_eq_div_mul, Nat.pow_succ, Nat.mul_comm 10 (10 ^ k), List.append_assoc]

set_option maxRecDepth 100000 in
theorem rName_same (s : ByteArray) (w : World) (hm : s.size ≤ maxLen) :
    Calls Tryz.prog 39 #[.string s] w fun e w' => e = .returned (.bool (name (by_ s))) ∧ w = w' := by
  unfold maxLen at hm
  have hn := name_iff s
  obtain ⟨v, hv⟩ : ∃ v, name (by_ s) = v := ⟨_, rfl⟩
  rw [hv] at hn ⊢
  clear hv
  by_cases h1 : s.size < 1
  · obtain rfl := bool_no hn (by omega)
    have d1 : decide ((s.size : Int) < 1) = true := decide_eq_true (by omega)
    clear h1 hn
    go_enter Tryz.func39, Tryz.ntmps39
    go_wp2
    go_ret
    exact ⟨rfl, rfl⟩
  have d1 : decide ((s.size : Int) < 1) = false := decide_eq_false (by omega)
  by_cases h2 : 16 < s.size
  · obtain rfl := bool_no hn (by omega)
    have d2 : decide ((16 : Int) < (s.size : Int)) = true := decide_eq_true (by omega)
    clear h1 hn h2
    go_enter Tryz.func39, Tryz.ntmps39
    go_wp2
    go_ret
    exact ⟨rfl, rfl⟩
  have d2 : decide ((16 : Int) < (s.size : Int)) = false := decide_eq_false (by omega)
  have hs : 0 < s.size := by omega
  have cl := rletter s[0]
  cases h3 : letter s[0] with
  | false =>
    obtain rfl := bool_no hn (fun h => by have := h.2.2.1 hs; rw [h3] at this; cases this)
    rw [h3] at cl
    clear h1 hn h2 h3
    go_enter Tryz.func39, Tryz.ntmps39
    go_wp2_with fail
    refine (cl _).mono ?_
    rintro e w' ⟨rfl, rfl⟩
    go_wp2_with fail
    go_ret
    exact ⟨rfl, rfl⟩
  | true =>
    rw [h3] at cl
    have HN := Lib.hid hn
    have H3 := Lib.hid h3
    have s16 : s.size ≤ 16 := by omega
    clear h1 hn h2 h3
    go_enter Tryz.func39, Tryz.ntmps39
    go_wp2_with fail
    refine (cl _).mono ?_
    rintro e w' ⟨rfl, rfl⟩
    go_wp2_with fail
    go_loopw [20] (fun I wr => ∃ pos : Nat, pos ≤ s.size ∧ I = .int .i64 pos ∧ w = wr ∧ Hid (∀ i (h : i < s.size), i < pos → inner s[i] = true)) (fun I _ => 20 - (intOf I).toNat)
    case atStart => exact ⟨0, by omega, rfl, rfl, Lib.hid (fun i h h0 => by omega)⟩
    case round =>
      obtain ⟨pos, hp, rfl, rfl, hi⟩ := hrel
      have pp : (0 : Int) ≤ (pos : Int) := by omega
      by_cases hlt : pos < s.size
      · have ci := rinner s[pos]
        cases h4 : inner s[pos] with
        | false =>
          rw [h4] at ci
          have hv : Hid (v = false) := Lib.hid (bool_no HN.out (fun h => by have := h.2.2.2 pos hlt; rw [h4] at this; cases this))
          clear h4
          go_wp2_with fail
          refine (ci _).mono ?_
          rintro e w' ⟨rfl, rfl⟩
          go_wp2_with fail
          go_ret
          exact ⟨by rw [hv.out]; rfl, rfl⟩
        | true =>
          rw [h4] at ci
          have HI : Hid (∀ i (h : i < s.size), i < pos + 1 → inner s[i] = true) := Lib.hid (fun i h hi' => by
            rcases Nat.lt_or_ge i pos with g | g
            · exact hi.out i h g
            · obtain rfl : i = pos := by omega
              exact h4)
          clear h4
          go_wp2_with fail
          refine (ci _).mono ?_
          rintro e w' ⟨rfl, rfl⟩
          go_wp2_with fail
          go_roundw
          case rel => exact ⟨pos + 1, by omega, by go_num, by simp, HI⟩
          case measure => simp [intOf]; omega
      · have hv : Hid (v = true) := Lib.hid (HN.out.2 ⟨hs, s16, fun _ => H3.out, fun i h => hi.out i h (by omega)⟩)
        obtain rfl : pos = s.size := by omega
        go_wp2_with fail
        go_ret
        exact ⟨by rw [hv.out]; rfl, rfl⟩


set_option maxRecDepth 100000 in
theorem rDigits8 (n m : Nat) (w : World) (n1 : n ≤ 9223372036854775807) (hm : m ≤ 30) :
    Calls Tryz.prog 41 #[.int .i64 n, .int .i64 m] w fun e w' => e = .returned (.string ⟨(lastDigits n m).toArray⟩) ∧ Below w.heap.size w w' := by
  go_enter Tryz.func41, Tryz.ntmps41
  go_wp2
  go_loopw [0, 5, 7] (fun N S J wr => ∃ (j : Nat) (q : Int), j ≤ m ∧ J = .int .i64 j ∧ N = .int .i64 q ∧ 0 ≤ q ∧ q ≤ 9223372036854775807 ∧ Hid (q = ((n / 10 ^ j : Nat) : Int)) ∧ (∃ x : ByteArray, S = .string x ∧ Hid (x = ⟨(lastDigits n j).toArray⟩)) ∧ Below w.heap.size w wr) (fun _ _ J _ => m - (intOf J).toNat)
  case atStart => exact ⟨0, n, by omega, rfl, rfl, by omega, by omega, Lib.hid (by simp), ⟨_, rfl, Lib.hid rfl⟩, Below.refl _ _⟩
  case round =>
    obtain ⟨j, q, j0, rfl, rfl, q0, q1, hq, ⟨x, rfl, hx⟩, hb⟩ := hrel
    by_cases hlt : j < m
    · obtain ⟨r, hr⟩ : ∃ r : Nat, (n / 10 ^ j) % 10 = r := ⟨_, rfl⟩
      have r1 : r ≤ 9 := by omega
      have hri : q % 10 = (r : Int) := by have := hq.out; omega
      have sz : x.size = j := by rw [hx.out]; show (lastDigits n j).toArray.size = j; simp [lastDigits_len]
      obtain ⟨c, hc⟩ : ∃ c : UInt8, UInt8.ofNat (48 + r) = c := ⟨_, rfl⟩
      have hdv : (c.toNat : Int) = 48 + (r : Int) := by rw [← hc, ofNat_toNat (by omega)]; omega
      have hconv : (convert 35 9 (.slice (some ⟨wr.heap.size, 0, none⟩) 1 1)).run Tryz.prog (wr.alloc (.cells #[.int .u8 (48 + (r : Int))] 5)) = .ok (.string ⟨#[c]⟩) (wr.alloc (.cells #[.int .u8 (48 + (r : Int))] 5)) :=
        run_convert_bytes_back (P := Tryz.prog) (wr.alloc (.cells #[.int .u8 (48 + (r : Int))] 5)) 35 9 5 ⟨wr.heap.size, 0, none⟩ 1 [c] Tryz.underlying35 Tryz.underlying5 Tryz.underlying9 (fun j hj => by
          obtain rfl : j = 0 := by simpa using hj
          simp [go_sem, hdv])
      have e : Hid ((⟨#[c]⟩ : ByteArray) ++ x = ⟨(lastDigits n (j + 1)).toArray⟩) := Lib.hid (by
        rw [hx.out, ByteArray.mk_append_mk [c] (lastDigits n j), lastDigits_more n 1 j]
        show _ = (⟨((([] : List UInt8) ++ [UInt8.ofNat (48 + n / 10 ^ j % 10)]) ++ lastDigits n j).toArray⟩ : ByteArray)
        rw [hr, hc]; rfl)
      have hq2 : Hid (q / 10 = ((n / 10 ^ (j + 1) : Nat) : Int)) := Lib.hid (by
        have := hq.out
        have e2 : n / 10 ^ (j + 1) = (n / 10 ^ j) / 10 := by rw [Nat.div_div_eq_div_mul, Nat.pow_succ]
        rw [e2]; omega)
      clear hr hc
      obtain ⟨cz, hcz⟩ : ∃ cz : ByteArray, (⟨#[c]⟩ : ByteArray) = cz := ⟨_, rfl⟩
      rw [hcz] at hconv e
      have zz : cz.size = 1 := by rw [← hcz]; rfl
      clear hcz hdv
      go_wp2
      go_roundw
      case rel => exact ⟨j + 1, q / 10, by omega, by go_num, rfl, by omega, by omega, hq2, ⟨_, rfl, e⟩, balloc hb _⟩
      case measure => simp [intOf]; omega
    · obtain rfl : j = m := by omega
      go_wp2
      go_ret
      exact ⟨congrArg (fun x => Ending.returned (.string x)) hx.out, hb⟩

theorem dec_len19 (n : Nat) (h : n ≤ 9223372036854775807) : (Lib.decDigits n).length ≤ 19 := dec_len (by omega) (by omega)

set_option maxRecDepth 100000 in
theorem rDecimal (n : Nat) (w : World) (n1 : n ≤ 9223372036854775807) :
    Calls Tryz.prog 28 #[.int .i64 n] w fun e w' => e = .returned (.string ⟨(Lib.decDigits n).toArray⟩) ∧ Below w.heap.size w w' := by
  have h19 := dec_len19 n n1
  obtain ⟨L, hL⟩ : ∃ L, (Lib.decDigits n).length = L := ⟨_, rfl⟩
  have cd := fun w => rDigits8 n L w n1 (by omega)
  rw [hL] at h19
  have HL := Lib.hid hL
  have HD : Hid (lastDigits n L = Lib.decDigits n) := Lib.hid (by rw [← hL]; exact lastDigits_dec n)
  clear hL
  go_enter Tryz.func28, Tryz.ntmps28
  go_wp2_with fail
  go_loop [3, 4] (fun M N => ∃ (j : Nat) (q : Int), 1 ≤ j ∧ j ≤ L ∧ M = .int .i64 j ∧ N = .int .i64 q ∧ 0 ≤ q ∧ q ≤ 9223372036854775807 ∧ Hid (j + (Lib.decDigits q.toNat).length = L + 1)) (fun M _ => 30 - (intOf M).toNat)
  case atStart => exact ⟨1, n, by omega, by rw [← HL.out, dec_eq]; split <;> simp, rfl, rfl, by omega, by omega, Lib.hid (by rw [Int.toNat_natCast, HL.out]; omega)⟩
  case round =>
    obtain ⟨j, q, j1, jL, rfl, rfl, q0, q1, hq⟩ := hrel
    by_cases h10 : 10 ≤ q
    · have d1 : decide ((10 : Int) ≤ q) = true := decide_eq_true (by omega)
      have hq' := hq.out
      rw [dec_eq, if_neg (by omega), List.length_append, List.length_singleton] at hq'
      have h1 : 1 ≤ (Lib.decDigits (q.toNat / 10)).length := by rw [dec_eq]; split <;> simp
      have HQ : Hid (j + 1 + (Lib.decDigits (q / 10).toNat).length = L + 1) := Lib.hid (by rw [show (q / 10).toNat = q.toNat / 10 by omega]; omega)
      have hjL : j + 1 ≤ L := by omega
      clear hq hq' h1
      go_wp2_with fail
      go_round
      case rel => exact ⟨j + 1, q / 10, by omega, hjL, by go_num, rfl, by omega, by omega, HQ⟩
      case measure => simp [intOf]; omega
    · have d1 : decide ((10 : Int) ≤ q) = false := decide_eq_false (by omega)
      have hq' := hq.out
      rw [dec_eq, if_pos (by omega), List.length_singleton] at hq'
      obtain rfl : j = L := by omega
      clear hq hq'
      go_wp2_with fail
      refine (cd _).mono ?_
      rintro e w1 ⟨rfl, hb⟩
      go_wp2_with fail
      go_ret
      exact ⟨by rw [HD.out]; rfl, hb⟩

end Go.Proofs.YtabhbcedldjjjaaGreatDoor.Zr
