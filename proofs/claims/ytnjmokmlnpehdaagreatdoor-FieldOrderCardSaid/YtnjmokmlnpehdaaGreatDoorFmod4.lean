/- What Read says of a calendar's block whose keys are numbered, turned, left out, put in, or exchanged: plain mathematics. No condition. -/
import Derived.Test.YtnjmokmlnpehdaaGreatDoorJFa
namespace Go.Proofs.YtnjmokmlnpehdaaGreatDoor.Fm
set_option linter.unusedSimpArgs false
set_option linter.unusedVariables false
open Go Go.Proofs.YtnjmokmlnpehdaaGreatDoor.Am Go.Proofs.YtnjmokmlnpehdaaGreatDoor.Yg

/-- keys with their numbers, from i on, as places -/
def num : Nat → List Nat → List (Int × Nat)
  | _, [] => []
  | i, k :: l => ((i : Int), k) :: num (i + 1) l
theorem num_snd : ∀ (l : List Nat) (i : Nat), (num i l).map (·.2) = l
  | [], _ => rfl
  | k :: l, i => by simp [num, num_snd l (i + 1)]
theorem num_len (l : List Nat) (i : Nat) : (num i l).length = l.length := by
  have := congrArg List.length (num_snd l i)
  simpa using this
theorem num_get : ∀ (l : List Nat) (i j : Nat) (h : j < l.length), (num i l)[j]? = some (((i + j : Nat) : Int), l[j])
  | [], _, _, h => absurd h (by simp)
  | k :: l, i, 0, _ => by simp [num]
  | k :: l, i, j + 1, h => by
    have := num_get l (i + 1) j (by simpa using h)
    simp only [num, List.getElem?_cons_succ, List.getElem_cons_succ, this]
    congr 3
    omega
theorem num_mem {l : List Nat} {i : Nat} {p : Int × Nat} (h : p ∈ num i l) : p.2 ∈ l ∧ (i : Int) ≤ p.1 ∧ p.1 < i + l.length := by
  obtain ⟨j, hj, e⟩ := List.getElem_of_mem h
  have hj2 : j < l.length := by rwa [num_len] at hj
  have := num_get l i j hj2
  rw [List.getElem?_eq_getElem hj, e] at this
  injection this with this
  subst this
  exact ⟨List.getElem_mem hj2, by simp only; omega, by simp only; omega⟩
/-- the keys of c, numbered -/
def nk (c : CalZ) : List (Int × Nat) := num 1 (kys c)
theorem kys_len (c : CalZ) : (kys c).length = 3 + (if c.k = 1 ∨ c.k = 2 ∨ c.k = 6 then 1 else 0) + (if c.k = 1 ∨ c.k = 2 ∨ c.k = 5 then 2 else 0) := by
  unfold kys
  split <;> split <;> simp
theorem nk_len (c : CalZ) : (nk c).length = (kys c).length := num_len _ _
theorem kys_bd (c : CalZ) : 3 ≤ (kys c).length ∧ (kys c).length ≤ 6 := by
  rw [kys_len]
  split <;> split <;> omega
theorem nk_mem {c : CalZ} {p : Int × Nat} (h : p ∈ nk c) : p.2 ∈ kys c ∧ 1 ≤ p.1 ∧ p.1 ≤ 6 := by
  obtain ⟨h1, h2, h3⟩ := num_mem h
  have := kys_bd c
  exact ⟨h1, by omega, by omega⟩
theorem nk_all {c : CalZ} : ∀ key ∈ kys c, ∃ p ∈ nk c, p.2 = key := by
  intro key hk
  rw [← num_snd (kys c) 1] at hk
  obtain ⟨p, hp, e⟩ := List.mem_map.1 hk
  exact ⟨p, hp, e⟩
theorem nk_nodup (c : CalZ) : ((nk c).map (·.2)).Nodup := by
  unfold nk
  rw [num_snd]
  exact kys_nodup c
theorem kids_chk {c : CalZ} (h : CalOk c) {L : List (Int × Nat)} (hs : ∀ p ∈ L, p.2 ∈ kys c) : ∀ n ∈ L.map (kyA c), chkN 1 n = 0 := by
  intro n hn
  obtain ⟨p, hp, rfl⟩ := List.mem_map.1 hn
  exact chk_key h (hs p hp)
/-- the numbered block itself -/
theorem nk_read {c : CalZ} (h : CalOk c) (a : Int) : readF (.mk calN a [wd c.nm] true ((nk c).map (kyA c))) = (c, 0, 0) := by
  rw [readF_block h.2.1 (kids_chk h (fun p hp => (nk_mem hp).1))]
  exact block_full h (fun p hp => (nk_mem hp).1) (nk_nodup c) nk_all a

/-! ## turned -/
theorem nodup_inj {l : List Nat} (h : l.Nodup) {i j : Nat} (hi : i < l.length) (hj : j < l.length) (e : l[i] = l[j]) : i = j := by
  have p := List.pairwise_iff_getElem.1 h
  rcases Nat.lt_trichotomy i j with g | g | g
  · exact absurd e (p i j hi hj g)
  · exact g
  · exact absurd e.symm (p j i hj hi g)
/-- where the keys come from: from one on, around, and the other way round -/
def sg (k m i : Nat) : Nat := (k + m - i) % m
theorem sg_lt {k m i : Nat} (hm : 0 < m) : sg k m i < m := Nat.mod_lt _ hm
theorem sg_inj {k m i j : Nat} (h3 : 3 ≤ m) (h6 : m ≤ 6) (hk : k < m) (hi : i < m) (hj : j < m) (e : sg k m i = sg k m j) : i = j := by
  unfold sg at e
  have : m = 3 ∨ m = 4 ∨ m = 5 ∨ m = 6 := by omega
  rcases this with rfl | rfl | rfl | rfl <;> omega
theorem sg_on {k m t : Nat} (h3 : 3 ≤ m) (h6 : m ≤ 6) (hk : k < m) (ht : t < m) : ∃ i, i < m ∧ sg k m i = t := by
  refine ⟨(k + m - t) % m, Nat.mod_lt _ (by omega), ?_⟩
  unfold sg
  have : m = 3 ∨ m = 4 ∨ m = 5 ∨ m = 6 := by omega
  rcases this with rfl | rfl | rfl | rfl <;> omega
def trn (c : CalZ) (k n : Nat) : List (Int × Nat) := (List.range n).map (fun i => (nk c).getD (sg k (kys c).length i) (0, 0))
theorem nk_getD {c : CalZ} {j : Nat} (hj : j < (kys c).length) : (nk c).getD j (0, 0) = (((1 + j : Nat) : Int), (kys c)[j]) := by
  have := num_get (kys c) 1 j hj
  simp [List.getD, nk, this]
theorem order_read {c : CalZ} (h : CalOk c) {k : Nat} (hk : k < (kys c).length) (a : Int) : readF (.mk calN a [wd c.nm] true ((trn c k (kys c).length).map (kyA c))) = (c, 0, 0) := by
  have hb := kys_bd c
  have hs : ∀ p ∈ trn c k (kys c).length, p.2 ∈ kys c := by
    intro p hp
    obtain ⟨i, hi, rfl⟩ := List.mem_map.1 hp
    rw [nk_getD (sg_lt (by omega))]
    exact List.getElem_mem _
  rw [readF_block h.2.1 (kids_chk h hs)]
  refine block_full h hs ?_ ?_ a
  · unfold trn List.Nodup
    rw [List.map_map, List.pairwise_map]
    refine List.Pairwise.imp_of_mem ?_ List.pairwise_lt_range
    intro i j hi hj hlt e
    have hi := List.mem_range.1 hi
    have hj := List.mem_range.1 hj
    simp only [Function.comp] at e
    rw [nk_getD (sg_lt (by omega)), nk_getD (sg_lt (by omega))] at e
    have := sg_inj hb.1 hb.2 hk hi hj (nodup_inj (kys_nodup c) _ _ e)
    omega
  · intro key hkey
    obtain ⟨t, ht, e⟩ := List.getElem_of_mem hkey
    obtain ⟨i, hi, e2⟩ := sg_on hb.1 hb.2 hk ht
    refine ⟨_, List.mem_map.2 ⟨i, List.mem_range.2 hi, rfl⟩, ?_⟩
    rw [nk_getD (sg_lt (by omega))]
    simp only [e2, e]

/-! ## left out, put in -/
theorem nk_split {c : CalZ} {k : Nat} (hk : k < (kys c).length) : nk c = (nk c).take k ++ (((1 + k : Nat) : Int), (kys c)[k]) :: (nk c).drop (k + 1) := by
  have e : (nk c)[k]? = some (((1 + k : Nat) : Int), (kys c)[k]) := num_get (kys c) 1 k hk
  have hl : k < (nk c).length := by rw [nk_len]; exact hk
  rw [List.getElem?_eq_getElem hl] at e
  injection e with e
  rw [← e, ← List.drop_eq_getElem_cons hl, List.take_append_drop]
theorem parts {c : CalZ} {k : Nat} (hk : k < (kys c).length) : (∀ p ∈ (nk c).take k ++ (nk c).drop (k + 1), p.2 ∈ kys c ∧ p.2 ≠ (kys c)[k]) ∧ (((nk c).take k ++ (nk c).drop (k + 1)).map (·.2)).Nodup ∧ (∀ key ∈ kys c, key ≠ (kys c)[k] → ∃ p ∈ (nk c).take k ++ (nk c).drop (k + 1), p.2 = key) := by
  have hd := nk_nodup c
  have e := nk_split hk
  rw [e, List.map_append, List.map_cons, List.nodup_append] at hd
  obtain ⟨d1, d2, d3⟩ := hd
  rw [List.nodup_cons] at d2
  refine ⟨fun p hp => ?_, ?_, fun key h1 h2 => ?_⟩
  · have hm : p ∈ nk c := by
      rcases List.mem_append.1 hp with q | q
      · exact List.mem_of_mem_take q
      · exact List.mem_of_mem_drop q
    refine ⟨(nk_mem hm).1, fun g => ?_⟩
    rcases List.mem_append.1 hp with q | q
    · exact d3 _ (List.mem_map.2 ⟨p, q, rfl⟩) _ (List.mem_cons_self ..) g
    · exact d2.1 (List.mem_map.2 ⟨p, q, g⟩)
  · rw [List.map_append, List.nodup_append]
    exact ⟨d1, d2.2, fun a ha b hb => d3 a ha b (List.mem_cons_of_mem _ hb)⟩
  · obtain ⟨p, hp, g⟩ := nk_all key h1
    rw [e] at hp
    rcases List.mem_append.1 hp with q | q
    · exact ⟨p, List.mem_append.2 (.inl q), g⟩
    · rcases List.mem_cons.1 q with q | q
      · rw [q] at g
        exact absurd g.symm h2
      · exact ⟨p, List.mem_append.2 (.inr q), g⟩
theorem miss_read {c : CalZ} (h : CalOk c) {k : Nat} (hk : k < (kys c).length) (a : Int) : readF (.mk calN a [wd c.nm] true (((nk c).take k ++ (nk c).drop (k + 1)).map (kyA c))) = (zeroC, a, 10) := by
  obtain ⟨h1, h2, h3⟩ := parts hk
  rw [readF_block h.2.1 (kids_chk h (fun p hp => (h1 p hp).1))]
  exact block_miss h (List.getElem_mem hk) h1 h2 h3 a
theorem twice_read {c : CalZ} (h : CalOk c) {p : Int × Nat} (hp : p.2 ∈ kys c) (a : Int) : readF (.mk calN a [wd c.nm] true ((nk c).map (kyA c) ++ [kyA c p])) = (zeroC, p.1, 9) := by
  rw [readF_block h.2.1 (fun n hn => ?_)]
  · exact block_twice h (fun p hp => (nk_mem hp).1) (nk_nodup c) (nk_all p.2 hp) a
  · rcases List.mem_append.1 hn with q | q
    · exact kids_chk h (fun p hp => (nk_mem hp).1) n q
    · have q : n = kyA c p := by simpa using q
      subst q
      exact chk_key h hp
theorem name_read {c : CalZ} (h : CalOk c) {nm : ByteArray} (hn : Zm.name nm.data.toList = true) (hk : idx keyN nm = 0) (b a : Int) : readF (.mk calN a [wd c.nm] true (.mk nm b [] false [] :: (nk c).map (kyA c))) = (zeroC, b, 8) := by
  rw [readF_block h.2.1 (fun n hn' => ?_)]
  · exact block_name hk _ a _
  · rcases List.mem_cons.1 hn' with rfl | q
    · exact chk_name hn b
    · exact kids_chk h (fun p hp => (nk_mem hp).1) n q
theorem form_read {c : CalZ} (h : CalOk c) {k : Nat} (hk : k < (kys c).length) (a : Int) :
    readF (.mk calN a [wd c.nm] true (((nk c).take k).map (kyA c) ++ .mk (nth keyN (kys c)[k]) ((1 + k : Nat) : Int) (wds c (kys c)[k]) true [] :: ((nk c).drop (k + 1)).map (kyA c))) = (zeroC, ((1 + k : Nat) : Int), 5) := by
  obtain ⟨h1, h2, h3⟩ := parts hk
  have hp : (kys c)[k] ∈ kys c := List.getElem_mem hk
  rw [readF_block h.2.1 (fun n hn => ?_)]
  · rw [List.map_append, List.nodup_append] at h2
    exact block_form h (fun p hp => (h1 p (List.mem_append.2 (.inl hp))).1) h2.1 (p := (((1 + k : Nat) : Int), (kys c)[k])) hp (fun q hq => (h1 q (List.mem_append.2 (.inl hq))).2) _ _ a
  · rcases List.mem_append.1 hn with q | q
    · exact kids_chk h (fun p hp => (h1 p (List.mem_append.2 (.inl hp))).1) n q
    · rcases List.mem_cons.1 q with rfl | q
      · exact chk_open h (p := (((1 + k : Nat) : Int), (kys c)[k])) hp
      · exact kids_chk h (fun p hp => (h1 p (List.mem_append.2 (.inr hp))).1) n q

/-! ## exchanged -/
theorem ck_or {c : CalZ} {k : Int} : ∀ (L : List (Int × Nat)) (met : List Nat), (∀ p ∈ L, p.2 ∈ kys c) → (∀ q ∈ met, q ∈ kys c) → (∃ p ∈ L, ckKs k (L.map (kyA c)) met = .error (p.1, 8)) ∨ ckKs k (L.map (kyA c)) met = .ok (rev L met)
  | [], met, _, _ => .inr rfl
  | p :: L, met, hs, hm => by
    have hp := hs p (by simp)
    by_cases hst : stands k p.2 = true
    · have e := ck_many (c := c) (k := k) [p] (L.map (kyA c)) met (fun q hq => by rw [List.mem_singleton.1 hq]; exact hp) (fun q hq => by rw [List.mem_singleton.1 hq]; exact hst) hm
      have e : ckKs k ((p :: L).map (kyA c)) met = ckKs k (L.map (kyA c)) (p.2 :: met) := e
      rw [e]
      rcases ck_or L (p.2 :: met) (fun q hq => hs q (by simp [hq])) (fun q hq => by
        rcases List.mem_cons.1 hq with rfl | hq
        · exact hp
        · exact hm q hq) with ⟨q, h1, h2⟩ | h
      · exact .inl ⟨q, by simp [h1], h2⟩
      · exact .inr (by rw [h]; simp [rev])
    · refine .inl ⟨p, by simp, ?_⟩
      obtain ⟨h1, h7, -⟩ := mem_kys hp
      have hi := idx_key p.2 h1 h7
      simp only [List.map_cons, kyA, ckKs, hi]
      rw [if_pos (by simpa using hst)]
theorem miss_not {k : Int} {met : List Nat} (h : missing k met = false) {key : Nat} (h1 : 1 ≤ key) (h7 : key ≤ 7) (hs : stands k key = true) : key ∈ met ∨ instead key ∈ met := by
  unfold missing at h
  rw [List.any_eq_false] at h
  have := h key (by simp; omega)
  simp only [lacks, hs, Bool.true_and, Bool.and_eq_true, Bool.not_eq_true', not_and, Bool.not_eq_false] at this
  by_cases q : key ∈ met
  · exact .inl q
  · exact .inr (by simpa using this (by simpa using q))
theorem ends_read {c d : CalZ} (hc : CalOk c) (hd : CalOk d) (got : CalZ) (x : Int) (e : Nat) (hr : readF (.mk calN 100 [wd c.nm] true (kyA d (1, 1) :: (nk c).tail.map (kyA c))) = (got, x, e)) :
    (e = 0 → x = 0 ∧ got.k = d.k ∧ got.d = d.d ∧ got.m = d.m ∧ got.fi = c.fi ∧ got.po = c.po ∧ got.nm = c.nm ∧ (kys d).length ≤ (kys c).length) ∧ (e ≠ 0 → got = zeroC ∧ ((e = 8 ∧ 2 ≤ x ∧ x ≤ 6) ∨ ((e = 10 ∨ e = 1) ∧ x = 100))) := by
  have k1 : kys c = 1 :: (kys c).tail := rfl
  have hnk : (nk c).tail = num 2 (kys c).tail := rfl
  have hdn := kys_nodup c
  rw [k1, List.nodup_cons] at hdn
  have ht : ∀ p ∈ (nk c).tail, p.2 ∈ kys c ∧ p.2 ≠ 1 ∧ 2 ≤ p.1 ∧ p.1 ≤ 6 := by
    intro p hp
    rw [hnk] at hp
    obtain ⟨q1, q2, q3⟩ := num_mem hp
    have hb := kys_bd c
    have hl : (kys c).tail.length + 1 = (kys c).length := by rw [k1]; simp
    exact ⟨List.mem_of_mem_tail q1, fun g => hdn.1 (g ▸ q1), by omega, by omega⟩
  have h1d : 1 ∈ kys d := by simp [kys]
  rw [readF_block hc.2.1 (fun n hn => by
    rcases List.mem_cons.1 hn with rfl | q
    · exact chk_key hd (p := (1, 1)) h1d
    · exact kids_chk hc (fun p hp => (ht p hp).1) n q)] at hr
  obtain ⟨y1, r1, u1⟩ := rd_one hd h1d { zeroC with nm := c.nm }
  obtain ⟨y, r2, u2⟩ := rd_many hc (nk c).tail [] [1] y1 (fun p hp => (ht p hp).1) (by rw [hnk, num_snd]; exact hdn.2) (fun p hp => by simp [(ht p hp).2.1])
  rw [List.append_nil] at r2
  have hi1 := idx_key 1 (by decide) (by decide)
  have hrd : rdKs (kyA d (1, 1) :: (nk c).tail.map (kyA c)) [] { zeroC with nm := c.nm } = .ok y := by
    simp only [kyA, rdKs]
    rw [show idx keyN (nth keyN ((1 : Nat) : Int)) = 1 from hi1, if_neg (by decide), if_neg (by simp), if_neg (by decide), r1]
    simp only
    exact r2
  -- what stands in y
  have low : ∀ i, i ≤ 2 → mks c (nk c).tail i = false := fun i hi => by
    unfold mks
    rw [List.any_eq_false]
    intro p hp
    have q := ht p hp
    have m := mem_kys q.1
    have h7 : p.2 = 2 ∨ p.2 = 3 ∨ p.2 = 4 ∨ p.2 = 5 ∨ p.2 = 6 ∨ p.2 = 7 := by omega
    rcases h7 with e | e | e | e | e | e <;> rw [e] <;> simp [msk] <;> omega
  have there : ∀ key, key ∈ kys c → key ≠ 1 → ∃ p ∈ (nk c).tail, p.2 = key := fun key h1 h2 => by
    obtain ⟨p, hp, g⟩ := nk_all key h1
    have hcons : nk c = (1, 1) :: (nk c).tail := rfl
    rw [hcons] at hp
    rcases List.mem_cons.1 hp with q | q
    · rw [q] at g; exact absurd g.symm h2
    · exact ⟨p, q, g⟩
  have k6 : 6 ∈ kys c := kys_mem (by decide) (by decide) (by omega) (by omega) (by omega) (by omega)
  have k7 : 7 ∈ kys c := kys_mem (by decide) (by decide) (by omega) (by omega) (by omega) (by omega)
  have yk : y.k = d.k := by
    have a := u2.2 0 (by decide)
    have b := u1.2 0 (by decide)
    rw [low 0 (by decide), if_neg (by decide)] at a
    rw [if_pos (by simp [msk])] at b
    exact a.trans b
  have yd : y.d = d.d := by
    have a := u2.2 1 (by decide)
    have b := u1.2 1 (by decide)
    rw [low 1 (by decide), if_neg (by decide)] at a
    rw [if_pos (by simp [msk])] at b
    exact a.trans b
  have ym : y.m = d.m := by
    have a := u2.2 2 (by decide)
    have b := u1.2 2 (by decide)
    rw [low 2 (by decide), if_neg (by decide)] at a
    rw [if_pos (by simp [msk])] at b
    exact a.trans b
  have yf : y.fi = c.fi := by
    have a := u2.2 10 (by decide)
    obtain ⟨p, hp, g⟩ := there 6 k6 (by decide)
    rw [if_pos (by unfold mks; rw [List.any_eq_true]; exact ⟨p, hp, by rw [g]; simp [msk]⟩)] at a
    exact a
  have yp : y.po = c.po := by
    have a := u2.2 12 (by decide)
    obtain ⟨p, hp, g⟩ := there 7 k7 (by decide)
    rw [if_pos (by unfold mks; rw [List.any_eq_true]; exact ⟨p, hp, by rw [g]; simp [msk]⟩)] at a
    exact a
  have yn : y.nm = c.nm := u2.1.trans u1.1
  have hdk := kind_bd hd.1
  unfold rdBlock at hr
  rw [hrd] at hr
  simp only at hr
  rw [if_neg (by omega), yk] at hr
  have hck : ckKs d.k (kyA d (1, 1) :: (nk c).tail.map (kyA c)) [] = ckKs d.k ((nk c).tail.map (kyA c)) [1] := by
    simp only [kyA, ckKs]
    rw [show idx keyN (nth keyN ((1 : Nat) : Int)) = 1 from hi1, if_neg (by simp [stands]), if_neg (by simp [instead])]
  rw [hck] at hr
  rcases ck_or (c := c) (k := d.k) (nk c).tail [1] (fun p hp => (ht p hp).1) (fun q hq => by rw [List.mem_singleton.1 hq]; simp [kys]) with ⟨p, hp, g⟩ | g
  · rw [g] at hr
    simp only [Prod.mk.injEq] at hr
    obtain ⟨r1, r2, r3⟩ := hr
    have q := ht p hp
    exact ⟨fun h => by omega, fun _ => ⟨r1.symm, .inl ⟨r3.symm, by omega, by omega⟩⟩⟩
  · rw [g] at hr
    simp only at hr
    by_cases hmi : missing d.k (rev (nk c).tail [1]) = true
    · rw [if_pos hmi] at hr
      simp only [Prod.mk.injEq] at hr
      obtain ⟨r1, r2, r3⟩ := hr
      exact ⟨fun h => by omega, fun _ => ⟨r1.symm, .inr ⟨.inl r3.symm, r2.symm⟩⟩⟩
    · rw [if_neg hmi] at hr
      by_cases hok : CalOk y
      · rw [if_pos hok] at hr
        simp only [Prod.mk.injEq] at hr
        obtain ⟨r1, r2, r3⟩ := hr
        subst r1
        refine ⟨fun _ => ⟨r2.symm, yk, yd, ym, yf, yp, yn, ?_⟩, fun h => absurd r3.symm h⟩
        have hmi : missing d.k (rev (nk c).tail [1]) = false := by simpa using hmi
        have inm : ∀ key, key ∈ rev (nk c).tail [1] → key ∈ kys c := fun key hk => by
          rcases mem_rev.1 hk with ⟨p, hp, rfl⟩ | hk
          · exact (ht p hp).1
          · rw [List.mem_singleton.1 hk]; simp [kys]
        have z0 : 0 ∉ rev (nk c).tail [1] := fun q => by have := mem_kys (inm 0 q); omega
        have m2 : (d.k = 1 ∨ d.k = 2 ∨ d.k = 6) → (c.k = 1 ∨ c.k = 2 ∨ c.k = 6) := fun q => by
          rcases miss_not hmi (key := 2) (by decide) (by decide) (by simpa [stands] using q) with g | g
          · exact (mem_kys (inm 2 g)).2.2.1 rfl
          · exact absurd g z0
        have m5 : (d.k = 1 ∨ d.k = 2 ∨ d.k = 5) → (c.k = 1 ∨ c.k = 2 ∨ c.k = 5) := fun q => by
          rcases miss_not hmi (key := 5) (by decide) (by decide) (by simpa [stands] using q) with g | g
          · exact (mem_kys (inm 5 g)).2.2.2.1 (by omega)
          · exact absurd g z0
        rw [kys_len, kys_len]
        by_cases q2 : d.k = 1 ∨ d.k = 2 ∨ d.k = 6 <;> by_cases q5 : d.k = 1 ∨ d.k = 2 ∨ d.k = 5 <;> simp only [q2, q5, m2, m5, if_true, if_false] <;> (repeat' split) <;> omega
      · rw [if_neg hok] at hr
        simp only [Prod.mk.injEq] at hr
        obtain ⟨r1, r2, r3⟩ := hr
        exact ⟨fun h => by omega, fun _ => ⟨r1.symm, .inr ⟨.inr r3.symm, r2.symm⟩⟩⟩

end Go.Proofs.YtnjmokmlnpehdaaGreatDoor.Fm
