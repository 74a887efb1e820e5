/- What tell of package field comes to. -/
import Derived.Test.YtaiodjgpojfekaaDoorFcode2
import Derived.Test.YtaiodjgpojfekaaDoorJK
import Derived.BigRegion
namespace Go.Proofs.YtaiodjgpojfekaaDoor.Fp
set_option linter.unusedSimpArgs false
set_option linter.unusedVariables false
open Go.RowKit Go.Proofs.YtaiodjgpojfekaaDoor.Bn Go.Proofs.YtaiodjgpojfekaaDoor.Cp Go.Proofs.YtaiodjgpojfekaaDoor.Am Go.Proofs.YtaiodjgpojfekaaDoor.Fs

set_option maxHeartbeats 1000000

theorem tell_drew {W : World} {b : Nat} {vs : List Value} (p : Box W b vs) : Box W.drew b vs := ⟨p.lt, p.cell, p.frz⟩

/-- what the end says by itself is put into the calendar at block b -/
def TellPost (b : Nat) (c : CalZ) (w : World) (e : Ending) (w' : World) : Prop := e = .returned (.tuple #[]) ∧ Below b w w' ∧ Box w' b (calL c)

set_option maxRecDepth 100000 in
theorem tell_tttt (x c : CalZ) (b : Nat) (w : World) (L : Box w b (calL c)) :
    Calls Tryd.prog 61 #[.agg #[.string x.nm, .int .i64 x.k, .int .i64 x.d, .int .i64 x.m, .int .i64 x.s, .int .i64 x.sh, .int .i64 x.p0, .int .i64 x.p1, .int .i64 x.p2, .int .i64 x.cy, .int .i64 x.ex, .int .i64 x.fi, .int .i64 x.la, .int .i64 x.po, .bool true, .bool true, .bool true, .bool true], .pointer (some ⟨b, 0, none⟩)] w (TellPost b ⟨c.nm, x.k, c.d, c.m, c.s, c.sh, c.p0, c.p1, c.p2, c.cy, c.ex, c.fi, c.la, c.po⟩ w) := by
  have hlt := L.lt
  have P := Box.new w #[.string x.nm, .int .i64 x.k, .int .i64 x.d, .int .i64 x.m, .int .i64 x.s, .int .i64 x.sh, .int .i64 x.p0, .int .i64 x.p1, .int .i64 x.p2, .int .i64 x.cy, .int .i64 x.ex, .int .i64 x.fi, .int .i64 x.la, .int .i64 x.po, .bool true, .bool true, .bool true, .bool true] 59
  replace L := L.alloc (.cells #[.string x.nm, .int .i64 x.k, .int .i64 x.d, .int .i64 x.m, .int .i64 x.s, .int .i64 x.sh, .int .i64 x.p0, .int .i64 x.p1, .int .i64 x.p2, .int .i64 x.cy, .int .i64 x.ex, .int .i64 x.fi, .int .i64 x.la, .int .i64 x.po, .bool true, .bool true, .bool true, .bool true] 59)
  have B : Below b w (w.alloc (.cells #[.string x.nm, .int .i64 x.k, .int .i64 x.d, .int .i64 x.m, .int .i64 x.s, .int .i64 x.sh, .int .i64 x.p0, .int .i64 x.p1, .int .i64 x.p2, .int .i64 x.cy, .int .i64 x.ex, .int .i64 x.fi, .int .i64 x.la, .int .i64 x.po, .bool true, .bool true, .bool true, .bool true] 59)) := (Below.refl _ w).alloc (by omega) _
  have hne : ¬ b = w.heap.size := by omega
  have hne2 : ¬ w.heap.size = b := by omega
  obtain ⟨W, hW⟩ : ∃ W, w.alloc (.cells #[.string x.nm, .int .i64 x.k, .int .i64 x.d, .int .i64 x.m, .int .i64 x.s, .int .i64 x.sh, .int .i64 x.p0, .int .i64 x.p1, .int .i64 x.p2, .int .i64 x.cy, .int .i64 x.ex, .int .i64 x.fi, .int .i64 x.la, .int .i64 x.po, .bool true, .bool true, .bool true, .bool true] 59) = W := ⟨_, rfl⟩
  rw [hW] at P L B
  have p0 := P.cell 0 _ rfl
  have p1 := P.cell 1 _ rfl
  have p2 := P.cell 2 _ rfl
  have p3 := P.cell 3 _ rfl
  have p4 := P.cell 4 _ rfl
  have p5 := P.cell 5 _ rfl
  have p6 := P.cell 6 _ rfl
  have p7 := P.cell 7 _ rfl
  have p8 := P.cell 8 _ rfl
  have p9 := P.cell 9 _ rfl
  have p10 := P.cell 10 _ rfl
  have p11 := P.cell 11 _ rfl
  have p12 := P.cell 12 _ rfl
  have p13 := P.cell 13 _ rfl
  have p14 := P.cell 14 _ rfl
  have p15 := P.cell 15 _ rfl
  have p16 := P.cell 16 _ rfl
  have p17 := P.cell 17 _ rfl
  have l1 := L.cell 1 _ rfl
  have f1 := L.frz 1 (by simp [calL])
  go_enter Tryd.func61, Tryd.ntmps61
  go_wp2
  exact bodyPost_end (v := .tuple #[]) (by simp [results, Tryd.results61, go_sem]) rfl ⟨rfl, (B.setCell (p := ⟨b, 1, none⟩) (Nat.le_refl _) _), (L.set 1 (by simp [calL]) _)⟩

set_option maxRecDepth 100000 in
theorem tell_ffft (x c : CalZ) (b : Nat) (w : World) (L : Box w b (calL c)) :
    Calls Tryd.prog 61 #[.agg #[.string x.nm, .int .i64 x.k, .int .i64 x.d, .int .i64 x.m, .int .i64 x.s, .int .i64 x.sh, .int .i64 x.p0, .int .i64 x.p1, .int .i64 x.p2, .int .i64 x.cy, .int .i64 x.ex, .int .i64 x.fi, .int .i64 x.la, .int .i64 x.po, .bool false, .bool false, .bool false, .bool true], .pointer (some ⟨b, 0, none⟩)] w (TellPost b ⟨c.nm, x.k, x.d, x.m, x.s, c.sh, c.p0, c.p1, c.p2, c.cy, c.ex, c.fi, c.la, c.po⟩ w) := by
  have hlt := L.lt
  have P := Box.new w #[.string x.nm, .int .i64 x.k, .int .i64 x.d, .int .i64 x.m, .int .i64 x.s, .int .i64 x.sh, .int .i64 x.p0, .int .i64 x.p1, .int .i64 x.p2, .int .i64 x.cy, .int .i64 x.ex, .int .i64 x.fi, .int .i64 x.la, .int .i64 x.po, .bool false, .bool false, .bool false, .bool true] 59
  replace L := L.alloc (.cells #[.string x.nm, .int .i64 x.k, .int .i64 x.d, .int .i64 x.m, .int .i64 x.s, .int .i64 x.sh, .int .i64 x.p0, .int .i64 x.p1, .int .i64 x.p2, .int .i64 x.cy, .int .i64 x.ex, .int .i64 x.fi, .int .i64 x.la, .int .i64 x.po, .bool false, .bool false, .bool false, .bool true] 59)
  have B : Below b w (w.alloc (.cells #[.string x.nm, .int .i64 x.k, .int .i64 x.d, .int .i64 x.m, .int .i64 x.s, .int .i64 x.sh, .int .i64 x.p0, .int .i64 x.p1, .int .i64 x.p2, .int .i64 x.cy, .int .i64 x.ex, .int .i64 x.fi, .int .i64 x.la, .int .i64 x.po, .bool false, .bool false, .bool false, .bool true] 59)) := (Below.refl _ w).alloc (by omega) _
  have hne : ¬ b = w.heap.size := by omega
  have hne2 : ¬ w.heap.size = b := by omega
  obtain ⟨W, hW⟩ : ∃ W, w.alloc (.cells #[.string x.nm, .int .i64 x.k, .int .i64 x.d, .int .i64 x.m, .int .i64 x.s, .int .i64 x.sh, .int .i64 x.p0, .int .i64 x.p1, .int .i64 x.p2, .int .i64 x.cy, .int .i64 x.ex, .int .i64 x.fi, .int .i64 x.la, .int .i64 x.po, .bool false, .bool false, .bool false, .bool true] 59) = W := ⟨_, rfl⟩
  rw [hW] at P L B
  have p0 := P.cell 0 _ rfl
  have p1 := P.cell 1 _ rfl
  have p2 := P.cell 2 _ rfl
  have p3 := P.cell 3 _ rfl
  have p4 := P.cell 4 _ rfl
  have p5 := P.cell 5 _ rfl
  have p6 := P.cell 6 _ rfl
  have p7 := P.cell 7 _ rfl
  have p8 := P.cell 8 _ rfl
  have p9 := P.cell 9 _ rfl
  have p10 := P.cell 10 _ rfl
  have p11 := P.cell 11 _ rfl
  have p12 := P.cell 12 _ rfl
  have p13 := P.cell 13 _ rfl
  have p14 := P.cell 14 _ rfl
  have p15 := P.cell 15 _ rfl
  have p16 := P.cell 16 _ rfl
  have p17 := P.cell 17 _ rfl
  have l1 := L.cell 1 _ rfl
  have f1 := L.frz 1 (by simp [calL])
  have l2 := L.cell 2 _ rfl
  have f2 := L.frz 2 (by simp [calL])
  have l3 := L.cell 3 _ rfl
  have f3 := L.frz 3 (by simp [calL])
  have l4 := L.cell 4 _ rfl
  have f4 := L.frz 4 (by simp [calL])
  go_enter Tryd.func61, Tryd.ntmps61
  go_wp2
  exact bodyPost_end (v := .tuple #[]) (by simp [results, Tryd.results61, go_sem]) rfl ⟨rfl, ((((B.setCell (p := ⟨b, 1, none⟩) (Nat.le_refl _) _).setCell (p := ⟨b, 2, none⟩) (Nat.le_refl _) _).setCell (p := ⟨b, 3, none⟩) (Nat.le_refl _) _).setCell (p := ⟨b, 4, none⟩) (Nat.le_refl _) _), ((((L.set 1 (by simp [calL]) _).set 2 (by simp [calL]) _).set 3 (by simp [calL]) _).set 4 (by simp [calL]) _)⟩

set_option maxRecDepth 100000 in
theorem tell_ffff (x c : CalZ) (b : Nat) (w : World) (L : Box w b (calL c)) :
    Calls Tryd.prog 61 #[.agg #[.string x.nm, .int .i64 x.k, .int .i64 x.d, .int .i64 x.m, .int .i64 x.s, .int .i64 x.sh, .int .i64 x.p0, .int .i64 x.p1, .int .i64 x.p2, .int .i64 x.cy, .int .i64 x.ex, .int .i64 x.fi, .int .i64 x.la, .int .i64 x.po, .bool false, .bool false, .bool false, .bool false], .pointer (some ⟨b, 0, none⟩)] w (TellPost b ⟨c.nm, x.k, x.d, x.m, x.s, x.sh, x.p0, x.p1, x.p2, x.cy, x.ex, c.fi, c.la, c.po⟩ w) := by
  have hlt := L.lt
  have P := Box.new w #[.string x.nm, .int .i64 x.k, .int .i64 x.d, .int .i64 x.m, .int .i64 x.s, .int .i64 x.sh, .int .i64 x.p0, .int .i64 x.p1, .int .i64 x.p2, .int .i64 x.cy, .int .i64 x.ex, .int .i64 x.fi, .int .i64 x.la, .int .i64 x.po, .bool false, .bool false, .bool false, .bool false] 59
  replace L := L.alloc (.cells #[.string x.nm, .int .i64 x.k, .int .i64 x.d, .int .i64 x.m, .int .i64 x.s, .int .i64 x.sh, .int .i64 x.p0, .int .i64 x.p1, .int .i64 x.p2, .int .i64 x.cy, .int .i64 x.ex, .int .i64 x.fi, .int .i64 x.la, .int .i64 x.po, .bool false, .bool false, .bool false, .bool false] 59)
  have B : Below b w (w.alloc (.cells #[.string x.nm, .int .i64 x.k, .int .i64 x.d, .int .i64 x.m, .int .i64 x.s, .int .i64 x.sh, .int .i64 x.p0, .int .i64 x.p1, .int .i64 x.p2, .int .i64 x.cy, .int .i64 x.ex, .int .i64 x.fi, .int .i64 x.la, .int .i64 x.po, .bool false, .bool false, .bool false, .bool false] 59)) := (Below.refl _ w).alloc (by omega) _
  have hne : ¬ b = w.heap.size := by omega
  have hne2 : ¬ w.heap.size = b := by omega
  obtain ⟨W, hW⟩ : ∃ W, w.alloc (.cells #[.string x.nm, .int .i64 x.k, .int .i64 x.d, .int .i64 x.m, .int .i64 x.s, .int .i64 x.sh, .int .i64 x.p0, .int .i64 x.p1, .int .i64 x.p2, .int .i64 x.cy, .int .i64 x.ex, .int .i64 x.fi, .int .i64 x.la, .int .i64 x.po, .bool false, .bool false, .bool false, .bool false] 59) = W := ⟨_, rfl⟩
  rw [hW] at P L B
  have p0 := P.cell 0 _ rfl
  have p1 := P.cell 1 _ rfl
  have p2 := P.cell 2 _ rfl
  have p3 := P.cell 3 _ rfl
  have p4 := P.cell 4 _ rfl
  have p5 := P.cell 5 _ rfl
  have p6 := P.cell 6 _ rfl
  have p7 := P.cell 7 _ rfl
  have p8 := P.cell 8 _ rfl
  have p9 := P.cell 9 _ rfl
  have p10 := P.cell 10 _ rfl
  have p11 := P.cell 11 _ rfl
  have p12 := P.cell 12 _ rfl
  have p13 := P.cell 13 _ rfl
  have p14 := P.cell 14 _ rfl
  have p15 := P.cell 15 _ rfl
  have p16 := P.cell 16 _ rfl
  have p17 := P.cell 17 _ rfl
  have l1 := L.cell 1 _ rfl
  have f1 := L.frz 1 (by simp [calL])
  have l2 := L.cell 2 _ rfl
  have f2 := L.frz 2 (by simp [calL])
  have l3 := L.cell 3 _ rfl
  have f3 := L.frz 3 (by simp [calL])
  have l4 := L.cell 4 _ rfl
  have f4 := L.frz 4 (by simp [calL])
  have l5 := L.cell 5 _ rfl
  have f5 := L.frz 5 (by simp [calL])
  have l6 := L.cell 6 _ rfl
  have f6 := L.frz 6 (by simp [calL])
  have l7 := L.cell 7 _ rfl
  have f7 := L.frz 7 (by simp [calL])
  have l8 := L.cell 8 _ rfl
  have f8 := L.frz 8 (by simp [calL])
  have l9 := L.cell 9 _ rfl
  have f9 := L.frz 9 (by simp [calL])
  have l10 := L.cell 10 _ rfl
  have f10 := L.frz 10 (by simp [calL])
  go_enter Tryd.func61, Tryd.ntmps61
  go_wp2
  replace P := ((((P.other 1 (.int .i64 x.k) hne2).other 2 (.int .i64 x.d) hne2).other 3 (.int .i64 x.m) hne2).other 4 (.int .i64 x.s) hne2)
  replace B := ((((B.setCell (p := ⟨b, 1, none⟩) (Nat.le_refl _) (.int .i64 x.k)).setCell (p := ⟨b, 2, none⟩) (Nat.le_refl _) (.int .i64 x.d)).setCell (p := ⟨b, 3, none⟩) (Nat.le_refl _) (.int .i64 x.m)).setCell (p := ⟨b, 4, none⟩) (Nat.le_refl _) (.int .i64 x.s))
  replace L := ((((L.set 1 (by simp [calL]) (.int .i64 x.k)).set 2 (by simp [calL]) (.int .i64 x.d)).set 3 (by simp [calL]) (.int .i64 x.m)).set 4 (by simp [calL]) (.int .i64 x.s))
  generalize ((((W.setCell ⟨b, 1, none⟩ (.int .i64 x.k)).setCell ⟨b, 2, none⟩ (.int .i64 x.d)).setCell ⟨b, 3, none⟩ (.int .i64 x.m)).setCell ⟨b, 4, none⟩ (.int .i64 x.s)) = V at *
  clear p0 p1 p2 p3 p4 p5 p6 p7 p8 p9 p10 p11 p12 p13 p14 p15 p16 p17 l1 f1 l2 f2 l3 f3 l4 f4 l5 f5 l6 f6 l7 f7 l8 f8 l9 f9 l10 f10 
  have p0 := P.cell 0 _ rfl
  have p1 := P.cell 1 _ rfl
  have p2 := P.cell 2 _ rfl
  have p3 := P.cell 3 _ rfl
  have p4 := P.cell 4 _ rfl
  have p5 := P.cell 5 _ rfl
  have p6 := P.cell 6 _ rfl
  have p7 := P.cell 7 _ rfl
  have p8 := P.cell 8 _ rfl
  have p9 := P.cell 9 _ rfl
  have p10 := P.cell 10 _ rfl
  have p11 := P.cell 11 _ rfl
  have p12 := P.cell 12 _ rfl
  have p13 := P.cell 13 _ rfl
  have p14 := P.cell 14 _ rfl
  have p15 := P.cell 15 _ rfl
  have p16 := P.cell 16 _ rfl
  have p17 := P.cell 17 _ rfl
  have l5 := L.cell 5 _ rfl
  have f5 := L.frz 5 (by simp [calL])
  have l6 := L.cell 6 _ rfl
  have f6 := L.frz 6 (by simp [calL])
  have l7 := L.cell 7 _ rfl
  have f7 := L.frz 7 (by simp [calL])
  have l8 := L.cell 8 _ rfl
  have f8 := L.frz 8 (by simp [calL])
  have l9 := L.cell 9 _ rfl
  have f9 := L.frz 9 (by simp [calL])
  have l10 := L.cell 10 _ rfl
  have f10 := L.frz 10 (by simp [calL])
  go_region
  exact bodyPost_end (v := .tuple #[]) (by simp [results, Tryd.results61, go_sem]) rfl ⟨rfl, Below.drew ((((((B.setCell (p := ⟨b, 5, none⟩) (Nat.le_refl _) _).setCell (p := ⟨b, 6, none⟩) (Nat.le_refl _) _).setCell (p := ⟨b, 7, none⟩) (Nat.le_refl _) _).setCell (p := ⟨b, 8, none⟩) (Nat.le_refl _) _).setCell (p := ⟨b, 9, none⟩) (Nat.le_refl _) _).setCell (p := ⟨b, 10, none⟩) (Nat.le_refl _) _), tell_drew ((((((L.set 5 (by simp [calL]) _).set 6 (by simp [calL]) _).set 7 (by simp [calL]) _).set 8 (by simp [calL]) _).set 9 (by simp [calL]) _).set 10 (by simp [calL]) _)⟩

set_option maxRecDepth 100000 in
theorem tell_fttf (x c : CalZ) (b : Nat) (w : World) (L : Box w b (calL c)) :
    Calls Tryd.prog 61 #[.agg #[.string x.nm, .int .i64 x.k, .int .i64 x.d, .int .i64 x.m, .int .i64 x.s, .int .i64 x.sh, .int .i64 x.p0, .int .i64 x.p1, .int .i64 x.p2, .int .i64 x.cy, .int .i64 x.ex, .int .i64 x.fi, .int .i64 x.la, .int .i64 x.po, .bool false, .bool true, .bool true, .bool false], .pointer (some ⟨b, 0, none⟩)] w (TellPost b ⟨c.nm, x.k, x.d, c.m, c.s, x.sh, x.p0, x.p1, x.p2, x.cy, x.ex, c.fi, c.la, c.po⟩ w) := by
  have hlt := L.lt
  have P := Box.new w #[.string x.nm, .int .i64 x.k, .int .i64 x.d, .int .i64 x.m, .int .i64 x.s, .int .i64 x.sh, .int .i64 x.p0, .int .i64 x.p1, .int .i64 x.p2, .int .i64 x.cy, .int .i64 x.ex, .int .i64 x.fi, .int .i64 x.la, .int .i64 x.po, .bool false, .bool true, .bool true, .bool false] 59
  replace L := L.alloc (.cells #[.string x.nm, .int .i64 x.k, .int .i64 x.d, .int .i64 x.m, .int .i64 x.s, .int .i64 x.sh, .int .i64 x.p0, .int .i64 x.p1, .int .i64 x.p2, .int .i64 x.cy, .int .i64 x.ex, .int .i64 x.fi, .int .i64 x.la, .int .i64 x.po, .bool false, .bool true, .bool true, .bool false] 59)
  have B : Below b w (w.alloc (.cells #[.string x.nm, .int .i64 x.k, .int .i64 x.d, .int .i64 x.m, .int .i64 x.s, .int .i64 x.sh, .int .i64 x.p0, .int .i64 x.p1, .int .i64 x.p2, .int .i64 x.cy, .int .i64 x.ex, .int .i64 x.fi, .int .i64 x.la, .int .i64 x.po, .bool false, .bool true, .bool true, .bool false] 59)) := (Below.refl _ w).alloc (by omega) _
  have hne : ¬ b = w.heap.size := by omega
  have hne2 : ¬ w.heap.size = b := by omega
  obtain ⟨W, hW⟩ : ∃ W, w.alloc (.cells #[.string x.nm, .int .i64 x.k, .int .i64 x.d, .int .i64 x.m, .int .i64 x.s, .int .i64 x.sh, .int .i64 x.p0, .int .i64 x.p1, .int .i64 x.p2, .int .i64 x.cy, .int .i64 x.ex, .int .i64 x.fi, .int .i64 x.la, .int .i64 x.po, .bool false, .bool true, .bool true, .bool false] 59) = W := ⟨_, rfl⟩
  rw [hW] at P L B
  have p0 := P.cell 0 _ rfl
  have p1 := P.cell 1 _ rfl
  have p2 := P.cell 2 _ rfl
  have p3 := P.cell 3 _ rfl
  have p4 := P.cell 4 _ rfl
  have p5 := P.cell 5 _ rfl
  have p6 := P.cell 6 _ rfl
  have p7 := P.cell 7 _ rfl
  have p8 := P.cell 8 _ rfl
  have p9 := P.cell 9 _ rfl
  have p10 := P.cell 10 _ rfl
  have p11 := P.cell 11 _ rfl
  have p12 := P.cell 12 _ rfl
  have p13 := P.cell 13 _ rfl
  have p14 := P.cell 14 _ rfl
  have p15 := P.cell 15 _ rfl
  have p16 := P.cell 16 _ rfl
  have p17 := P.cell 17 _ rfl
  have l1 := L.cell 1 _ rfl
  have f1 := L.frz 1 (by simp [calL])
  have l2 := L.cell 2 _ rfl
  have f2 := L.frz 2 (by simp [calL])
  have l5 := L.cell 5 _ rfl
  have f5 := L.frz 5 (by simp [calL])
  have l6 := L.cell 6 _ rfl
  have f6 := L.frz 6 (by simp [calL])
  have l7 := L.cell 7 _ rfl
  have f7 := L.frz 7 (by simp [calL])
  have l8 := L.cell 8 _ rfl
  have f8 := L.frz 8 (by simp [calL])
  have l9 := L.cell 9 _ rfl
  have f9 := L.frz 9 (by simp [calL])
  have l10 := L.cell 10 _ rfl
  have f10 := L.frz 10 (by simp [calL])
  go_enter Tryd.func61, Tryd.ntmps61
  go_wp2
  replace P := ((P.other 1 (.int .i64 x.k) hne2).other 2 (.int .i64 x.d) hne2)
  replace B := ((B.setCell (p := ⟨b, 1, none⟩) (Nat.le_refl _) (.int .i64 x.k)).setCell (p := ⟨b, 2, none⟩) (Nat.le_refl _) (.int .i64 x.d))
  replace L := ((L.set 1 (by simp [calL]) (.int .i64 x.k)).set 2 (by simp [calL]) (.int .i64 x.d))
  generalize ((W.setCell ⟨b, 1, none⟩ (.int .i64 x.k)).setCell ⟨b, 2, none⟩ (.int .i64 x.d)) = V at *
  clear p0 p1 p2 p3 p4 p5 p6 p7 p8 p9 p10 p11 p12 p13 p14 p15 p16 p17 l1 f1 l2 f2 l5 f5 l6 f6 l7 f7 l8 f8 l9 f9 l10 f10 
  have p0 := P.cell 0 _ rfl
  have p1 := P.cell 1 _ rfl
  have p2 := P.cell 2 _ rfl
  have p3 := P.cell 3 _ rfl
  have p4 := P.cell 4 _ rfl
  have p5 := P.cell 5 _ rfl
  have p6 := P.cell 6 _ rfl
  have p7 := P.cell 7 _ rfl
  have p8 := P.cell 8 _ rfl
  have p9 := P.cell 9 _ rfl
  have p10 := P.cell 10 _ rfl
  have p11 := P.cell 11 _ rfl
  have p12 := P.cell 12 _ rfl
  have p13 := P.cell 13 _ rfl
  have p14 := P.cell 14 _ rfl
  have p15 := P.cell 15 _ rfl
  have p16 := P.cell 16 _ rfl
  have p17 := P.cell 17 _ rfl
  have l5 := L.cell 5 _ rfl
  have f5 := L.frz 5 (by simp [calL])
  have l6 := L.cell 6 _ rfl
  have f6 := L.frz 6 (by simp [calL])
  have l7 := L.cell 7 _ rfl
  have f7 := L.frz 7 (by simp [calL])
  have l8 := L.cell 8 _ rfl
  have f8 := L.frz 8 (by simp [calL])
  have l9 := L.cell 9 _ rfl
  have f9 := L.frz 9 (by simp [calL])
  have l10 := L.cell 10 _ rfl
  have f10 := L.frz 10 (by simp [calL])
  go_region
  exact bodyPost_end (v := .tuple #[]) (by simp [results, Tryd.results61, go_sem]) rfl ⟨rfl, Below.drew ((((((B.setCell (p := ⟨b, 5, none⟩) (Nat.le_refl _) _).setCell (p := ⟨b, 6, none⟩) (Nat.le_refl _) _).setCell (p := ⟨b, 7, none⟩) (Nat.le_refl _) _).setCell (p := ⟨b, 8, none⟩) (Nat.le_refl _) _).setCell (p := ⟨b, 9, none⟩) (Nat.le_refl _) _).setCell (p := ⟨b, 10, none⟩) (Nat.le_refl _) _), tell_drew ((((((L.set 5 (by simp [calL]) _).set 6 (by simp [calL]) _).set 7 (by simp [calL]) _).set 8 (by simp [calL]) _).set 9 (by simp [calL]) _).set 10 (by simp [calL]) _)⟩

end Go.Proofs.YtaiodjgpojfekaaDoor.Fp
