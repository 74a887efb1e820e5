/- The tables that package field, and civil, keep: what lies in the world. -/
import Derived.Test.YtoilomigceijaaaGreatDoorQrCcode
set_option linter.unusedSimpArgs false
set_option linter.unusedVariables false
namespace Go.Proofs.YtoilomigceijaaaGreatDoor.Fp
open Go.RowKit Cp

def Held (g n:Nat)(W:World):Prop:=∃ a cap,g<W.heap.size∧W.cell? ⟨g,0,none⟩=some (.slice (some a) n cap)
def HeldInts (g n:Nat)(l:List Int)(W:World):Prop :=
 ∃ b o cap,g<W.heap.size∧b<W.heap.size∧W.cell? ⟨g,0,none⟩=some (.slice (some ⟨b,o,none⟩) n cap)∧∀ i v,l[i]?=some v→W.cell? ⟨b,o+i,none⟩=some (.int .i64 v)
theorem Held.kept {g n:Nat}{W w1:World}(p:Held g n W)(hb:Below W.heap.size W w1):Held g n w1:=by
 obtain ⟨a,cap,h,c⟩:=p
 exact ⟨a,cap,Nat.lt_of_lt_of_le h hb.size,(hb.cell (p:=⟨g,0,none⟩) h).trans c⟩
theorem HeldInts.kept {g n:Nat}{l:List Int}{W w1:World}(p:HeldInts g n l W)(hb:Below W.heap.size W w1):HeldInts g n l w1:=by
 obtain ⟨b,o,cap,h,h2,c,q⟩:=p
 exact ⟨b,o,cap,Nat.lt_of_lt_of_le h hb.size,Nat.lt_of_lt_of_le h2 hb.size,(hb.cell (p:=⟨g,0,none⟩) h).trans c,fun i v e=>(hb.cell (p:=⟨b,o+i,none⟩) h2).trans (q i v e)⟩

structure FTab (W:World):Prop where
 civ:Tab W
 day:Held 0 7 W
 mon:Held 1 12 W
 pol:Held 2 4 W
 pat:HeldInts 3 3 [5,4,4,4,5,4,4,4,5] W
 cyc:HeldInts 4 3 [1,2,4] W
theorem FTab.kept {W w1:World}(p:FTab W)(hb:Below W.heap.size W w1):FTab w1 :=
 ⟨p.civ.kept hb,p.day.kept hb,p.mon.kept hb,p.pol.kept hb,p.pat.kept hb,p.cyc.kept hb⟩
theorem FTab.alloc {W:World}(p:FTab W)(o:Obj):FTab (W.alloc o):=p.kept ((Below.refl _ _).alloc (Nat.le_refl _) o)

end Go.Proofs.YtoilomigceijaaaGreatDoor.Fp

