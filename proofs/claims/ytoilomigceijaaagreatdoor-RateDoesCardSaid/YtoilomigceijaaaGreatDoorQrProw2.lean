/- A slice of numbers that grows; nothing of the program. -/
import Derived.Test.YtoilomigceijaaaGreatDoorQrJD
set_option linter.unusedSimpArgs false
set_option linter.unusedVariables false
namespace Go.Proofs.YtoilomigceijaaaGreatDoor.Rk
open Go.RowKit

structure One1 (EL:TypeId) (w W:World) (v:Value) (k:Nat) (f:Nat→Int):Prop where
 below:Below w.heap.size w W
 a:W.ownsRow w.heap.size EL 1 v k (lst f k)
section
variable {EL:TypeId} {w W w1:World} {v:Value} {k:Nat} {f:Nat→Int}
theorem One1.start (EL:TypeId)(f:Nat→Int)(h:Below w.heap.size w W):One1 EL w W (.slice none 0 0) 0 f:=⟨h,World.ownsRow_nil _ _ _ _⟩
theorem One1.kept (x:One1 EL w W v k f)(hb:Below W.heap.size W w1):One1 EL w w1 v k f:=⟨Pr.bthen x.below hb,own_below x.a hb⟩
theorem One1.alloc (x:One1 EL w W v k f)(o:Obj):One1 EL w (W.alloc o) v k f:=x.kept ((Below.refl _ _).alloc (Nat.le_refl _) o)
theorem One1.next {W2:World}{o1:Obj}{v':Value}(X:One1 EL w W v k f)
  (h1:W2.ownsRow w.heap.size EL 1 v' (k+1) (lst f k++[.int .i64 (f k)])) (r1:(W.alloc o1).grownBy W2 v.ownBlock):One1 EL w W2 v' (k+1) f :=
 ⟨below_grown (Pr.balloc X.below o1) r1 (fun x e=>(row_lt X.a e).1) (Nat.le_refl _),by rw [lst_succ];exact h1⟩
theorem One1.out (X:One1 EL w W v k f)(hn:0<k):∃ g cap,v= .slice (some ⟨g,0,none⟩) k cap∧Row W g k f∧w.heap.size≤g∧k≤cap:=by
 obtain ⟨g,cap,rfl,h2,_⟩:=X.a.form hn
 exact ⟨g,cap,rfl,Row.of_owns X.a hn,h2,own_cap X.a⟩
end

end Go.Proofs.YtoilomigceijaaaGreatDoor.Rk

