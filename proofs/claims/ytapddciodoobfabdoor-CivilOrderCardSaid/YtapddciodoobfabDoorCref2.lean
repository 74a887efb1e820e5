/- What Day and Of of the reference of layer 5 come to. -/
import Derived.Test.YtapddciodoobfabDoorCref
namespace Go.Proofs.YtapddciodoobfabDoor.Cr
set_option linter.unusedSimpArgs false
set_option linter.unusedVariables false
open Go.RowKit Go.Proofs.YtapddciodoobfabDoor.Bx Go.Proofs.YtapddciodoobfabDoor.Cm

set_option maxHeartbeats 1000000

theorem ret_two {k1 k2 : IntKind} {a b c d : Int} (h1 : a = c) (h2 : b = d) : Ending.returned (.tuple #[.int k1 a, .int k2 b]) = Ending.returned (.tuple #[.int k1 c, .int k2 d]) := by rw [h1, h2]

/-- what stands in the walk of Of: the answer's box, the day's box, and what became of the world -/
structure OfB (w W : World) (t k : Int) : Prop where
  below : Below w.heap.size w W
  a : Tri W w.heap.size (.int .i64 0) (.int .i64 0) (.int .i64 0)
  b : Tri W (w.heap.size + 1) (.int .i64 t) (.int .i64 k) (.int .i64 1)
theorem OfB.start (w : World) : OfB w ((w.alloc (.cells #[.int .i64 0, .int .i64 0, .int .i64 0] 23)).alloc (.cells #[.int .i64 1600, .int .i64 1, .int .i64 1] 23)) 1600 1 :=
  ⟨balloc (balloc (Below.refl _ w) _) _, (Tri.new w _ _ _ _).alloc _, by have := Tri.new (w.alloc (.cells #[.int .i64 0, .int .i64 0, .int .i64 0] 23)) (.int .i64 1600) (.int .i64 1) (.int .i64 1) 23; simpa only [World.size_alloc] using this⟩
theorem OfB.year {w W : World} {t k : Int} (x : OfB w W t k) (u : Int) : OfB w (W.setCell ⟨w.heap.size + 1, 0, none⟩ (.int .i64 u)) u k :=
  ⟨bset x.below (by omega) _ _, x.a.other _ _ (by omega), x.b.set0 _⟩
theorem OfB.month {w W : World} {t k : Int} (x : OfB w W t k) (u : Int) : OfB w (W.setCell ⟨w.heap.size + 1, 1, none⟩ (.int .i64 u)) t u :=
  ⟨bset x.below (by omega) _ _, x.a.other _ _ (by omega), x.b.set1 _⟩

/-! those that leave the world alone, in the laws' words -/
end Go.Proofs.YtapddciodoobfabDoor.Cr
