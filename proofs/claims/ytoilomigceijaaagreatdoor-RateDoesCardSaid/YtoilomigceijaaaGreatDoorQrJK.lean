/- Texts that are joined: Pairs, Boxes, Boxn, Rowk, Rowk2, Urow, Hrow, Fstore, Fload, Qtail. -/
import Derived.WalkKit
import Derived.RowKit
import Derived.RowKit3
import Derived.Below
import Derived.Lib.Hide
import Derived.Deep.DrawnRows
import Derived.Deep.QuietTactic
import Derived.BigQuiet
import Derived.Deep.AppendLies
import Derived.Laws.OwnMore
import Derived.OwnWalk
import Derived.OneCell
import Derived.Deep.WholeRow
import Derived.Deep.MidRow
import Derived.StillTail
import Derived.Lib.QuietBelow
set_option linter.unusedSimpArgs false
set_option linter.unusedVariables false
namespace Go.Proofs.YtoilomigceijaaaGreatDoor.Pr
open Go.RowKit

structure Two (W:World) (b:Nat) (u v:Value):Prop where
 lt:b<W.heap.size
 c0:W.cell? ⟨b,0,none⟩=some u
 c1:W.cell? ⟨b,1,none⟩=some v
 f0:W.frozen? ⟨b,0,none⟩=false
 f1:W.frozen? ⟨b,1,none⟩=false
section
variable {W w1:World} {b g:Nat} {u v x y:Value}
theorem Two.kept (p:Two W b u v)(hb:Below W.heap.size W w1):Two w1 b u v :=
 ⟨Nat.lt_of_lt_of_le p.lt hb.size,(hb.cell (p:=⟨b,0,none⟩) p.lt).trans p.c0,(hb.cell (p:=⟨b,1,none⟩) p.lt).trans p.c1,
  (hb.frozen (p:=⟨b,0,none⟩) p.lt).trans p.f0,(hb.frozen (p:=⟨b,1,none⟩) p.lt).trans p.f1⟩
theorem Two.alloc (p:Two W b u v)(o:Obj):Two (W.alloc o) b u v:=p.kept ((Below.refl _ _).alloc (Nat.le_refl _) o)
theorem Two.new (W:World)(u v:Value)(t:TypeId):Two (W.alloc (.cells #[u,v] t)) W.heap.size u v :=
 ⟨by simp,by simp [go_sem],by simp [go_sem],by simp [go_sem],by simp [go_sem]⟩
theorem Two.drewN (p:Two W b u v)(n:Nat):Two (W.drewN n) b u v:=⟨p.lt,p.c0,p.c1,p.f0,p.f1⟩
theorem Two.drew (p:Two W b u v):Two W.drew b u v:=⟨p.lt,p.c0,p.c1,p.f0,p.f1⟩
theorem Two.set0 (p:Two W b u v)(x:Value):Two (W.setCell ⟨b,0,none⟩ x) b x v :=
 ⟨by simp;exact p.lt,by simp [go_sem,p.c0],by simp [go_sem,p.c1],by simp [go_sem,p.f0],by simp [go_sem,p.f1]⟩
theorem Two.set1 (p:Two W b u v)(x:Value):Two (W.setCell ⟨b,1,none⟩ x) b u x :=
 ⟨by simp;exact p.lt,by simp [go_sem,p.c0],by simp [go_sem,p.c1],by simp [go_sem,p.f0],by simp [go_sem,p.f1]⟩
theorem Two.other (p:Two W b u v)(n:Nat)(x:Value)(h:b≠g):Two (W.setCell ⟨g,n,none⟩ x) b u v :=
 ⟨by simp;exact p.lt,by rw [World.cell?_setCell_other]<;>simp [p.c0,h,go_sem],by rw [World.cell?_setCell_other]<;>simp [p.c1,h,go_sem],by simp [go_sem,p.f0],by simp [go_sem,p.f1]⟩
end

theorem bthen {w W w1:World}(h:Below w.heap.size w W)(hb:Below W.heap.size W w1):Below w.heap.size w w1:=h.trans (hb.mono h.size)
theorem balloc {w W:World}(h:Below w.heap.size w W)(o:Obj):Below w.heap.size w (W.alloc o):=h.alloc h.size o
theorem bdrewN {w W:World}(h:Below w.heap.size w W)(n:Nat):Below w.heap.size w (W.drewN n):=⟨h.os,h.tape,h.output,h.size,h.block⟩
theorem bset {w W:World}(h:Below w.heap.size w W){g:Nat}(hg:w.heap.size≤g)(n:Nat)(x:Value):Below w.heap.size w (W.setCell ⟨g,n,none⟩ x):=h.setCell (by simpa using hg) _

def Mid (W0:World)(u v:Value)(s:Value)(W:World):Prop :=
 ∃ g:Nat,s= .pointer (some ⟨g,0,none⟩)∧W0.heap.size≤g∧Two W g u v∧Below W0.heap.size W0 W
theorem mid_set {W0 W:World}{g:Nat}{u v u' v':Value}(K:Two W g u' v')(hB:Below W0.heap.size W0 W)(hg:W0.heap.size≤g) :
  Mid W0 u v (.pointer (some ⟨g,0,none⟩)) ((W.setCell ⟨g,0,none⟩ u).setCell ⟨g,1,none⟩ v) :=
 ⟨g,rfl,hg,(K.set0 _).set1 _,bset (bset hB hg _ _) hg _ _⟩
theorem mid_new {W0 W:World}{u v:Value}{t:TypeId}(hB:Below W0.heap.size W0 W):Mid W0 u v (.pointer (some ⟨W.heap.size,0,none⟩)) (W.alloc (.cells #[u,v] t)) :=
 ⟨_,rfl,hB.size,Two.new _ _ _ _,balloc hB _⟩
end Go.Proofs.YtoilomigceijaaaGreatDoor.Pr

namespace Go.Proofs.YtoilomigceijaaaGreatDoor
open Go.RowKit
theorem bthen {w W w1:World}(h:Below w.heap.size w W)(hb:Below W.heap.size W w1):Below w.heap.size w w1:=Pr.bthen h hb
theorem balloc {w W:World}(h:Below w.heap.size w W)(o:Obj):Below w.heap.size w (W.alloc o):=Pr.balloc h o
theorem bdrewN {w W:World}(h:Below w.heap.size w W)(n:Nat):Below w.heap.size w (W.drewN n):=Pr.bdrewN h n
theorem bset {w W:World}(h:Below w.heap.size w W){g:Nat}(hg:w.heap.size≤g)(n:Nat)(x:Value):Below w.heap.size w (W.setCell ⟨g,n,none⟩ x):=Pr.bset h hg n x
end Go.Proofs.YtoilomigceijaaaGreatDoor

namespace Go.Proofs.YtoilomigceijaaaGreatDoor.Bx
open Go.RowKit

structure Tri (W:World) (b:Nat) (u v x:Value):Prop where
 lt:b<W.heap.size
 c0:W.cell? ⟨b,0,none⟩=some u
 c1:W.cell? ⟨b,1,none⟩=some v
 c2:W.cell? ⟨b,2,none⟩=some x
 f0:W.frozen? ⟨b,0,none⟩=false
 f1:W.frozen? ⟨b,1,none⟩=false
 f2:W.frozen? ⟨b,2,none⟩=false
section
variable {W w1:World} {b g:Nat} {u v x:Value}
theorem Tri.kept (p:Tri W b u v x)(hb:Below W.heap.size W w1):Tri w1 b u v x :=
 ⟨Nat.lt_of_lt_of_le p.lt hb.size,(hb.cell (p:=⟨b,0,none⟩) p.lt).trans p.c0,(hb.cell (p:=⟨b,1,none⟩) p.lt).trans p.c1,(hb.cell (p:=⟨b,2,none⟩) p.lt).trans p.c2,
  (hb.frozen (p:=⟨b,0,none⟩) p.lt).trans p.f0,(hb.frozen (p:=⟨b,1,none⟩) p.lt).trans p.f1,(hb.frozen (p:=⟨b,2,none⟩) p.lt).trans p.f2⟩
theorem Tri.alloc (p:Tri W b u v x)(o:Obj):Tri (W.alloc o) b u v x:=p.kept ((Below.refl _ _).alloc (Nat.le_refl _) o)
theorem Tri.new (W:World)(u v x:Value)(t:TypeId):Tri (W.alloc (.cells #[u,v,x] t)) W.heap.size u v x :=
 ⟨by simp,by simp [go_sem],by simp [go_sem],by simp [go_sem],by simp [go_sem],by simp [go_sem],by simp [go_sem]⟩
theorem Tri.drewN (p:Tri W b u v x)(n:Nat):Tri (W.drewN n) b u v x:=⟨p.lt,p.c0,p.c1,p.c2,p.f0,p.f1,p.f2⟩
theorem Tri.drew (p:Tri W b u v x):Tri W.drew b u v x:=⟨p.lt,p.c0,p.c1,p.c2,p.f0,p.f1,p.f2⟩
theorem Tri.set0 (p:Tri W b u v x)(y:Value):Tri (W.setCell ⟨b,0,none⟩ y) b y v x :=
 ⟨by simp;exact p.lt,by simp [go_sem,p.c0],by simp [go_sem,p.c1],by simp [go_sem,p.c2],by simp [go_sem,p.f0],by simp [go_sem,p.f1],by simp [go_sem,p.f2]⟩
theorem Tri.set1 (p:Tri W b u v x)(y:Value):Tri (W.setCell ⟨b,1,none⟩ y) b u y x :=
 ⟨by simp;exact p.lt,by simp [go_sem,p.c0],by simp [go_sem,p.c1],by simp [go_sem,p.c2],by simp [go_sem,p.f0],by simp [go_sem,p.f1],by simp [go_sem,p.f2]⟩
theorem Tri.set2 (p:Tri W b u v x)(y:Value):Tri (W.setCell ⟨b,2,none⟩ y) b u v y :=
 ⟨by simp;exact p.lt,by simp [go_sem,p.c0],by simp [go_sem,p.c1],by simp [go_sem,p.c2],by simp [go_sem,p.f0],by simp [go_sem,p.f1],by simp [go_sem,p.f2]⟩
theorem Tri.other (p:Tri W b u v x)(n:Nat)(y:Value)(h:b≠g):Tri (W.setCell ⟨g,n,none⟩ y) b u v x :=
 ⟨by simp;exact p.lt,by rw [World.cell?_setCell_other]<;>simp [p.c0,h,go_sem],by rw [World.cell?_setCell_other]<;>simp [p.c1,h,go_sem],by rw [World.cell?_setCell_other]<;>simp [p.c2,h,go_sem],
  by simp [go_sem,p.f0],by simp [go_sem,p.f1],by simp [go_sem,p.f2]⟩
end

end Go.Proofs.YtoilomigceijaaaGreatDoor.Bx

namespace Go.Proofs.YtoilomigceijaaaGreatDoor.Bn
open Go.RowKit

structure Box (W:World) (b:Nat) (vs:List Value):Prop where
 lt:b<W.heap.size
 cell:∀ i v,vs[i]?=some v→W.cell? ⟨b,i,none⟩=some v
 frz:∀ i,i<vs.length→W.frozen? ⟨b,i,none⟩=false
section
variable {W w1:World} {b g:Nat} {vs:List Value}
theorem Box.kept (p:Box W b vs)(hb:Below W.heap.size W w1):Box w1 b vs :=
 ⟨Nat.lt_of_lt_of_le p.lt hb.size,fun i v h=>(hb.cell (p:=⟨b,i,none⟩) p.lt).trans (p.cell i v h),fun i h=>(hb.frozen (p:=⟨b,i,none⟩) p.lt).trans (p.frz i h)⟩
theorem Box.alloc (p:Box W b vs)(o:Obj):Box (W.alloc o) b vs:=p.kept ((Below.refl _ _).alloc (Nat.le_refl _) o)
theorem Box.drewN (p:Box W b vs)(n:Nat):Box (W.drewN n) b vs:=⟨p.lt,p.cell,p.frz⟩
theorem Box.new (W:World)(a:Array Value)(t:TypeId):Box (W.alloc (.cells a t)) W.heap.size a.toList :=
 ⟨by simp,fun i v h=>by simpa [go_sem] using h,fun i h=>by simp [go_sem]⟩
theorem Box.set (p:Box W b vs)(n:Nat)(hn:n<vs.length)(y:Value):Box (W.setCell ⟨b,n,none⟩ y) b (vs.set n y):=by
 refine ⟨by simp;exact p.lt,fun i v h=>?_,fun i h=>?_⟩
 ·obtain ⟨u,hu⟩:∃ u,vs[n]?=some u:=⟨_,List.getElem?_eq_getElem hn⟩
  have:=p.cell n u hu
  by_cases e:i=n
  ·subst e
   rw [List.getElem?_set_self hn] at h
   injection h with h;subst h
   simp [go_sem,this]
  ·rw [List.getElem?_set_ne (fun h=>e h.symm)] at h
   rw [World.cell?_setCell_other]
   ·exact p.cell i v h
   ·intro h';injection h' with _ h';exact e (by omega)
 ·simp at h;simp [go_sem,p.frz i h]
theorem Box.other (p:Box W b vs)(n:Nat)(y:Value)(h:b≠g):Box (W.setCell ⟨g,n,none⟩ y) b vs :=
 ⟨by simp;exact p.lt,fun i v hv=>by rw [World.cell?_setCell_other]<;>simp [p.cell i v hv,h,go_sem],fun i hi=>by simp [go_sem,p.frz i hi]⟩
theorem Box.five {a c d e f:Value}(p:Box W b [a,c,d,e,f]):b<W.heap.size∧W.cell? ⟨b,0,none⟩=some a∧W.cell? ⟨b,1,none⟩=some c∧W.cell? ⟨b,2,none⟩=some d∧W.cell? ⟨b,3,none⟩=some e∧W.cell? ⟨b,4,none⟩=some f∧
  W.frozen? ⟨b,0,none⟩=false∧W.frozen? ⟨b,1,none⟩=false∧W.frozen? ⟨b,2,none⟩=false∧W.frozen? ⟨b,3,none⟩=false∧W.frozen? ⟨b,4,none⟩=false :=
 ⟨p.lt,p.cell 0 _ rfl,p.cell 1 _ rfl,p.cell 2 _ rfl,p.cell 3 _ rfl,p.cell 4 _ rfl,p.frz 0 (by simp),p.frz 1 (by simp),p.frz 2 (by simp),p.frz 3 (by simp),p.frz 4 (by simp)⟩
theorem Box.set4 {a c d e a' c' d' e':Value}(p:Box W b [a,c,d,e]):Box ((((W.setCell ⟨b,0,none⟩ a').setCell ⟨b,1,none⟩ c').setCell ⟨b,2,none⟩ d').setCell ⟨b,3,none⟩ e') b [a',c',d',e'] :=
 (((p.set 0 (by simp) a').set 1 (by simp) c').set 2 (by simp) d').set 3 (by simp) e'
end

end Go.Proofs.YtoilomigceijaaaGreatDoor.Bn

namespace Go.Proofs.YtoilomigceijaaaGreatDoor.Rk
open Go.RowKit

def lst (f:Nat→Int)(k:Nat):List Value:=(List.range k).map fun i=>.int .i64 (f i)
theorem lst_succ (f:Nat→Int)(k:Nat):lst f (k+1)=lst f k++[.int .i64 (f k)]:=by unfold lst;rw [List.range_succ,List.map_append];rfl
theorem lst_at (f:Nat→Int){k i:Nat}(h:i<k):(lst f k)[i]?=some (.int .i64 (f i)):=by simp [lst,h]
theorem below_grown {B:Nat}{a w w':World}{row:Option Nat}(h:Below B a w)(hg:w.grownBy w' row)(hr:∀ k,row=some k→B≤k)(hB:B≤a.heap.size):Below B a w' :=
 ⟨hg.os.trans h.os,hg.tape.trans h.tape,hg.output.trans h.output,Nat.le_trans h.size hg.size,
  fun i hi=>(hg.block i (by have:=h.size;omega) (fun e=>by have:=hr i e.symm;omega)).trans (h.block i hi)⟩

structure Row (W:World) (g n:Nat) (f:Nat→Int):Prop where
 lt:g<W.heap.size
 c:∀ i,i<n→W.cell? ⟨g,i,none⟩=some (.int .i64 (f i))
 fz:∀ i,i<n→W.frozen? ⟨g,i,none⟩=false
section
variable {W w1:World} {g n:Nat} {f:Nat→Int}
theorem Row.of_owns {base:Nat}{e:TypeId}{cap:Nat}(h:W.ownsRow base e 1 (.slice (some ⟨g,0,none⟩) n cap) n (lst f n))(hn:0<n):Row W g n f:=by
 refine ⟨?_,fun i hi=>?_,fun i _=>h.frozenAt i⟩
 ·obtain ⟨g',cap',e1,_,hlt⟩:=h.form hn
  cases e1;exact hlt
 ·rw [h.cellAt i (by omega),lst_at f hi]
theorem Row.kept (p:Row W g n f)(hb:Below W.heap.size W w1):Row w1 g n f :=
 ⟨Nat.lt_of_lt_of_le p.lt hb.size,fun i hi=>(hb.cell (p:=⟨g,i,none⟩) p.lt).trans (p.c i hi),fun i hi=>(hb.frozen (p:=⟨g,i,none⟩) p.lt).trans (p.fz i hi)⟩
theorem Row.set (p:Row W g n f){k:Nat}(v:Int)(hk:k<n):Row (W.setCell ⟨g,k,none⟩ (.int .i64 v)) g n (fun i=>if i=k then v else f i):=by
 refine ⟨by simp;exact p.lt,fun i hi=>?_,fun i hi=>by simp [go_sem,p.fz i hi]⟩
 by_cases e:i=k
 ·subst e;simp [go_sem,p.c i hi]
 ·rw [World.cell?_setCell_other]<;>simp [p.c i hi,e,go_sem]
theorem Row.other {b:Nat}(p:Row W g n f)(k:Nat)(v:Value)(h:g≠b):Row (W.setCell ⟨b,k,none⟩ v) g n f :=
 ⟨by simp;exact p.lt,fun i hi=>by rw [World.cell?_setCell_other]<;>simp [p.c i hi,h,go_sem],fun i hi=>by simp [go_sem,p.fz i hi]⟩
end

structure Duo (EL:TypeId) (w W:World) (u v:Value) (k:Nat) (f g:Nat→Int):Prop where
 below:Below w.heap.size w W
 a:W.ownsRow w.heap.size EL 1 u k (lst f k)
 b:W.ownsRow w.heap.size EL 1 v k (lst g k)
 apart:∀ x,u.ownBlock=some x→v.ownBlock=some x→False
section
variable {EL:TypeId} {w W w1:World} {u v:Value} {k:Nat} {f g:Nat→Int}
theorem owns_below {base:Nat}{xs:List Value}(h:W.ownsRow base EL 1 u k xs)(hb:Below W.heap.size W w1):w1.ownsRow base EL 1 u k xs :=
 h.kept (row:=none) ⟨hb.os,hb.tape,hb.output,hb.size,fun i hi _=>hb.block i hi⟩ (by cases u.ownBlock<;>simp)
theorem Duo.start (EL:TypeId)(w:World)(h:Below w.heap.size w W)(f g:Nat→Int):Duo EL w W (.slice none 0 0) (.slice none 0 0) 0 f g :=
 ⟨h,World.ownsRow_nil _ _ _ _,World.ownsRow_nil _ _ _ _,fun x h=>by cases h⟩
theorem Duo.kept (x:Duo EL w W u v k f g)(hb:Below W.heap.size W w1):Duo EL w w1 u v k f g :=
 ⟨Pr.bthen x.below hb,owns_below x.a hb,owns_below x.b hb,x.apart⟩
end

end Go.Proofs.YtoilomigceijaaaGreatDoor.Rk

namespace Go.Proofs.YtoilomigceijaaaGreatDoor.Rk
open Go.RowKit
section
variable {EL:TypeId} {w W w1:World} {u v:Value} {k:Nat} {f g:Nat→Int}
theorem own_at {base x n:Nat}{xs:List Value}(h:W.ownsRow base EL 1 u n xs)(e:u.ownBlock=some x):base≤x∧x<W.heap.size:=by
 rcases h.2 with ⟨h1,_⟩|⟨g,cap,cur,hv,hb,hg,_⟩
 ·rw [h1] at e;cases e
 ·rw [hv] at e
  have:g=x:=by simpa [Value.ownBlock] using e
  subst this
  refine ⟨hb,?_⟩
  rcases Nat.lt_or_ge g W.heap.size with hlt|hge
  ·exact hlt
  ·rw [Array.getElem?_eq_none hge] at hg;cases hg
theorem Duo.apart' (X:Duo EL w W u v k f g):v.ownBlock=none∨v.ownBlock≠u.ownBlock:=by
 cases hv:v.ownBlock with
 | none=>exact .inl rfl
 | some x=>exact .inr (fun e=>X.apart x e.symm hv)
theorem Duo.next {W2 W3:World}{o1 o2:Obj}{g1 g2 c1 c2:Nat}(X:Duo EL w W u v k f g)
  (h1:W2.ownsRow w.heap.size EL 1 (.slice (some ⟨g1,0,none⟩) (k+1) c1) (k+1) (lst f k++[.int .i64 (f k)])) (r1:(W.alloc o1).grownBy W2 u.ownBlock) (a1:u.ownBlock=some g1∨g1=W.heap.size+1) (l1:g1<W2.heap.size)
  (h2:W3.ownsRow w.heap.size EL 1 (.slice (some ⟨g2,0,none⟩) (k+1) c2) (k+1) (lst g k++[.int .i64 (g k)])) (r2:(W2.alloc o2).grownBy W3 v.ownBlock) (a2:v.ownBlock=some g2∨g2=W2.heap.size+1) (l2:g2<W3.heap.size) :
  Duo EL w W3 (.slice (some ⟨g1,0,none⟩) (k+1) c1) (.slice (some ⟨g2,0,none⟩) (k+1) c2) (k+1) f g:=by
 have B1:=below_grown (Pr.balloc X.below o1) r1 (fun x e=>(own_at X.a e).1) (Nat.le_refl _)
 have B2:=below_grown (Pr.balloc B1 o2) r2 (fun x e=>(own_at X.b e).1) (Nat.le_refl _)
 have sz:=r1.size
 have ap:∀ x,v.ownBlock=some x→g1≠x:=by
  intro x e h
  subst h
  rcases a1 with a1|a1
  ·exact X.apart g1 a1 e
  ·have:=(own_at X.b e).2
   omega
 refine ⟨B2,?_,by rw [lst_succ];exact h2,?_⟩
 ·rw [lst_succ]
  exact (h1.alloc o2).kept r2 (by
   cases hv:v.ownBlock with
   | none=>right;simp [Value.ownBlock]
   | some x=>right;simp only [Value.ownBlock];intro e;exact ap x hv (Option.some.inj e))
 ·intro x e1 e2
  have q1:g1=x:=by simpa [Value.ownBlock] using e1
  have q2:g2=x:=by simpa [Value.ownBlock] using e2
  rcases a2 with a2|a2
  ·exact ap g2 a2 (q1.trans q2.symm)
  ·omega
end

end Go.Proofs.YtoilomigceijaaaGreatDoor.Rk

namespace Go.Proofs.YtoilomigceijaaaGreatDoor.Rk
open Go.RowKit

abbrev U3:=Int×Int×Int
def uval (u:U3):Value:=.agg #[.int .i64 u.1,.int .i64 u.2.1,.int .i64 u.2.2]
def ucell (u:U3):List Value:=[.int .i64 u.1,.int .i64 u.2.1,.int .i64 u.2.2]
def ucells:List U3→List Value
 | []=>[]
 | u :: l=>ucell u++ucells l
theorem ucells_snoc (l:List U3)(u:U3):ucells (l++[u])=ucells l++ucell u:=by
 induction l with
 | nil=>simp [ucells]
 | cons x l ih=>simp [ucells,ih]
theorem ucells_at {l:List U3}{i:Nat}{u:U3}(h:l[i]?=some u):(ucells l)[i*3]?=some (.int .i64 u.1)∧(ucells l)[i*3+1]?=some (.int .i64 u.2.1)∧(ucells l)[i*3+2]?=some (.int .i64 u.2.2):=by
 induction l generalizing i with
 | nil=>simp at h
 | cons x l ih =>
   cases i with
   | zero =>
     simp at h
     subst h
     simp [ucells,ucell]
   | succ j =>
     have a:=ih (i:=j) (by simpa using h)
     have e:∀ k,(ucells (x :: l))[(j+1)*3+k]?=(ucells l)[j*3+k]?:=fun k=>by
      show (ucell x++ucells l)[(j+1)*3+k]?=_
      have hl:(ucell x).length=3:=rfl
      rw [List.getElem?_append_right (by rw [hl];omega),hl]
      congr 1
      omega
     have e0:=e 0
     rw [Nat.add_zero,Nat.add_zero] at e0
     exact ⟨by rw [e0];exact a.1,by rw [e 1];exact a.2.1,by rw [e 2];exact a.2.2⟩

structure Urow (W:World) (g:Nat) (l:List U3):Prop where
 lt:g<W.heap.size
 c:∀ i u,l[i]?=some u→W.cell? ⟨g,i*3,none⟩=some (.int .i64 u.1)∧W.cell? ⟨g,i*3+1,none⟩=some (.int .i64 u.2.1)∧W.cell? ⟨g,i*3+2,none⟩=some (.int .i64 u.2.2)
section
variable {W w1:World} {g n:Nat} {l:List U3}
theorem Urow.kept (p:Urow W g l)(hb:Below W.heap.size W w1):Urow w1 g l :=
 ⟨Nat.lt_of_lt_of_le p.lt hb.size,fun i u h=>⟨(hb.cell (p:=⟨g,i*3,none⟩) p.lt).trans (p.c i u h).1,(hb.cell (p:=⟨g,i*3+1,none⟩) p.lt).trans (p.c i u h).2.1,(hb.cell (p:=⟨g,i*3+2,none⟩) p.lt).trans (p.c i u h).2.2⟩⟩
theorem Urow.alloc (p:Urow W g l)(o:Obj):Urow (W.alloc o) g l:=p.kept ((Below.refl _ _).alloc (Nat.le_refl _) o)
theorem Urow.of_owns {base:Nat}{e:TypeId}{cap:Nat}(h:W.ownsRow base e 3 (.slice (some ⟨g,0,none⟩) l.length cap) l.length (ucells l))(hn:0<l.length):Urow W g l:=by
 refine ⟨?_,fun i u hu=>?_⟩
 ·obtain ⟨g',cap',e1,_,hlt⟩:=h.form hn
  cases e1;exact hlt
 ·have hi:i<l.length:=(List.getElem?_eq_some_iff.1 hu).1
  have a:=ucells_at hu
  exact ⟨by rw [h.cellAt (i*3) (by omega)];exact a.1,by rw [h.cellAt (i*3+1) (by omega)];exact a.2.1,by rw [h.cellAt (i*3+2) (by omega)];exact a.2.2⟩
end
end Go.Proofs.YtoilomigceijaaaGreatDoor.Rk

namespace Go.Proofs.YtoilomigceijaaaGreatDoor.Rk
open Go.RowKit

structure One (EL:TypeId) (w W:World) (v:Value) (k:Nat) (f:Nat→Int):Prop where
 below:Below w.heap.size w W
 a:W.ownsRow w.heap.size EL 1 v k (lst f k)
section
variable {EL:TypeId} {w W w1:World} {v:Value} {k n:Nat} {f:Nat→Int}
theorem One.start (EL:TypeId)(w:World)(h:Below w.heap.size w W)(f:Nat→Int):One EL w W (.slice none 0 0) 0 f:=⟨h,World.ownsRow_nil _ _ _ _⟩
theorem One.kept (x:One EL w W v k f)(hb:Below W.heap.size W w1):One EL w w1 v k f:=⟨Pr.bthen x.below hb,owns_below x.a hb⟩
theorem One.next {W2:World}{o1:Obj}{g1 c1:Nat}{x:Int}(X:One EL w W v k f)(hx:x=f k)
  (h1:W2.ownsRow w.heap.size EL 1 (.slice (some ⟨g1,0,none⟩) (k+1) c1) (k+1) (lst f k++[.int .i64 x])) (r1:(W.alloc o1).grownBy W2 v.ownBlock) :
  One EL w W2 (.slice (some ⟨g1,0,none⟩) (k+1) c1) (k+1) f :=
 ⟨below_grown (Pr.balloc X.below o1) r1 (fun x e=>(own_at X.a e).1) (Nat.le_refl _),by rw [lst_succ,← hx];exact h1⟩
theorem One.out (X:One EL w W v n f)(hn:0<n):∃ g cap,v= .slice (some ⟨g,0,none⟩) n cap∧w.heap.size≤g∧Row W g n f:=by
 obtain ⟨g,cap,rfl,hg,lt⟩:=X.a.form hn
 exact ⟨g,cap,rfl,hg,Row.of_owns X.a hn⟩
end
def IntsOut (w:World)(n:Nat)(f:Nat→Int)(e:Ending)(w':World):Prop :=
 ∃ g cap:Nat,e= .returned (.tuple #[.slice (some ⟨g,0,none⟩) n cap,.int .i64 0])∧Row w' g n f∧w.heap.size≤g∧Below w.heap.size w w'
def IntsOne (w:World)(n:Nat)(f:Nat→Int)(e:Ending)(w':World):Prop :=
 ∃ g cap:Nat,e= .returned (.slice (some ⟨g,0,none⟩) n cap)∧Row w' g n f∧w.heap.size≤g∧Below w.heap.size w w'

end Go.Proofs.YtoilomigceijaaaGreatDoor.Rk

namespace Go.Proofs.YtoilomigceijaaaGreatDoor.Fs

theorem wpList_store_new {P:Program}{ops:Array Oper}{rest:List Oper}{op:Oper}{a:Act}{w:World}{Q:Exit→Act→World→Prop}(hgd:op.guard=none)(ty:TypeId)(x y:Operand)(ho:op.op= .store ty x y)
  (c c':Array Value) (n:Nat) (hx:a.eval x= .pointer (some ⟨w.heap.size,0,none⟩)) (hy:a.eval y= .agg c')
  (hi:(P.info? ty).map (·.size)=some n) (hn:c'.size=n) (hs:c.size=n) (h1:c'.all (·.oneCell')=true)
  (h:wpList P ops Q rest (a.put op.dst undef) (w.alloc (.cells c' ty))):wpList P ops Q (op :: rest) a (w.alloc (.cells c ty)) :=
 wpList_plain hgd fun _ hK=>by
  unfold Oper.wp execOp
  simp only [ho,hx,hy,Sem.run_bind,Sem.run_pure,Result.andThen_ok,run_storeAt_new w ty c c' (by rw [hi,hn]) (by rw [hs,hn]) h1]
  exact hK _ _ h

theorem results_cell2 {fn:Func}{t u:Tmp}{ty:TypeId}(h:fn.results=#[.cell t ty,.tmp u])(tmps:Array Value)(P:Program)(w:World)(b o:Nat)(cs:List Value)(d:TypeDesc)(n:Nat)
  (hp:tmps.getD t undef= .pointer (some ⟨b,o,none⟩)) (hc:w.rangeAt b o cs) (hu:P.underlying ty=some d) (hd:d.isRow=true) (hi:(P.info? ty).map (·.size)=some n) (hn:cs.length=n) :
  (results fn tmps).run P w= .ok (.tuple #[.agg cs.toArray,tmps.getD u undef]) w:=by
 have hl:=run_loadVar_mid w b o ty cs d hc hu hd (by rw [hi,hn])
 have hp':asAddr (tmps.getD t undef)=(pure ⟨b,o,none⟩:Sem Addr):=by rw [hp];rfl
 simp only [results,h]
 rw [show (#[ResultVar.cell t ty,ResultVar.tmp u]:Array ResultVar)= [ResultVar.cell t ty,ResultVar.tmp u].toArray from rfl,List.mapM_toArray]
 simp only [List.mapM_cons,List.mapM_nil,hp',pure_bind]
 generalize loadVar ty ⟨b,o,none⟩=x at hl
 simp [go_sem,hl]

end Go.Proofs.YtoilomigceijaaaGreatDoor.Fs

namespace Go.Proofs.YtoilomigceijaaaGreatDoor.Fs

theorem wpList_load_midG {P:Program}{ops:Array Oper}{rest:List Oper}{op:Oper}{a:Act}{w:World}{Q:Exit→Act→World→Prop}(hgd:Region.wanted op (yielded ops a.tmps)=true)(ty:TypeId)(x:Operand)(ho:op.op= .load ty x)
  (b o:Nat) (hx:a.eval x= .pointer (some ⟨b,o,none⟩)) (cs:List Value) (d:TypeDesc) (hc:w.rangeAt b o cs)
  (hu:P.underlying ty=some d) (hd:d.isRow=true) (hi:(P.info? ty).map (·.size)=some cs.length)
  (h:wpList P ops Q rest (a.put op.dst (.agg cs.toArray)) w):wpList P ops Q (op :: rest) a w:=by
 refine wpList_step fun K hK=>?_
 simp only [hgd,if_true]
 exact wp_load_mid ty x ho b o hx cs d hc hu hd hi (hK _ _ h)

end Go.Proofs.YtoilomigceijaaaGreatDoor.Fs

namespace Go.Proofs.YtoilomigceijaaaGreatDoor.Qt
open Go Go.Sort Go.RowKit

section
variable {P:Program} {ops:Array Oper} {md:Region.Mode} {C:World→Prop}

def headQ (P:Program)(md:Region.Mode)(ops:Array Oper)(C:World→Prop)(n:Nat)(L:Array Bool→Act→Prop):Nat→Array Bool→Act→Prop
 | 0,s,a=>L s a
 | f+1,s,a=>Region.ready md ops s≠[]∧∀ i ∈ Region.ready md ops s,i<n∧qOp P ops C i (headQ P md ops C n L f (s.setIfInBounds i true)) a

theorem any_of_headQ {n g:Nat}{L:Array Bool→Act→Prop}{Q:Exit→Act→World→Prop}(hL:∀ s a w,C w→L s a→wpAny P md ops Q g s a w)(f:Nat) :
  ∀ (s:Array Bool) (a:Act) (w:World),C w→headQ P md ops C n L f s a→wpAny P md ops Q (f+g) s a w:=by
 induction f with
 | zero=>intro s a w hw h;rw [Nat.zero_add];exact hL s a w hw h
 | succ f ih =>
   intro s a w hw h
   have e:f+1+g=(f+g)+1:=by omega
   rw [e]
   exact ⟨fun h0=>absurd h0 h.1,fun i hi=>wpOp_of_qOp hw (fun a' w' hw' h'=>ih _ a' w' hw' h') (h.2 i hi).2⟩

theorem head_only {n i j:Nat}{s:Array Bool}(hs:Region.sinkB md ops n=true)(hc:Region.chainB md ops n=true)(hn:n<ops.size)(hin:i<n)(inv:HeadInv md ops n s)(hr:i ∈ Region.ready md ops s)(hj:j ∈ Region.ready md ops s):j<n:=by
 by_cases h:j<n
 ·exact h
 ·exact absurd hj (tail_waits hs hc hn inv _ i rfl hin (mem_ready.1 hr).1 j (by omega))

theorem headQ_first {n i:Nat}{oi:Oper}{v:Value}{L:Array Bool→Act→Prop}(hi:ops[i]?=some oi)(hsel:∀ (j:Nat) (o:Oper) cs b,ops[j]?=some o→o.op≠.select cs b)
  (hs:Region.sinkB md ops n=true) (hc:Region.chainB md ops n=true) (hn:n<ops.size) (hin:i<n) (hdone:∀ s a,L s a→∀ j ∈ Region.ready md ops s,n≤j) (f:Nat) :
  ∀ (s:Array Bool) (a:Act),HeadInv md ops n s→
   (∀ j oj,ops[j]?=some oj→j≠i→s.getD j true=false→(∀ e ∈ oj.after,Region.binds md e=true→e.on≠i)→oi.apart ops oj=true)→
   i ∈ Region.ready md ops s→YieldsIn P ops C oi v a→headQ P md ops C n L f (s.setIfInBounds i true) (a.put oi.dst v)→headQ P md ops C n L (f+1) s a:=by
 induction f with
 | zero =>
   intro s a inv _ hr hy H
   refine ⟨fun h=>(by rw [h] at hr;cases hr),fun j hj=>?_⟩
   have hjn:=head_only hs hc hn hin inv hr hj
   by_cases e:j=i
   ·subst e;exact ⟨hjn,hy.qOp hi H⟩
   ·exact absurd hjn (Nat.not_lt.2 (hdone _ _ H j (ready_mono hj e)))
 | succ f ih =>
   intro s a inv hfree hr hy H
   refine ⟨fun h=>(by rw [h] at hr;cases hr),fun j hj=>?_⟩
   have hjn:=head_only hs hc hn hin inv hr hj
   refine ⟨hjn,?_⟩
   by_cases e:j=i
   ·subst e;exact hy.qOp hi H
   ·obtain ⟨hjun,oj,hoj,hall⟩:=mem_ready.1 hj
    have hno:∀ x ∈ oj.after,Region.binds md x=true→x.on≠i:=by
     intro x hx hb he
     have h1:=hall x hx hb
     rw [he,getD_both (mem_ready.1 hr).1] at h1
     cases h1
    have h2:=qOp_put hoj (hfree j oj hoj e hjun hno) (fun cs b=>hsel i oi cs b hi) (fun cs b=>hsel j oj cs b hoj) hy (H.2 j (ready_mono hj e)).2
    refine qOp_mono (fun a' h3=>ih (s.setIfInBounds j true) a' (inv.set hj hjn) ?_ (ready_mono hr (Ne.symm e)) h3.1 ?_) h2
    ·intro k ok hk hki hun hno
     refine hfree k ok hk hki ?_ hno
     by_cases hjk:j=k
     ·subst hjk;exact hjun
     ·rw [getD_set_ne true hjk] at hun;exact hun
    ·rw [Array.setIfInBounds_comm _ _ e]
     exact h3.2

theorem headQ_lex {n g:Nat}{R:Act→Prop}(hsel:Region.noSelect ops=true)(hs:Region.sinkB md ops n=true)(hc:Region.chainB md ops n=true)(hn:n<ops.size)(l:List Oper) :
  ∀ (k:Nat) (s:Array Bool) (a:Act),(∀ j,j<l.length→l[j]?=ops[k+j]?)→k+l.length=n→HeadInv md ops n s→Region.lexHead md ops g l.length k s=true→wpQuiet P ops C R l a→
  headQ P md ops C n (fun s' a'=>Region.seqB md ops g n s'=true∧R a') l.length s a:=by
 induction l with
 | nil =>
   intro k s a _ hk inv hB h
   obtain rfl:k=n:=by simpa using hk
   exact ⟨by simpa [Region.lexHead] using hB,h⟩
 | cons o l ih =>
   intro k s a hl hk inv hB h
   have h0:ops[k]?=some o:=by simpa using (hl 0 (by simp)).symm
   simp only [List.length_cons,Region.lexHead,Bool.and_eq_true] at hB
   obtain ⟨⟨hr,hf⟩,hB'⟩:=hB
   have hkn:k<n:=by simp only [List.length_cons] at hk;omega
   have hr':k ∈ Region.ready md ops s:=by simpa using hr
   have hq:qOp P ops C k (wpQuiet P ops C R l) a:=by unfold qOp;simp only [h0];exact h
   obtain ⟨v,hy,hK⟩:=yieldsIn_of_qOp h0 hq
   refine headQ_first h0 (Region.noSelect_spec hsel) hs hc hn hkn (fun s' a' hL=>seqB_ready hL.1) l.length s a inv (Region.free_spec h0 hf) hr' hy ?_
   exact ih (k+1) _ _ (fun j hj=>by have:=hl (j+1) (by simp;omega);simpa [Nat.add_assoc,Nat.add_comm 1 j] using this) (by simp only [List.length_cons] at hk;omega) (inv.set hr' hkn) hB' hK

theorem wp_region_quiet_tail {id:Nat}{Q:Exit→Act→World→Prop}{a:Act}{w:World}{l:List Oper}(n:Nat)(hm:P.follows .mixedOrders=true)(hB:Region.lexTailB .any l.toArray n=true)(hC:C { w with drawn:=w.drawn+1 })
  (h:wpQuiet P l.toArray C (fun a'=>∀ w',C w'→wpList P l.toArray Q (l.drop n) a' w') (l.take n) a):(Code.region id l.toArray true).wp P Q a w:=by
 simp only [Region.lexTailB,Bool.and_eq_true,decide_eq_true_eq] at hB
 obtain ⟨⟨⟨⟨hsel,hn⟩,hs⟩,hc⟩,hlex⟩:=hB
 have hn':n<l.length:=by simpa using hn
 have htl:(l.take n).length=n:=by simp;omega
 have hdl:(l.drop n).length=l.toArray.size - n:=by simp
 have inv0:HeadInv .any l.toArray n (Array.replicate l.toArray.size false) :=
  ⟨by simp,fun j oj _ hl=>(by rw [getD_replicate_false] at hl;cases hl),fun t _ ht=>getD_in (by simpa using ht) (getD_replicate_false _ _)⟩
 have H:=headQ_lex (C:=C) (md:=.any) (g:=l.toArray.size - n) hsel hs hc hn (l.take n) 0 _ a (fun j hj=>by
  have hj':j<n:=by rw [htl] at hj;exact hj
  simp [hj']) (by simpa using htl) inv0 (by rw [htl];exact hlex) h
 refine wp_region_any hm ?_
 have T:=any_of_headQ (Q:=Q) (g:=l.toArray.size - n) (fun s a' w' hw' hL=>by
  have:=wpAny_of_seq (md:=.any) (Q':=Q) (l.drop n) n s a' w' (fun j=>by simp [List.getElem?_drop]) (by rw [hdl];exact hL.1) (hL.2 w' hw')
  rwa [hdl] at this) _ _ _ _ hC H
 rw [htl,show n+(l.toArray.size - n)=l.toArray.size by omega] at T
 exact T

theorem wp_region_below_tail {id:Nat}{Q:Exit→Act→World→Prop}{a:Act}{w:World}{l:List Oper}(n:Nat)(hm:P.follows .mixedOrders=true)(hB:Region.lexTailB .any l.toArray n=true)
  (h:wpQuiet P l.toArray (fun w'=>∃ p:Regrown,w'=grow (redrawn w p.d) p.os) (fun a'=>∀ w',(∃ p:Regrown,w'=grow (redrawn w p.d) p.os)→wpList P l.toArray Q (l.drop n) a' w') (l.take n) a):(Code.region id l.toArray true).wp P Q a w :=
 wp_region_quiet_tail (C:=fun w'=>∃ p:Regrown,w'=grow (redrawn w p.d) p.os) n hm hB ⟨⟨w.drawn+1,#[]⟩,by rw [grow_empty];rfl⟩ h
end

end Go.Proofs.YtoilomigceijaaaGreatDoor.Qt

