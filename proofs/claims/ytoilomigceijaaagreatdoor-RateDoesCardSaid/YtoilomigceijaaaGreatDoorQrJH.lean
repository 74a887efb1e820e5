/- Texts that are joined: Hcode, Hcode2, Hcount, Hcode3. -/
import Derived.Test.YtoilomigceijaaaGreatDoorQrJA
import Derived.Test.YtoilomigceijaaaGreatDoorQrJP
import Derived.Test.YtoilomigceijaaaGreatDoorQrJK
import Derived.Deep.AppendLies
import Derived.Maps.AppendAt
import Derived.RangeFuncNested
import Derived.RangeFuncBound
import Derived.RangeFuncCalls
import Derived.RangeFuncLeaves
import Derived.RangeFuncFrom
import Derived.Shelf.Abstract
import Derived.Shelf.RegionOpen
import Derived.WalkKit
import Derived.OwnWalkIn
import Derived.TacticsInMore
import Derived.LoopNIn
import Derived.LoopIn
import Derived.Test.YtoilomigceijaaaGreatDoorProg
set_option linter.unusedSimpArgs false
set_option linter.unusedVariables false
namespace Go.Proofs.YtoilomigceijaaaGreatDoor.Hp
open Go.RowKit Bn Bx Cp Am Fp Ap Cm Em Ep

set_option maxHeartbeats 1000000

theorem cyc_of {c:CalZ}(h:KindOk c):c.sh=3→c.cy=1∨c.cy=2∨c.cy=4:=fun e=>by
 rcases shape_cases h with h|h|⟨_,_,h⟩
 ·omega
 ·omega
 ·rcases cut_cases h with h|h|h|h|h<;>omega

set_option maxRecDepth 100000 in
theorem Periods_any (c:CalZ)(v er:Int)(w:World)(R:PersA c v er)(hm:c.nm.size≤maxLen)(T:FTab w) :
  Calls Tryz.prog 137 #[.agg #[.string c.nm,.int .i64 c.k,.int .i64 c.d,.int .i64 c.m,.int .i64 c.s,.int .i64 c.sh,.int .i64 c.p0,.int .i64 c.p1,.int .i64 c.p2,.int .i64 c.cy,.int .i64 c.ex,.int .i64 c.fi,.int .i64 c.la,.int .i64 c.po]] w fun e w'=>e= .returned (.tuple #[.int .i64 v,.int .i64 er])∧Below w.heap.size w w':=by
 have C:=CalIn.new w c 24
 have B:=balloc (Below.refl _ w) (.cells #[.string c.nm,.int .i64 c.k,.int .i64 c.d,.int .i64 c.m,.int .i64 c.s,.int .i64 c.sh,.int .i64 c.p0,.int .i64 c.p1,.int .i64 c.p2,.int .i64 c.cy,.int .i64 c.ex,.int .i64 c.fi,.int .i64 c.la,.int .i64 c.po] 24)
 replace T:=T.alloc (.cells #[.string c.nm,.int .i64 c.k,.int .i64 c.d,.int .i64 c.m,.int .i64 c.s,.int .i64 c.sh,.int .i64 c.p0,.int .i64 c.p1,.int .i64 c.p2,.int .i64 c.cy,.int .i64 c.ex,.int .i64 c.fi,.int .i64 c.la,.int .i64 c.po] 24)
 rcases R with ⟨ok,hv,rfl⟩|⟨no,rfl,rfl⟩
 ·have ck:=fun w T=>Check_any c 0 w (.inl ⟨ok,rfl⟩) hm T
  have cp:=fun w=>periods_any c v w hv (cyc_of ok.1)
  clear ok hv
  go_enter Tryz.func137,Tryz.ntmps137
  go_upto_region 1 with fail
  generalize w.alloc (.cells #[.string c.nm,.int .i64 c.k,.int .i64 c.d,.int .i64 c.m,.int .i64 c.s,.int .i64 c.sh,.int .i64 c.p0,.int .i64 c.p1,.int .i64 c.p2,.int .i64 c.cy,.int .i64 c.ex,.int .i64 c.fi,.int .i64 c.la,.int .i64 c.po] 24)=W0 at *
  obtain ⟨_,c0,c1,c2,c3,c4,c5,c6,c7,c8,c9,c10,c11,c12,c13⟩:=id C
  go_wp2_with fail
  refine (ck _ T).mono ?_
  rintro e w1 ⟨rfl,hb⟩
  replace C:=C.kept hb
  replace B:=bthen B hb
  replace T:=T.kept hb
  clear hb c0 c1 c2 c3 c4 c5 c6 c7 c8 c9 c10 c11 c12 c13
  obtain ⟨_,c0,c1,c2,c3,c4,c5,c6,c7,c8,c9,c10,c11,c12,c13⟩:=id C
  go_wp2_with fail
  refine (cp _).mono ?_
  rintro e w2 ⟨rfl,hb⟩
  replace C:=C.kept hb
  replace B:=bthen B hb
  replace T:=T.kept hb
  clear hb c0 c1 c2 c3 c4 c5 c6 c7 c8 c9 c10 c11 c12 c13
  obtain ⟨_,c0,c1,c2,c3,c4,c5,c6,c7,c8,c9,c10,c11,c12,c13⟩:=id C
  go_wp2
  go_ret2
  exact ⟨rfl,B⟩
 ·have ck:=fun w T=>Check_any c 1 w (.inr ⟨no,rfl⟩) hm T
  clear no
  go_enter Tryz.func137,Tryz.ntmps137
  go_upto_region 1 with fail
  generalize w.alloc (.cells #[.string c.nm,.int .i64 c.k,.int .i64 c.d,.int .i64 c.m,.int .i64 c.s,.int .i64 c.sh,.int .i64 c.p0,.int .i64 c.p1,.int .i64 c.p2,.int .i64 c.cy,.int .i64 c.ex,.int .i64 c.fi,.int .i64 c.la,.int .i64 c.po] 24)=W0 at *
  obtain ⟨_,c0,c1,c2,c3,c4,c5,c6,c7,c8,c9,c10,c11,c12,c13⟩:=id C
  go_wp2_with fail
  refine (ck _ T).mono ?_
  rintro e w3 ⟨rfl,hb⟩
  replace C:=C.kept hb
  replace B:=bthen B hb
  replace T:=T.kept hb
  clear hb c0 c1 c2 c3 c4 c5 c6 c7 c8 c9 c10 c11 c12 c13
  obtain ⟨_,c0,c1,c2,c3,c4,c5,c6,c7,c8,c9,c10,c11,c12,c13⟩:=id C
  go_wp2
  go_ret2
  exact ⟨rfl,B⟩

set_option maxRecDepth 100000 in
theorem patternOf_any (c:CalZ)(a b d:Int)(w:World)(cut:CutOk c)(ha:a=pat c 1)(hb':b=pat c 2)(hd:d=pat c 3) :
  Calls Tryz.prog 187 #[.agg #[.string c.nm,.int .i64 c.k,.int .i64 c.d,.int .i64 c.m,.int .i64 c.s,.int .i64 c.sh,.int .i64 c.p0,.int .i64 c.p1,.int .i64 c.p2,.int .i64 c.cy,.int .i64 c.ex,.int .i64 c.fi,.int .i64 c.la,.int .i64 c.po]] w fun e w'=>e= .returned (.agg #[.int .i64 a,.int .i64 b,.int .i64 d])∧Below w.heap.size w w':=by
 have C:=CalIn.new w c 24
 have B:=balloc (Below.refl _ w) (.cells #[.string c.nm,.int .i64 c.k,.int .i64 c.d,.int .i64 c.m,.int .i64 c.s,.int .i64 c.sh,.int .i64 c.p0,.int .i64 c.p1,.int .i64 c.p2,.int .i64 c.cy,.int .i64 c.ex,.int .i64 c.fi,.int .i64 c.la,.int .i64 c.po] 24)
 have O:(c.sh=2∧a=4∧b=4∧d=4)∨(c.sh=3∧a=c.cy∧b=c.cy∧d=c.cy)∨(c.sh=1∧a=c.p0∧b=c.p1∧d=c.p2):=by
  subst ha hb' hd
  unfold pat
  rcases cut_cases cut with h|h|h|h|h
  ·exact .inr (.inr ⟨h.1,by rw [if_pos h.1,if_pos (by decide)],by rw [if_pos h.1,if_neg (by decide),if_pos (by decide)],by rw [if_pos h.1,if_neg (by decide),if_neg (by decide)]⟩)
  ·exact .inl ⟨h.1,by rw [if_neg (by omega),if_pos h.1],by rw [if_neg (by omega),if_pos h.1],by rw [if_neg (by omega),if_pos h.1]⟩
  all_goals exact .inr (.inl ⟨h.1,by rw [if_neg (by omega),if_neg (by omega)],by rw [if_neg (by omega),if_neg (by omega)],by rw [if_neg (by omega),if_neg (by omega)]⟩)
 clear ha hb' hd cut
 obtain ⟨_,c0,c1,c2,c3,c4,c5,c6,c7,c8,c9,c10,c11,c12,c13⟩:=id C
 rcases O with ⟨h,rfl,rfl,rfl⟩|⟨h,rfl,rfl,rfl⟩|⟨h,rfl,rfl,rfl⟩
 ·have d2:(c.sh==2)=true:=by rw [h];rfl
  clear h
  go_enter Tryz.func187,Tryz.ntmps187
  go_wp2
  refine bodyPost_ret (v:=.agg #[.int .i64 4,.int .i64 4,.int .i64 4]) (by simp [results,Tryz.results187,go_sem]) rfl ⟨rfl,?_⟩
  exact balloc B _
 ·have d2:(c.sh==2)=false:=by rw [h];rfl
  have d3:(c.sh==3)=true:=by rw [h];rfl
  clear h
  go_enter Tryz.func187,Tryz.ntmps187
  go_wp2
  refine bodyPost_ret (v:=.agg #[.int .i64 c.cy,.int .i64 c.cy,.int .i64 c.cy]) (by simp [results,Tryz.results187,go_sem]) rfl ⟨rfl,?_⟩
  exact balloc B _
 ·have d2:(c.sh==2)=false:=by rw [h];rfl
  have d3:(c.sh==3)=false:=by rw [h];rfl
  clear h
  go_enter Tryz.func187,Tryz.ntmps187
  go_wp2
  refine bodyPost_ret (v:=.agg #[.int .i64 c.p0,.int .i64 c.p1,.int .i64 c.p2]) (by simp [results,Tryz.results187,go_sem]) rfl ⟨rfl,?_⟩
  exact balloc B _

end Go.Proofs.YtoilomigceijaaaGreatDoor.Hp

namespace Go.Proofs.YtoilomigceijaaaGreatDoor.Hp
open Go.RowKit Bn Bx Cp Am Fp Ap Cm Em Ep Rk

set_option maxHeartbeats 1000000

theorem pat_three {c:CalZ}(cut:CutOk c)(p:Int):((p - 1)%3=0∧pat c p=pat c 1)∨((p - 1)%3=1∧pat c p=pat c 2)∨((p - 1)%3=2∧pat c p=pat c 3):=by
 have h:(p - 1)%3=0∨(p - 1)%3=1∨(p - 1)%3=2:=by omega
 unfold pat
 rcases h with h|h|h
 ·refine .inl ⟨h,?_⟩
  rw [if_pos h,if_pos (show ((1:Int) - 1)%3=0 by decide)]
 ·refine .inr (.inl ⟨h,?_⟩)
  rw [if_neg (show ¬ (p - 1)%3=0 by omega),if_pos h,if_neg (show ¬ ((2:Int) - 1)%3=0 by decide),if_pos (show ((2:Int) - 1)%3=1 by decide)]
 ·refine .inr (.inr ⟨h,?_⟩)
  rw [if_neg (show ¬ (p - 1)%3=0 by omega),if_neg (show ¬ (p - 1)%3=1 by omega),if_neg (show ¬ ((3:Int) - 1)%3=0 by decide),if_neg (show ¬ ((3:Int) - 1)%3=1 by decide)]

set_option maxRecDepth 100000 in
theorem weeksOf_any (c:CalZ)(y p v:Int)(w:World)(ok:CalOk c)(k6:c.k≠6)(cut:CutOk c)(y0:1601≤y)(y1:y≤9997)(p0:1≤p)(p1:p≤per c)(hv:v=wkp c y p)(hm:c.nm.size≤maxLen)(T:FTab w) :
  Calls Tryz.prog 175 #[.agg #[.string c.nm,.int .i64 c.k,.int .i64 c.d,.int .i64 c.m,.int .i64 c.s,.int .i64 c.sh,.int .i64 c.p0,.int .i64 c.p1,.int .i64 c.p2,.int .i64 c.cy,.int .i64 c.ex,.int .i64 c.fi,.int .i64 c.la,.int .i64 c.po],.int .i64 y,.int .i64 p] w fun e w'=>e= .returned (.int .i64 v)∧Below w.heap.size w w':=by
 have C:=CalIn.new w c 24
 have B:=balloc (Below.refl _ w) (.cells #[.string c.nm,.int .i64 c.k,.int .i64 c.d,.int .i64 c.m,.int .i64 c.s,.int .i64 c.sh,.int .i64 c.p0,.int .i64 c.p1,.int .i64 c.p2,.int .i64 c.cy,.int .i64 c.ex,.int .i64 c.fi,.int .i64 c.la,.int .i64 c.po] 24)
 replace T:=T.alloc (.cells #[.string c.nm,.int .i64 c.k,.int .i64 c.d,.int .i64 c.m,.int .i64 c.s,.int .i64 c.sh,.int .i64 c.p0,.int .i64 c.p1,.int .i64 c.p2,.int .i64 c.cy,.int .i64 c.ex,.int .i64 c.fi,.int .i64 c.la,.int .i64 c.po] 24)
 obtain ⟨x0,h0⟩:∃ x,x=pat c 1:=⟨_,rfl⟩
 obtain ⟨x1,h1⟩:∃ x,x=pat c 2:=⟨_,rfl⟩
 obtain ⟨x2,h2⟩:∃ x,x=pat c 3:=⟨_,rfl⟩
 have cp:=fun w=>patternOf_any c x0 x1 x2 w cut h0 h1 h2
 have pb:=per_bd ok.1
 have nw:=(nweeks_01 ok.1 k6 y0 (by omega)).1
 obtain ⟨N,hN⟩:∃ N,N=nweeks c y:=⟨_,rfl⟩
 rw [← hN] at nw
 have cw:=fun w T=>Weeks_any c y N 0 w (.inl ⟨ok,k6,y0,y1,hN,rfl⟩) hm T
 have ps:=(pend_step ok.1 y0 y1 p0 p1)
 have x4:∀ q,1≤q→q≤12→1≤pat c q∧pat c q≤5:=fun q q0 q1=>by
  rcases pend_step (y:=y) ok.1 y0 y1 q0 (by omega) with ⟨a,_⟩|⟨a,_⟩|⟨_,_,_,_,a⟩
  ·exfalso;rcases cut_cases cut with h|h|h|h|h<;>omega
  ·exfalso;rcases cut_cases cut with h|h|h|h|h<;>omega
  ·exact a
 have b0:=x4 1 (by omega) (by omega)
 have b1:=x4 2 (by omega) (by omega)
 have b2:=x4 3 (by omega) (by omega)
 rw [← h0] at b0
 rw [← h1] at b1
 rw [← h2] at b2
 have O:∃ x r,x=pat c p∧((r=0∧x=x0)∨(r=1∧x=x1)∨(r=2∧x=x2))∧(p - 1)%3=r:=by
  rcases pat_three cut p with ⟨a,b⟩|⟨a,b⟩|⟨a,b⟩
  ·exact ⟨_,0,rfl,.inl ⟨rfl,by rw [b,h0]⟩,a⟩
  ·exact ⟨_,1,rfl,.inr (.inl ⟨rfl,by rw [b,h1]⟩),a⟩
  ·exact ⟨_,2,rfl,.inr (.inr ⟨rfl,by rw [b,h2]⟩),a⟩
 obtain ⟨x,r,hx,hr,hpr⟩:=O
 have V:(p=c.ex∧v=x+(N - 52))∨(p≠c.ex∧v=x):=by
  rw [hv];unfold wkp;rw [← hx,← hN]
  by_cases q:p=c.ex
  ·rw [if_pos q];exact .inl ⟨q,rfl⟩
  ·rw [if_neg q];exact .inr ⟨q,by omega⟩
 clear hv hN cut ok ps x4 h0 h1 h2 hx
 have p2:p≤52:=by omega
 clear pb p1
 rcases hr with ⟨rfl,hx⟩|⟨rfl,hx⟩|⟨rfl,hx⟩
 all_goals
  replace hx:=hx.symm
  subst hx
  rcases V with ⟨q,rfl⟩|⟨q,hv⟩
  ·have dq:(p==c.ex)=true:=by rw [q];simp
   clear q
   go_enter Tryz.func175,Tryz.ntmps175
   go_upto_region 1 with fail
   generalize w.alloc (.cells #[.string c.nm,.int .i64 c.k,.int .i64 c.d,.int .i64 c.m,.int .i64 c.s,.int .i64 c.sh,.int .i64 c.p0,.int .i64 c.p1,.int .i64 c.p2,.int .i64 c.cy,.int .i64 c.ex,.int .i64 c.fi,.int .i64 c.la,.int .i64 c.po] 24)=W0 at *
   obtain ⟨_,c0,c1,c2,c3,c4,c5,c6,c7,c8,c9,c10,c11,c12,c13⟩:=id C
   go_wp2_with fail
   refine (cp _).mono ?_
   rintro e w1 ⟨rfl,hb⟩
   replace C:=C.kept hb
   replace B:=bthen B hb
   replace T:=T.kept hb
   clear hb c0 c1 c2 c3 c4 c5 c6 c7 c8 c9 c10 c11 c12 c13
   obtain ⟨_,c0,c1,c2,c3,c4,c5,c6,c7,c8,c9,c10,c11,c12,c13⟩:=id C
   replace C:=C.alloc (.cells #[.int .i64 x0,.int .i64 x1,.int .i64 x2] 22)
   have X:=Tri.new w1 (.int .i64 x0) (.int .i64 x1) (.int .i64 x2) 22
   replace B:=balloc B (.cells #[.int .i64 x0,.int .i64 x1,.int .i64 x2] 22)
   replace T:=T.alloc (.cells #[.int .i64 x0,.int .i64 x1,.int .i64 x2] 22)
   clear c0 c1 c2 c3 c4 c5 c6 c7 c8 c9 c10 c11 c12 c13
   obtain ⟨_,c0,c1,c2,c3,c4,c5,c6,c7,c8,c9,c10,c11,c12,c13⟩:=id C
   obtain ⟨_,t0,t1,t2,_,_,_⟩:=X
   go_wp2_with fail
   refine (cw _ T).mono ?_
   rintro e w2 ⟨rfl,hb⟩
   replace C:=C.kept hb
   replace B:=bthen B hb
   replace T:=T.kept hb
   clear hb c0 c1 c2 c3 c4 c5 c6 c7 c8 c9 c10 c11 c12 c13
   obtain ⟨_,c0,c1,c2,c3,c4,c5,c6,c7,c8,c9,c10,c11,c12,c13⟩:=id C
   go_wp2
   go_ret
   exact ⟨rfl,B⟩
  ·have dq:(p==c.ex)=false:=beq_eq_false_iff_ne.2 q
   replace hv:=hv.symm
   subst hv
   clear q
   go_enter Tryz.func175,Tryz.ntmps175
   go_upto_region 1 with fail
   generalize w.alloc (.cells #[.string c.nm,.int .i64 c.k,.int .i64 c.d,.int .i64 c.m,.int .i64 c.s,.int .i64 c.sh,.int .i64 c.p0,.int .i64 c.p1,.int .i64 c.p2,.int .i64 c.cy,.int .i64 c.ex,.int .i64 c.fi,.int .i64 c.la,.int .i64 c.po] 24)=W0 at *
   obtain ⟨_,c0,c1,c2,c3,c4,c5,c6,c7,c8,c9,c10,c11,c12,c13⟩:=id C
   go_wp2_with fail
   refine (cp _).mono ?_
   rintro e w3 ⟨rfl,hb⟩
   replace C:=C.kept hb
   replace B:=bthen B hb
   replace T:=T.kept hb
   clear hb c0 c1 c2 c3 c4 c5 c6 c7 c8 c9 c10 c11 c12 c13
   obtain ⟨_,c0,c1,c2,c3,c4,c5,c6,c7,c8,c9,c10,c11,c12,c13⟩:=id C
   replace C:=C.alloc (.cells #[.int .i64 x0,.int .i64 x1,.int .i64 x2] 22)
   have X:=Tri.new w3 (.int .i64 x0) (.int .i64 x1) (.int .i64 x2) 22
   replace B:=balloc B (.cells #[.int .i64 x0,.int .i64 x1,.int .i64 x2] 22)
   clear c0 c1 c2 c3 c4 c5 c6 c7 c8 c9 c10 c11 c12 c13
   obtain ⟨_,c0,c1,c2,c3,c4,c5,c6,c7,c8,c9,c10,c11,c12,c13⟩:=id C
   obtain ⟨_,t0,t1,t2,_,_,_⟩:=X
   go_wp2
   go_ret
   exact ⟨rfl,B⟩

end Go.Proofs.YtoilomigceijaaaGreatDoor.Hp

namespace Go.Proofs.YtoilomigceijaaaGreatDoor.Hp
open Go.RowKit Go.Shelf Bx
attribute [local go_sem] Oper.semAt_some

theorem cnew (w:World)(v:Value)(t:TypeId):(w.alloc (.cells #[v] t)).cell? ⟨w.heap.size,0,none⟩=some v∧(w.alloc (.cells #[v] t)).frozen? ⟨w.heap.size,0,none⟩=false:=⟨by simp [go_sem],by simp [go_sem]⟩
theorem calloc {w:World}{a:Addr}{v:Value}(o:Obj)(h:w.cell? a=some v):(w.alloc o).cell? a=some v:=by
 exact (((Below.refl _ w).alloc (Nat.le_refl _) o).cell (p:=a) (World.block_lt_of_cell? _ _ h)).trans h

def KeepB (B:Nat)(W W':World):Prop:=W'.heap[B]?=W.heap[B]?
theorem keepB_b {B:Nat}{w:World}(hB:B<w.heap.size)(W:World)(l:Nat)(o o':Obj)(hl:w.heap.size≤l)(_:W.heap[l]?=some o)(_:o.isCells=false)(_:o.isWalk=false):KeepB B W (W.putObj l o'):=World.putObj_heap_other (by omega)
theorem keepB_set {B g n:Nat}(W:World)(x:Value)(h:B≠g):KeepB B W (W.setCell ⟨g,n,none⟩ x):=by
 have h':¬ g=B:=fun e=>h e.symm
 unfold KeepB World.setCell
 simp [Array.getElem?_modify,h']

set_option maxRecDepth 100000 in
set_option maxHeartbeats 2000000 in
theorem weeks_in (F:Fence)(n:Nat)(h:F.fn 176)(hro:F.round=none)(a b:Int)(w:World) :
  CallsIn F n Tryz.prog 176 #[.int .i64 a,.int .i64 b] w fun e W' =>
   e= .returned (.func (.func 188) #[] #[.pointer (some ⟨w.heap.size,0,none⟩),.pointer (some ⟨w.heap.size+1,0,none⟩)])∧W'=(w.alloc (.cells #[.int .i64 a] 3)).alloc (.cells #[.int .i64 b] 3):=by
 refine callsIn_of_wp Tryz.func176 rfl h ?_ hro
 simp only [Tryz.ntmps176,List.size_toArray,List.length_cons,List.length_nil,Nat.reduceAdd,Nat.reduceSub,Array.replicate_succ,Array.replicate_zero,List.push_toArray,List.append_toArray,List.nil_append,List.cons_append]
 gi_wp2
 refine bodyPost_ret (results_tmp rfl _ _ _) rfl ?_
 exact ⟨by simp,by simp⟩

set_option maxRecDepth 100000 in
set_option maxHeartbeats 2000000 in
theorem weeks1_in (F:Fence)(n:Nat)(h:F.fn 188)(hro:F.round=none)(hn:1≤n)(l Ba Bb N:Nat)(a b:Int)(hN:(N:Int)=(b - a+7) / 7)(a0:0≤a)(ab:a≤b)(b1:b≤3068036)(J Jx:List Int→World→Prop)
  (hY:∀ pre x W,J pre W→pre.length<N→YieldAt F (n - 1) Tryz.prog l #[.int .i64 x] W fun e W' =>
   (e= .returned (.bool true)∧J (pre++[x]) W'∧KeepB Bb W W')∨(e= .returned (.bool false)∧Jx (pre++[x]) W'))
  (W:World) (ha:W.cell? ⟨Ba,0,none⟩=some (.int .i64 a)) (hb:W.cell? ⟨Bb,0,none⟩=some (.int .i64 b)) (h0:J [] W) :
  CallsIn F n Tryz.prog 188 #[.func (.yield l) #[] #[],.pointer (some ⟨Ba,0,none⟩),.pointer (some ⟨Bb,0,none⟩)] W fun e W'=>(∃ v,e= .returned v)∧
   ((∃ xs:List Int,xs.length=N∧J xs W')∨(∃ pre,True∧Jx pre W')):=by
 refine callsIn_of_wp Tryz.func188 rfl h ?_ hro
 simp only [Tryz.ntmps188,List.size_toArray,List.length_cons,List.length_nil,Nat.reduceAdd,Nat.reduceSub,Array.replicate_succ,Array.replicate_zero,List.push_toArray,List.append_toArray,List.nil_append,List.cons_append]
 gi_wp2
 gi_loopw [4] (fun p wr=>∃ pre:List Int,p= .int .i64 (a+7*pre.length)∧pre.length≤N∧wr.cell? ⟨Bb,0,none⟩=some (.int .i64 b)∧J pre wr) (fun p wr=>(b+8 - intOf p).toNat)
 case atStart=>exact ⟨[],by simp,by simp,hb,h0⟩
 case round =>
  obtain ⟨pre,rfl,hl,hc,hJ⟩:=hrel
  obtain ⟨k,hk⟩:∃ k:Int,k=pre.length:=⟨_,rfl⟩
  rw [← hk]
  have HK:=Lib.hid hk
  have kn:pre.length<N↔a+7*k≤b:=by omega
  have kN:(k:Int)≤N:=by omega
  clear hk
  by_cases hlt:pre.length<N
  ·obtain ⟨fn,tmps,assign,body,hy,hR⟩:=hY pre (a+7*k) wr hJ hlt
   have c1:a+7*k≤b:=kn.1 hlt
   have c0:0≤k:=by have:=HK.out;omega
   gi_wp2
   refine hR.mono ?_
   rintro e W3 (⟨rfl,hJ3,hk3⟩|⟨rfl,hJx3⟩)
   ·have hc3:W3.cell? ⟨Bb,0,none⟩=some (.int .i64 b):=(show W3.cell? ⟨Bb,0,none⟩=wr.cell? ⟨Bb,0,none⟩ from World.cell?_of_block (w:=wr) (show W3.heap[(⟨Bb,0,none⟩:Addr).block]?=wr.heap[(⟨Bb,0,none⟩:Addr).block]? from hk3)).trans hc
    gi_wp2
    go_roundw
    case rel=>exact ⟨pre++[a+7*k],by have:=HK.out;simp [← this];omega,by simp;omega,hc3,hJ3⟩
    case measure=>simp [intOf];omega
   ·gi_wp2
    refine bodyPost_ret (results_none rfl _ _ _) rfl ?_
    exact ⟨⟨_,rfl⟩,.inr ⟨_,trivial,hJx3⟩⟩
  ·have c1:b<a+7*k:=by omega
   have c0:0≤k:=by have:=HK.out;omega
   gi_wp2
   go_end0
   exact ⟨⟨_,rfl⟩,.inl ⟨pre,by omega,hJ⟩⟩

theorem weeks_stops (F:Fence)(n:Nat)(h:F.fn 188)(hro:F.round=none)(hn:1≤n)(Ba Bb N:Nat)(a b:Int)(hN:(N:Int)=(b - a+7) / 7)(a0:0≤a)(ab:a≤b)(b1:b≤3068036)
  (w:World) (hBa:Ba<w.heap.size) (hBb:Bb<w.heap.size) (ha:w.cell? ⟨Ba,0,none⟩=some (.int .i64 a)) (hb:w.cell? ⟨Bb,0,none⟩=some (.int .i64 b)) :
  SeqStopsK F n Tryz.prog 188 #[.pointer (some ⟨Ba,0,none⟩),.pointer (some ⟨Bb,0,none⟩)] (fun x:Int=>#[.int .i64 x]) (KeepB Bb) (fun xs=>xs.length=N) (fun _=>True) N w :=
 fun l J Jx W hB _ _ hY h0=>weeks1_in F n h hro hn l Ba Bb N a b hN a0 ab b1 J Jx hY W ((hB.cell (p:=⟨Ba,0,none⟩) hBa).trans ha) ((hB.cell (p:=⟨Bb,0,none⟩) hBb).trans hb) h0

set_option maxRecDepth 100000 in
set_option maxHeartbeats 2000000 in
theorem count_in (F:Fence)(n:Nat)(h3:F.fn 164)(h5:F.fn 176)(h6:F.fn 188)(hro:F.round=none)(hn:3≤n)(a b:Int)(N:Nat)(hN:(N:Int)=(b - a+7) / 7)(a0:0≤a)(ab:a≤b)(b1:b≤3068036)(w:World) :
  CallsIn F n Tryz.prog 164 #[.int .i64 a,.int .i64 b] w fun e W'=>e= .returned (.int .i64 N)∧Below w.heap.size w W':=by
 have h1:1≤n:=by omega
 refine callsIn_of_wp_marks Tryz.func164 rfl h3 ?_ hro
 simp only [Tryz.ntmps164,List.size_toArray,List.length_cons,List.length_nil,Nat.reduceAdd,Nat.reduceSub,Array.replicate_succ,Array.replicate_zero,List.push_toArray,List.append_toArray,List.nil_append,List.cons_append]
 gi_wp2_with (gi_at_call 176;refine (weeks_in F (n - 1) h5 hro a b _).mono ?_;rintro e w' ⟨rfl,rfl⟩)
 have hs:=cnew w (.int .i64 0) 3
 have ha:=cnew (w.alloc (.cells #[.int .i64 0] 3)) (.int .i64 a) 3
 have hb:=cnew ((w.alloc (.cells #[.int .i64 0] 3)).alloc (.cells #[.int .i64 a] 3)) (.int .i64 b) 3
 simp only [World.size_alloc] at ha hb
 have hB0:Below w.heap.size w (((w.alloc (.cells #[.int .i64 0] 3)).alloc (.cells #[.int .i64 a] 3)).alloc (.cells #[.int .i64 b] 3)):=balloc (balloc (balloc (Below.refl _ w) _) _) _
 refine wpIn_rangeFunc_ownF hro h1 (gf:=188) (lb:=#[.pointer (some ⟨w.heap.size+1,0,none⟩),.pointer (some ⟨w.heap.size+1+1,0,none⟩)]) rfl h6 (enters_of Tryz.func188 (by kernel_rfl) rfl)
  (weeks_stops F (n - 1) h6 hro (by omega) (w.heap.size+1) (w.heap.size+1+1) N a b hN a0 ab b1 _ (by simp) (by simp) (calloc _ ha.1) hb.1) (fun h k=>k.trans h) (keepB_b (by simp)) (Below.refl _ _) (fun _=>rfl)
  (fun pre W=>(W.cell? ⟨w.heap.size,0,none⟩=some (.int .i64 (pre.length:Int))∧W.frozen? ⟨w.heap.size,0,none⟩=false)∧Below w.heap.size w W)
  (fun _ _ _=>False)
  (OwnFrom.and (Own.from (fun s A B row hs hg hr=>⟨cell_kept hs.1 hg hr,(frozen_kept hs.1 hg hr).trans hs.2⟩) _) (ownFrom_below (Nat.le_refl _) (by simp;omega)))
  (fun _ _ _ _ _ hs _ _=>hs)
  ⟨⟨by simp [calloc _ (calloc _ hs.1)],by simp [go_sem]⟩,hB0⟩
  (fun x=>{ tmps:=#[.int .i64 a,.int .i64 b,undef,undef,.int .i64 0,.pointer (some ⟨w.heap.size,0,none⟩),.int .i64 a,.int .i64 b,.func (.func 188) #[] #[.pointer (some ⟨w.heap.size+1,0,none⟩),.pointer (some ⟨w.heap.size+1+1,0,none⟩)],.int .i64 x,undef,undef,undef],defers:=[] }) ?assign ?body ?done ?stop
 case assign =>
  intro l x W K hK
  gi_wp2
  first|exact hK|simpa using hK
 case body =>
  rintro l pre x W ⟨⟨hc,hf⟩,hB⟩ hlt
  have p0:(0:Int)≤(pre.length:Int):=by omega
  have pN:(pre.length:Int)<N:=by omega
  have nN:(N:Int)≤3068036:=by omega
  gi_wp2
  exact ⟨KeepsOthers.setCell _ _ _,keepB_set _ _ (by omega),⟨by rw [World.cell?_setCell_same' _ _ _ (by rw [hc];rfl)];simp,by rw [World.frozen?_setCell];exact hf⟩,hB.setCell (p:=⟨w.heap.size,0,none⟩) (Nat.le_refl _) _⟩
 case done =>
  rintro D ys W hD hl ⟨⟨hc,_⟩,hB⟩ hK
  rw [hl] at hc
  have hN':=Lib.hid hN
  clear hN hl
  obtain ⟨v,hv⟩:∃ v:Int,v=N:=⟨_,rfl⟩
  rw [← hv] at hc
  have hv':=Lib.hid hv
  clear hv
  gi_wp2
  refine ⟨by simp,.inl ⟨_,_,rfl,run_takeDeferred hK,?_⟩⟩
  exact ⟨_,results_tmp rfl _ _ _,by rw [← hv'.out];rfl,hB.trans (belowK_b (w:=w) (Nat.le_refl _) W D _ _ (by simp at hD;omega) hK rfl rfl)⟩
 case stop =>
  rintro D c pre W _ _ h _
  exact h.elim

theorem count_any (a b v:Int)(w:World)(hv:v=(b - a+7) / 7)(a0:0≤a)(ab:a≤b)(b1:b≤3068036) :
  Calls Tryz.prog 164 #[.int .i64 a,.int .i64 b] w fun e w'=>e= .returned (.int .i64 v)∧Below w.heap.size w w':=by
 have:=callsIn_wide.1 (count_in Fence.wide 3 trivial trivial trivial rfl (Nat.le_refl _) a b v.toNat (by omega) a0 ab b1 w)
 rwa [show ((v.toNat:Nat):Int)=v by omega] at this

end Go.Proofs.YtoilomigceijaaaGreatDoor.Hp

namespace Go.Proofs.YtoilomigceijaaaGreatDoor.Hp
open Go.RowKit Bn Bx Cp Am Fp Ap Cm Em Ep Rk

set_option maxHeartbeats 1000000

set_option maxRecDepth 100000 in
theorem pendOf_any (c:CalZ)(y p a v:Int)(w:World)(ok:CalOk c)(y0:1601≤y)(y1:y≤9997)(p0:1≤p)(p1:p≤per c)(ha:a=pend c y (p - 1)+1)(hv:v=pend c y p)(hm:c.nm.size≤maxLen)(T:FTab w) :
  Calls Tryz.prog 163 #[.agg #[.string c.nm,.int .i64 c.k,.int .i64 c.d,.int .i64 c.m,.int .i64 c.s,.int .i64 c.sh,.int .i64 c.p0,.int .i64 c.p1,.int .i64 c.p2,.int .i64 c.cy,.int .i64 c.ex,.int .i64 c.fi,.int .i64 c.la,.int .i64 c.po],.int .i64 y,.int .i64 p,.int .i64 a] w fun e w'=>e= .returned (.int .i64 v)∧Below w.heap.size w w':=by
 have C:=CalIn.new w c 24
 have B:=balloc (Below.refl _ w) (.cells #[.string c.nm,.int .i64 c.k,.int .i64 c.d,.int .i64 c.m,.int .i64 c.s,.int .i64 c.sh,.int .i64 c.p0,.int .i64 c.p1,.int .i64 c.p2,.int .i64 c.cy,.int .i64 c.ex,.int .i64 c.fi,.int .i64 c.la,.int .i64 c.po] 24)
 replace T:=T.alloc (.cells #[.string c.nm,.int .i64 c.k,.int .i64 c.d,.int .i64 c.m,.int .i64 c.s,.int .i64 c.sh,.int .i64 c.p0,.int .i64 c.p1,.int .i64 c.p2,.int .i64 c.cy,.int .i64 c.ex,.int .i64 c.fi,.int .i64 c.la,.int .i64 c.po] 24)
 have bd:=pend_bd ok.1 y0 y1 (p:=p - 1) (by omega) (by omega)
 have bv:=pend_bd ok.1 y0 y1 (p:=p) (by omega) (by omega)
 have st:=(step_bd ok.1 y0 y1 p0 p1).1
 rw [← hv] at bv st
 have ad:pend c y (p - 1)=a - 1:=by omega
 rw [ad] at bd st
 obtain ⟨a0,a1⟩:=bd
 obtain ⟨v0,v1⟩:=bv
 have pp:p≤52:=by have:=per_bd ok.1;omega
 rcases pend_step ok.1 y0 y1 p0 p1 with ⟨s4,_,e⟩|⟨s5,e,f⟩|⟨n4,n5,k6,e,x0,x1⟩
 ·have d4:(c.sh==4)=true:=by rw [s4];rfl
  have pe:p≤12:=by
   rcases shape_cases ok.1 with h|h|⟨_,_,h⟩
   ·omega
   ·omega
   ·rcases cut_cases h with h|h|h|h|h<;>omega
  have cl:=fun w T=>Ep.Last_any y p 7 v 0 w (.inl ⟨⟨by omega,by omega,p0,pe⟩,by omega,by omega,by rw [hv,e],rfl⟩) T
  clear ok hv ha e s4 ad st
  go_enter Tryz.func163,Tryz.ntmps163
  go_upto_region 1 with fail
  generalize w.alloc (.cells #[.string c.nm,.int .i64 c.k,.int .i64 c.d,.int .i64 c.m,.int .i64 c.s,.int .i64 c.sh,.int .i64 c.p0,.int .i64 c.p1,.int .i64 c.p2,.int .i64 c.cy,.int .i64 c.ex,.int .i64 c.fi,.int .i64 c.la,.int .i64 c.po] 24)=W0 at *
  obtain ⟨_,c0,c1,c2,c3,c4,c5,c6,c7,c8,c9,c10,c11,c12,c13⟩:=id C
  go_wp2_with fail
  refine (cl _ T.civ).mono ?_
  rintro e w1 ⟨rfl,hb⟩
  replace C:=C.kept hb
  replace B:=bthen B hb
  replace T:=T.kept hb
  clear hb c0 c1 c2 c3 c4 c5 c6 c7 c8 c9 c10 c11 c12 c13
  obtain ⟨_,c0,c1,c2,c3,c4,c5,c6,c7,c8,c9,c10,c11,c12,c13⟩:=id C
  go_wp2
  go_ret
  exact ⟨rfl,B⟩
 ·have d4:(c.sh==4)=false:=by rw [s5];rfl
  have d5:(c.sh==5)=true:=by rw [s5];rfl
  obtain ⟨Y,hY⟩:∃ Y,Y=mon c y p / 12:=⟨_,rfl⟩
  obtain ⟨M,hM⟩:∃ M,M=mon c y p%12+1:=⟨_,rfl⟩
  obtain ⟨L,hL⟩:∃ L,L=mlen Y M:=⟨_,rfl⟩
  rw [← hY,← hM] at e f
  rw [← hv,ad,← hL] at e
  rw [ad] at f
  have kb:=kind_bd ok.1
  have pe:p≤12:=by
   rcases shape_cases ok.1 with h|h|⟨_,_,h⟩
   ·omega
   ·omega
   ·rcases cut_cases h with h|h|h|h|h<;>omega
  have ml:=mlen_bd Y M
  have mo:MonthOk Y M:=by subst hY hM;unfold mon;exact ⟨by omega,by omega,by omega,by omega⟩
  have co:=fun w T=>Of_b a Y M 1 0 w (.inl ⟨by omega,by omega,⟨mo,by omega,by omega⟩,by omega,rfl⟩) T
  have cl:=fun w T=>Length_b Y M L 0 w (.inl ⟨mo,hL,rfl⟩) T
  rw [← hL] at ml
  obtain ⟨m0,m1⟩:=ml
  obtain rfl:v=a+L - 1:=by omega
  clear ok hv ha e f s5 hY hM hL mo kb ad st
  go_enter Tryz.func163,Tryz.ntmps163
  go_upto_region 1 with fail
  generalize w.alloc (.cells #[.string c.nm,.int .i64 c.k,.int .i64 c.d,.int .i64 c.m,.int .i64 c.s,.int .i64 c.sh,.int .i64 c.p0,.int .i64 c.p1,.int .i64 c.p2,.int .i64 c.cy,.int .i64 c.ex,.int .i64 c.fi,.int .i64 c.la,.int .i64 c.po] 24)=W0 at *
  obtain ⟨_,c0,c1,c2,c3,c4,c5,c6,c7,c8,c9,c10,c11,c12,c13⟩:=id C
  go_wp2_with fail
  refine (co _ T.civ).mono ?_
  rintro e w2 ⟨rfl,hb⟩
  replace C:=C.kept hb
  replace B:=bthen B hb
  replace T:=T.kept hb
  clear hb c0 c1 c2 c3 c4 c5 c6 c7 c8 c9 c10 c11 c12 c13
  obtain ⟨_,c0,c1,c2,c3,c4,c5,c6,c7,c8,c9,c10,c11,c12,c13⟩:=id C
  replace C:=C.alloc (.cells #[.int .i64 Y,.int .i64 M,.int .i64 1] 104)
  have X:=Tri.new w2 (.int .i64 Y) (.int .i64 M) (.int .i64 1) 104
  replace B:=balloc B (.cells #[.int .i64 Y,.int .i64 M,.int .i64 1] 104)
  replace T:=T.alloc (.cells #[.int .i64 Y,.int .i64 M,.int .i64 1] 104)
  obtain ⟨_,t0,t1,t2,_,_,_⟩:=X
  clear c0 c1 c2 c3 c4 c5 c6 c7 c8 c9 c10 c11 c12 c13
  obtain ⟨_,c0,c1,c2,c3,c4,c5,c6,c7,c8,c9,c10,c11,c12,c13⟩:=id C
  go_wp2_with fail
  refine (cl _ T.civ).mono ?_
  rintro e w3 ⟨rfl,hb⟩
  replace C:=C.kept hb
  replace B:=bthen B hb
  replace T:=T.kept hb
  clear hb c0 c1 c2 c3 c4 c5 c6 c7 c8 c9 c10 c11 c12 c13
  obtain ⟨_,c0,c1,c2,c3,c4,c5,c6,c7,c8,c9,c10,c11,c12,c13⟩:=id C
  go_wp2
  go_ret
  exact ⟨rfl,B⟩
 ·have d4:(c.sh==4)=false:=beq_eq_false_iff_ne.2 n4
  have d5:(c.sh==5)=false:=beq_eq_false_iff_ne.2 n5
  have cut:CutOk c:=by
   rcases shape_cases ok.1 with h|h|⟨_,_,h⟩
   ·omega
   ·omega
   ·exact h
  obtain ⟨x,hx⟩:∃ x,x=wkp c y p:=⟨_,rfl⟩
  have cw:=fun w T=>weeksOf_any c y p x w ok k6 cut y0 y1 p0 p1 hx hm T
  rw [← hx,← hv,ad] at e
  have x8:0≤x∧x≤1000000:=by omega
  obtain ⟨x8,x9⟩:=x8
  obtain rfl:v=a+x*7 - 1:=by omega
  clear ok hv ha e hx cut n4 n5 ad st
  go_enter Tryz.func163,Tryz.ntmps163
  go_upto_region 1 with fail
  generalize w.alloc (.cells #[.string c.nm,.int .i64 c.k,.int .i64 c.d,.int .i64 c.m,.int .i64 c.s,.int .i64 c.sh,.int .i64 c.p0,.int .i64 c.p1,.int .i64 c.p2,.int .i64 c.cy,.int .i64 c.ex,.int .i64 c.fi,.int .i64 c.la,.int .i64 c.po] 24)=W0 at *
  obtain ⟨_,c0,c1,c2,c3,c4,c5,c6,c7,c8,c9,c10,c11,c12,c13⟩:=id C
  go_wp2_with fail
  refine (cw _ T).mono ?_
  rintro e w4 ⟨rfl,hb⟩
  replace C:=C.kept hb
  replace B:=bthen B hb
  replace T:=T.kept hb
  clear hb c0 c1 c2 c3 c4 c5 c6 c7 c8 c9 c10 c11 c12 c13
  obtain ⟨_,c0,c1,c2,c3,c4,c5,c6,c7,c8,c9,c10,c11,c12,c13⟩:=id C
  go_wp2
  go_ret
  exact ⟨rfl,B⟩

end Go.Proofs.YtoilomigceijaaaGreatDoor.Hp

