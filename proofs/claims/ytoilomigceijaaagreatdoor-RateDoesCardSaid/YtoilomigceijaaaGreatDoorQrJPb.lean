/- Texts that are joined: Pday, Prow. -/
import Derived.Test.YtoilomigceijaaaGreatDoorQrJD
import Derived.Test.YtoilomigceijaaaGreatDoorQrSmath
import Derived.Test.YtoilomigceijaaaGreatDoorQrJK
set_option linter.unusedSimpArgs false
set_option linter.unusedVariables false
namespace Go.Proofs.YtoilomigceijaaaGreatDoor.Am
open Cm Em Rk Sm

def ufst (c:CalZ)(L:Int)(u:Int×Int)(k:Nat):Int:=uend c (itu c L u k).1 L ((itu c L u k).2 - 1)+1
def ulst (c:CalZ)(L:Int)(u:Int×Int)(k:Nat):Int:=uend c (itu c L u k).1 L (itu c L u k).2
def pfst (c:CalZ)(L a:Int)(u:Int×Int)(k:Nat):Int:=if ufst c L u k<a then a else ufst c L u k
def plst (c:CalZ)(L b:Int)(u:Int×Int)(k:Nat):Int:=if b<ulst c L u k then b else ulst c L u k
def pday (c:CalZ)(L a b:Int)(u:Int×Int)(k:Nat):Int:=plst c L b u k - pfst c L a u k+1

structure Cut (c:CalZ) (L a b y0 i0 y n:Int) (N:Nat):Prop where
 way:UWay c L y0 i0 y n N
 da:DayA c a L L y0 i0 0
 db:DayA c b L L y n 0
 ab:a≤b
section
variable {c:CalZ} {L a b y0 i0 y n:Int} {N k:Nat}
theorem UWay.next (h:UWay c L y0 i0 y n N)(k:Nat)(hk:k<N):ufst c L (y0,i0) (k+1)=ulst c L (y0,i0) k+1:=by
 have u:=(h.ok k (by omega)).1
 have nx:=(h.nx k hk).1
 obtain ⟨⟨p,q⟩,hpq⟩:∃ s,itu c L (y0,i0) k=s:=⟨_,rfl⟩
 have e:itu c L (y0,i0) (k+1)=nxu c L (p,q):=by show nxu c L (itu c L (y0,i0) k)=_;rw [hpq]
 unfold ufst ulst
 rw [hpq] at u nx ⊢
 rw [e] at nx ⊢
 simp only at u nx ⊢
 rcases next_ex u with ⟨t,_,_,e2⟩|⟨t,_,_,_,e2⟩|⟨t,t2,D⟩
 ·unfold nxu
  rw [if_pos (show (p,q).2<ucount c (p,q).1 L from t)]
  simp only
  rw [e2]
 ·unfold nxu
  rw [if_neg (show ¬ (p,q).2<ucount c (p,q).1 L by simp only;omega)]
  simp only
  rw [e2]
 ·exfalso
  rcases nx with ⟨_,D2⟩|⟨no,_⟩
  ·have d:=daya_to D2
   have yy:=unit_year d.1 d.2.1 d.2.2.1
   have s2:=d.1.2.2.1
   have st:=served_told u.1 u.2.2.1
   have z1:=uend_last (c:=c) (L:=L) (y:=p) u.1.1 (by omega) (by omega) u.2.1
   have z2:=pend_last (c:=c) (y:=p) u.1.1 (by omega) (by omega)
   rw [← t] at z1
   have s3:=s2.2
   by_cases e3:(nxu c L (p,q)).1=p
   ·rw [e3] at yy;omega
   ·have:=yend_lt (c:=c) u.1.1 (a:=(nxu c L (p,q)).1) (b:=p) (by omega) (by omega) (by omega)
    omega
  ·exact no u
theorem UWay.long (h:UWay c L y0 i0 y n N)(k:Nat)(hk:k≤N):ufst c L (y0,i0) k≤ulst c L (y0,i0) k∧0≤ufst c L (y0,i0) k∧ulst c L (y0,i0) k≤3068036:=by
 have u:=(h.ok k hk).1
 obtain ⟨ok,l,s,i0',i1⟩:=u
 have st:=served_told ok s
 have t:=uend_step (c:=c) (L:=L) (y:=(itu c L (y0,i0) k).1) (i:=(itu c L (y0,i0) k).2 - 1) ok.1 (by omega) (by omega) l (by omega) (by omega)
 rw [show (itu c L (y0,i0) k).2 - 1+1=(itu c L (y0,i0) k).2 by omega] at t
 have b0:=uend_bd (c:=c) (L:=L) (y:=(itu c L (y0,i0) k).1) (i:=(itu c L (y0,i0) k).2 - 1) ok.1 (by omega) (by omega) l (by omega) (by omega)
 have b1:=uend_bd (c:=c) (L:=L) (y:=(itu c L (y0,i0) k).1) (i:=(itu c L (y0,i0) k).2) ok.1 (by omega) (by omega) l (by omega) (by omega)
 unfold ufst ulst
 omega
theorem UWay.rise (h:UWay c L y0 i0 y n N){j k:Nat}(hj:j≤k)(hk:k≤N):ulst c L (y0,i0) j+((k:Int) - j)≤ulst c L (y0,i0) k:=by
 induction k with
 | zero=>obtain rfl:j=0:=by omega
         omega
 | succ k ih =>
   by_cases e:j=k+1
   ·subst e;omega
   ·have:=ih (by omega) (by omega)
    have:=h.next k (by omega)
    have:=h.long (k+1) hk
    omega
theorem Cut.first (h:Cut c L a b y0 i0 y n N):ufst c L (y0,i0) 0≤a∧a≤ulst c L (y0,i0) 0:=by
 have:=daya_to h.da
 unfold ufst ulst itu
 simp only
 omega
theorem Cut.last (h:Cut c L a b y0 i0 y n N):ufst c L (y0,i0) N≤b∧b≤ulst c L (y0,i0) N:=by
 have:=daya_to h.db
 unfold ufst ulst
 rw [h.way.at_]
 simp only
 omega
theorem Cut.part (h:Cut c L a b y0 i0 y n N)(k:Nat)(hk:k≤N):pfst c L a (y0,i0) k=(if k=0 then a else ufst c L (y0,i0) k)∧plst c L b (y0,i0) k=(if k=N then b else ulst c L (y0,i0) k):=by
 have f:=h.first
 have l:=h.last
 constructor
 ·unfold pfst
  by_cases e:k=0
  ·subst e
   rw [if_pos rfl]
   by_cases q:ufst c L (y0,i0) 0<a
   ·rw [if_pos q]
   ·rw [if_neg q];omega
  ·rw [if_neg e]
   have r:=h.way.rise (j:=0) (k:=k - 1) (by omega) (by omega)
   have x:=h.way.next (k - 1) (by omega)
   rw [show k - 1+1=k by omega] at x
   rw [if_neg (by omega)]
 ·unfold plst
  by_cases e:k=N
  ·subst e
   rw [if_pos rfl]
   by_cases q:b<ulst c L (y0,i0) k
   ·rw [if_pos q]
   ·rw [if_neg q];omega
  ·rw [if_neg e]
   have r:=h.way.rise (j:=k) (k:=N - 1) (by omega) (by omega)
   have x:=h.way.next (N - 1) (by omega)
   rw [show N - 1+1=N by omega] at x
   rw [if_neg (by omega)]
theorem Cut.day (h:Cut c L a b y0 i0 y n N)(k:Nat)(hk:k≤N):1≤pday c L a b (y0,i0) k∧pday c L a b (y0,i0) k≤ulst c L (y0,i0) k - ufst c L (y0,i0) k+1∧(0<k→k<N→pday c L a b (y0,i0) k=ulst c L (y0,i0) k - ufst c L (y0,i0) k+1)∧
  0≤pfst c L a (y0,i0) k∧pfst c L a (y0,i0) k≤plst c L b (y0,i0) k∧plst c L b (y0,i0) k≤3068036:=by
 have p:=h.part k hk
 have f:=h.first
 have l:=h.last
 have ab:=h.ab
 have g:=h.way.long k hk
 unfold pday
 rw [p.1,p.2]
 by_cases e:k=0
 ·subst e
  rw [if_pos rfl]
  by_cases e2:0=N
  ·subst e2
   rw [if_pos rfl]
   refine ⟨by omega,by omega,fun h=>by omega,by omega,by omega,by omega⟩
  ·rw [if_neg e2]
   refine ⟨by omega,by omega,fun h=>by omega,by omega,by omega,by omega⟩
 ·rw [if_neg e]
  by_cases e2:k=N
  ·subst e2
   rw [if_pos rfl]
   refine ⟨by omega,by omega,fun _ h=>by omega,by omega,by omega,by omega⟩
  ·rw [if_neg e2]
   refine ⟨by omega,by omega,fun _ _=>rfl,by omega,by omega,by omega⟩
theorem Cut.sum_to (h:Cut c L a b y0 i0 y n N)(k:Nat)(hk:k≤N):sm (pday c L a b (y0,i0)) (k+1)=plst c L b (y0,i0) k - a+1:=by
 induction k with
 | zero =>
   have p:=h.part 0 hk
   show sm _ 0+pday c L a b (y0,i0) 0=_
   unfold pday
   rw [p.1,if_pos rfl]
   show (0:Int)+_=_
   omega
 | succ k ih =>
   have ih:=ih (by omega)
   have p:=h.part k (by omega)
   have p2:=h.part (k+1) hk
   have x:=h.way.next k (by omega)
   show sm _ (k+1)+pday c L a b (y0,i0) (k+1)=_
   rw [ih]
   unfold pday
   rw [p2.1,if_neg (by omega),p.2,if_neg (by omega),x]
   omega
theorem Cut.sum (h:Cut c L a b y0 i0 y n N):sm (pday c L a b (y0,i0)) (N+1)=b - a+1:=by
 rw [h.sum_to N (Nat.le_refl _),(h.part N (Nat.le_refl _)).2,if_pos rfl]
theorem Cut.bd (h:Cut c L a b y0 i0 y n N):0≤a∧b≤3068036∧(N:Int)≤b - a:=by
 have f:=h.first
 have l:=h.last
 have g0:=h.way.long 0 (Nat.zero_le _)
 have gN:=h.way.long N (Nat.le_refl _)
 have s:=h.sum
 have m:=sm_le (f:=fun _=>1) (g:=pday c L a b (y0,i0)) (n:=N+1) (fun i hi=>(h.day i (by omega)).1)
 rw [sm_const] at m
 omega
theorem Cut.unit (h:Cut c L a b y0 i0 y n N)(k:Nat)(hk:k≤N):∃ p q f t d:Int,itu c L (y0,i0) k=(p,q)∧(ulist c L (y0,i0) (N+1))[k]?=some (L,p,q)∧SpanA c L p q f t 0∧d=pday c L a b (y0,i0) k∧1≤d∧d≤t - f+1∧(0<k→k<N→d=t - f+1)∧0≤f∧f≤t∧t≤3068036∧sm (pday c L a b (y0,i0)) (k+1)=sm (pday c L a b (y0,i0)) k+d:=by
 have u:=(h.way.ok k hk).1
 have d:=h.day k hk
 have g:=h.way.long k hk
 exact ⟨_,_,ufst c L (y0,i0) k,ulst c L (y0,i0) k,_,rfl,ulist_at c L (y0,i0) (N+1) k (by omega),.inl ⟨u,rfl,rfl,rfl⟩,rfl,d.1,d.2.1,d.2.2.1,g.2.1,g.1,g.2.2,rfl⟩
end

end Go.Proofs.YtoilomigceijaaaGreatDoor.Am

namespace Go.Proofs.YtoilomigceijaaaGreatDoor.Rk
open Go.RowKit

theorem place_inj {m i j k l:Nat}(hj:j<m)(hl:l<m)(e:i*m+j=k*m+l):i=k∧j=l:=by
 have h1:(i*m+j) / m=i:=by rw [Nat.mul_comm,Nat.mul_add_div (by omega),Nat.div_eq_of_lt hj];rfl
 have h2:(k*m+l) / m=k:=by rw [Nat.mul_comm,Nat.mul_add_div (by omega),Nat.div_eq_of_lt hl];rfl
 have e1:i=k:=by rw [← h1,← h2,e]
 subst e1
 exact ⟨rfl,by omega⟩
structure Mrow (W:World) (g n m:Nat) (f:Nat→Nat→Int):Prop where
 lt:g<W.heap.size
 c:∀ i j,i<n→j<m→W.cell? ⟨g,i*m+j,none⟩=some (.int .i64 (f i j))
 z:∀ i j,i<n→j<m→W.frozen? ⟨g,i*m+j,none⟩=false
section
variable {W w1:World} {g n m:Nat} {f:Nat→Nat→Int}
theorem Mrow.kept (p:Mrow W g n m f)(hb:Below W.heap.size W w1):Mrow w1 g n m f :=
 ⟨Nat.lt_of_lt_of_le p.lt hb.size,fun i j hi hj=>(hb.cell (p:=⟨g,i*m+j,none⟩) p.lt).trans (p.c i j hi hj),fun i j hi hj=>(hb.frozen (p:=⟨g,i*m+j,none⟩) p.lt).trans (p.z i j hi hj)⟩
theorem Mrow.alloc (p:Mrow W g n m f)(o:Obj):Mrow (W.alloc o) g n m f:=p.kept ((Below.refl _ _).alloc (Nat.le_refl _) o)
theorem Mrow.congr {f':Nat→Nat→Int}(p:Mrow W g n m f)(h:∀ i j,i<n→j<m→f i j=f' i j):Mrow W g n m f' :=
 ⟨p.lt,fun i j hi hj=>by rw [← h i j hi hj];exact p.c i j hi hj,p.z⟩
theorem Mrow.set (p:Mrow W g n m f){k l:Nat}(hk:k<n)(hl:l<m)(v:Int):Mrow (W.setCell ⟨g,k*m+l,none⟩ (.int .i64 v)) g n m (fun i j=>if i=k∧j=l then v else f i j):=by
 refine ⟨by simp;exact p.lt,fun i j hi hj=>?_,fun i j hi hj=>by simp [go_sem,p.z i j hi hj]⟩
 by_cases e:i=k∧j=l
 ·obtain ⟨rfl,rfl⟩:=e
  simp only [and_self,if_true]
  exact World.cell?_setCell_same _ _ _ (p.c i j hi hj)
 ·rw [World.cell?_setCell_other _ _ _ _ (by intro e2;simp only [Addr.mk.injEq] at e2;exact e (place_inj hj hl (by omega)))]
  simp only [e,if_false]
  exact p.c i j hi hj
end
section
variable {W:World} {g n:Nat}
theorem Mrow.set5 {f:Nat→Nat→Int}(p:Mrow W g n 5 f){k:Nat}(hk:k<n)(v0 v1 v2 v3 v4:Int) :
  Mrow (((((W.setCell ⟨g,k*5,none⟩ (.int .i64 v0)).setCell ⟨g,k*5+1,none⟩ (.int .i64 v1)).setCell ⟨g,k*5+2,none⟩ (.int .i64 v2)).setCell ⟨g,k*5+3,none⟩ (.int .i64 v3)).setCell ⟨g,k*5+4,none⟩ (.int .i64 v4)) g n 5
   (fun i j=>if i=k then (if j=0 then v0 else if j=1 then v1 else if j=2 then v2 else if j=3 then v3 else v4) else f i j):=by
 have q:=((((p.set (l:=0) hk (by omega) v0).set (l:=1) hk (by omega) v1).set (l:=2) hk (by omega) v2).set (l:=3) hk (by omega) v3).set (l:=4) hk (by omega) v4
 rw [Nat.add_zero] at q
 refine q.congr (fun i j hi hj=>?_)
 by_cases e:i=k
 ·subst e
  have:j=0∨j=1∨j=2∨j=3∨j=4:=by omega
  rcases this with rfl|rfl|rfl|rfl|rfl<;>simp
 ·simp [e]
theorem Mrow.set4 {f:Nat→Nat→Int}(p:Mrow W g n 4 f){k:Nat}(hk:k<n)(v0 v1 v2 v3:Int) :
  Mrow ((((W.setCell ⟨g,k*4,none⟩ (.int .i64 v0)).setCell ⟨g,k*4+1,none⟩ (.int .i64 v1)).setCell ⟨g,k*4+2,none⟩ (.int .i64 v2)).setCell ⟨g,k*4+3,none⟩ (.int .i64 v3)) g n 4
   (fun i j=>if i=k then (if j=0 then v0 else if j=1 then v1 else if j=2 then v2 else v3) else f i j):=by
 have q:=(((p.set (l:=0) hk (by omega) v0).set (l:=1) hk (by omega) v1).set (l:=2) hk (by omega) v2).set (l:=3) hk (by omega) v3
 rw [Nat.add_zero] at q
 refine q.congr (fun i j hi hj=>?_)
 by_cases e:i=k
 ·subst e
  have:j=0∨j=1∨j=2∨j=3:=by omega
  rcases this with rfl|rfl|rfl|rfl<;>simp
 ·simp [e]
end
def upTo (k:Nat)(f:Nat→Nat→Int)(i j:Nat):Int:=if i<k then f i j else 0
theorem upTo_zero (f:Nat→Nat→Int)(i j:Nat):upTo 0 f i j=0:=by simp [upTo]
theorem upTo_next {f:Nat→Nat→Int}{k i j:Nat}{v:Int}(h:i=k→f k j=v):(if i=k then v else upTo k f i j)=upTo (k+1) f i j:=by
 unfold upTo
 by_cases e:i=k
 ·subst e;rw [if_pos rfl,if_pos (by omega),h rfl]
 ·rw [if_neg e]
  by_cases e2:i<k
  ·rw [if_pos e2,if_pos (by omega)]
  ·rw [if_neg e2,if_neg (by omega)]
theorem upTo_all {f:Nat→Nat→Int}{n i j:Nat}(h:i<n):upTo n f i j=f i j:=by unfold upTo;rw [if_pos h]

end Go.Proofs.YtoilomigceijaaaGreatDoor.Rk

