/- Texts that are joined: Frsh, Frbad, Fr346. -/
import Derived.Test.YtoilomigceijaaaGreatDoorQrJC
import Derived.Test.YtoilomigceijaaaGreatDoorQrJZ
import Derived.Test.YtoilomigceijaaaGreatDoorQrJF
set_option linter.unusedSimpArgs false
set_option linter.unusedVariables false
namespace Go.Proofs.YtoilomigceijaaaGreatDoor.Fr
open Go.RowKit Bn Am Fp

set_option maxHeartbeats 1000000

def ShapeR (c:CalZ):Prop :=
 (c.sh=1∧c.cy=0∧((c.p0=4∧c.p1=4∧c.p2=5)∨(c.p0=4∧c.p1=5∧c.p2=4)∨(c.p0=5∧c.p1=4∧c.p2=4)))∨
 (c.sh=2∧(c.p0=0∧c.p1=0∧c.p2=0)∧c.cy=0)∨(c.sh=3∧(c.p0=0∧c.p1=0∧c.p2=0)∧(c.cy=1∨c.cy=2∨c.cy=4))
instance (c:CalZ):Decidable (ShapeR c):=by unfold ShapeR;exact inferInstance
def manyR (c:CalZ):Int:=if c.sh=1∨c.sh=4∨c.sh=5 then 12 else if c.sh=2 then 13 else if c.sh=3 then (if 0<c.cy then 52 / c.cy else 0) else 0
theorem cut_shape (c:CalZ):CutOk c↔ShapeR c∧1≤c.ex∧c.ex≤manyR c:=by
 unfold CutOk ShapeR manyR
 by_cases h1:c.sh=1
 ·simp [h1];omega
 ·by_cases h2:c.sh=2
  ·simp [h2];omega
  ·by_cases h3:c.sh=3
   ·simp [h3]
    by_cases y1:c.cy=1
    ·simp [y1];omega
    ·by_cases y2:c.cy=2
     ·simp [y2];omega
     ·by_cases y4:c.cy=4
      ·simp [y4];omega
      ·simp [y1,y2,y4]
   ·simp [h1,h2,h3]
theorem many_per {c:CalZ}(h:KindOk c):manyR c=per c:=by
 unfold manyR per
 have hc:c.sh=3→0<c.cy:=by
  rcases h with h|h|h|h|h
  ·rcases h.2.2.2.2.2.2.2 with g|g|g<;>omega
  ·omega
  ·omega
  ·rcases h.2.2.2.2 with g|g|g<;>omega
  ·omega
 have hs:c.sh=1∨c.sh=2∨c.sh=3∨c.sh=4∨c.sh=5:=by
  rcases h with h|h|h|h|h
  ·rcases h.2.2.2.2.2.2.2 with g|g|g<;>omega
  ·omega
  ·omega
  ·rcases h.2.2.2.2 with g|g|g<;>omega
  ·omega
 rcases hs with e|e|e|e|e
 ·simp [e]
 ·simp [e]
 ·have:=hc e;simp [e,this]
 ·simp [e]
 ·simp [e]

theorem many_any (c:CalZ)(v:Int)(w:World)(hv:v=manyR c) :
  Calls Tryz.prog 61 #[.agg #[.string c.nm,.int .i64 c.k,.int .i64 c.d,.int .i64 c.m,.int .i64 c.s,.int .i64 c.sh,.int .i64 c.p0,.int .i64 c.p1,.int .i64 c.p2,.int .i64 c.cy,.int .i64 c.ex,.int .i64 c.fi,.int .i64 c.la,.int .i64 c.po]] w fun e w'=>e= .returned (.int .i64 v)∧Below w.heap.size w w':=by
 have P:=CalIn.new w c 24
 have O:(c.sh=1∧v=12)∨(c.sh=4∧v=12)∨(c.sh=5∧v=12)∨(c.sh=2∧v=13)∨(c.sh=3∧0<c.cy∧v=52 / c.cy)∨(c.sh=3∧c.cy≤0∧v=0)∨(c.sh≠1∧c.sh≠2∧c.sh≠3∧c.sh≠4∧c.sh≠5∧v=0):=by
  subst hv
  unfold manyR
  by_cases h1:c.sh=1
  ·exact .inl ⟨h1,by simp [h1]⟩
  ·by_cases h4:c.sh=4
   ·exact .inr (.inl ⟨h4,by simp [h4]⟩)
   ·by_cases h5:c.sh=5
    ·exact .inr (.inr (.inl ⟨h5,by simp [h5]⟩))
    ·by_cases h2:c.sh=2
     ·exact .inr (.inr (.inr (.inl ⟨h2,by simp [h2]⟩)))
     ·by_cases h3:c.sh=3
      ·by_cases hy:0<c.cy
       ·exact .inr (.inr (.inr (.inr (.inl ⟨h3,hy,by simp [h3,hy]⟩))))
       ·exact .inr (.inr (.inr (.inr (.inr (.inl ⟨h3,by omega,by simp [h3,hy]⟩)))))
      ·exact .inr (.inr (.inr (.inr (.inr (.inr ⟨h1,h2,h3,h4,h5,by simp [h1,h2,h3,h4,h5]⟩)))))
 clear hv
 have td:(52:Int).tdiv c.cy=52 / c.cy:=Int.tdiv_eq_ediv_of_nonneg (by decide)
 obtain ⟨nm,k,d,m,s,sh,p0,p1,p2,cy,ex,fi,la,po⟩:=c
 obtain ⟨_,c0,c1,c2,c3,c4,c5,c6,c7,c8,c9,c10,c11,c12,c13⟩:=P
 dsimp only at *
 rcases O with ⟨rfl,rfl⟩|⟨rfl,rfl⟩|⟨rfl,rfl⟩|⟨rfl,rfl⟩|⟨rfl,hy,hv⟩|⟨rfl,hy,rfl⟩|⟨h1,h2,h3,h4,h5,rfl⟩
 case inr.inr.inr.inr.inl =>
  have q0:0≤52 / cy:=Int.ediv_nonneg (by decide) (by omega)
  have q1:52 / cy≤52:=Int.ediv_le_self _ (by decide)
  have hne:¬ cy=0:=by omega
  have hw:IntKind.i64.wrap ((52:Int).tdiv cy)=v:=by rw [td,← hv,IntWalk.i64_in _ (by omega)]
  go_enter Tryz.func61,Tryz.ntmps61
  go_wp2
  go_ret
  exact ⟨by first|rfl|(simp [hv]),balloc (Below.refl _ w) _⟩
 all_goals
  go_enter Tryz.func61,Tryz.ntmps61
  go_wp2
  go_ret
  exact ⟨rfl,balloc (Below.refl _ w) _⟩

theorem pat_neq (x y z a b c:Int)(w:World) :
  (binOp .neq 22 (.agg #[.int .i64 x,.int .i64 y,.int .i64 z]) (.agg #[.int .i64 a,.int .i64 b,.int .i64 c])).run Tryz.prog w= .ok (.bool (!decide (x=a∧y=b∧z=c))) w:=by
 rw [run_neq_struct,show (10000:Nat)=9998+2 from rfl,pat_eqIn]
 rfl

set_option maxRecDepth 100000 in
theorem shaped_any (c:CalZ)(r:Bool)(w:World)(hr:r=decide (ShapeR c)) :
  Calls Tryz.prog 60 #[.agg #[.string c.nm,.int .i64 c.k,.int .i64 c.d,.int .i64 c.m,.int .i64 c.s,.int .i64 c.sh,.int .i64 c.p0,.int .i64 c.p1,.int .i64 c.p2,.int .i64 c.cy,.int .i64 c.ex,.int .i64 c.fi,.int .i64 c.la,.int .i64 c.po]] w fun e w'=>e= .returned (.bool r)∧Below w.heap.size w w':=by
 have P:=CalIn.new w c 24
 obtain ⟨g,hg⟩:∃ g,decide (c.p0=0∧c.p1=0∧c.p2=0)=g:=⟨_,rfl⟩
 obtain ⟨g1,hg1⟩:∃ g,decide (c.p0=4∧c.p1=4∧c.p2=5)=g:=⟨_,rfl⟩
 obtain ⟨g2,hg2⟩:∃ g,decide (c.p0=4∧c.p1=5∧c.p2=4)=g:=⟨_,rfl⟩
 obtain ⟨g3,hg3⟩:∃ g,decide (c.p0=5∧c.p1=4∧c.p2=4)=g:=⟨_,rfl⟩
 have n0:=fun w=>pat_neq c.p0 c.p1 c.p2 0 0 0 w
 have n1:=fun w=>pat_eql c.p0 c.p1 c.p2 4 4 5 w
 have n2:=fun w=>pat_eql c.p0 c.p1 c.p2 4 5 4 w
 have n3:=fun w=>pat_eql c.p0 c.p1 c.p2 5 4 4 w
 rw [hg] at n0
 rw [hg1] at n1
 rw [hg2] at n2
 rw [hg3] at n3
 have hr2:r=((decide (c.sh=1)&&(decide (c.cy=0)&&(decide (c.p0=4∧c.p1=4∧c.p2=5)||(decide (c.p0=4∧c.p1=5∧c.p2=4)||decide (c.p0=5∧c.p1=4∧c.p2=4)))))||((decide (c.sh=2)&&(decide (c.p0=0∧c.p1=0∧c.p2=0)&&decide (c.cy=0)))||(decide (c.sh=3)&&(decide (c.p0=0∧c.p1=0∧c.p2=0)&&(decide (c.cy=1)||(decide (c.cy=2)||decide (c.cy=4))))))):=by
  rw [hr,Bool.eq_iff_iff,decide_eq_true_iff]
  simp only [ShapeR,decide_eq_true_eq,Bool.or_eq_true,Bool.and_eq_true]
 rw [hg,hg1,hg2,hg3] at hr2
 clear hr hg hg1 hg2 hg3
 by_cases h1:c.sh=1
 ·obtain ⟨nm,k,d,m,s,sh,p0,p1,p2,cy,ex,fi,la,po⟩:=c
  obtain ⟨_,c0,c1,c2,c3,c4,c5,c6,c7,c8,c9,c10,c11,c12,c13⟩:=P
  dsimp only at *
  subst h1
  by_cases hy:cy=0
  ·subst hy
   simp at hr2
   cases g1<;>cases g2<;>cases g3<;>simp at hr2<;>subst hr2
   all_goals
    go_enter Tryz.func60,Tryz.ntmps60
    go_wp2
    go_ret
    exact ⟨rfl,balloc (Below.refl _ w) _⟩
  ·have dy:(cy != 0)=true:=bne_iff_ne.2 hy
   simp [hy] at hr2
   subst hr2
   go_enter Tryz.func60,Tryz.ntmps60
   go_wp2
   go_ret
   exact ⟨rfl,balloc (Below.refl _ w) _⟩
 ·by_cases h3:c.sh=3
  ·obtain ⟨nm,k,d,m,s,sh,p0,p1,p2,cy,ex,fi,la,po⟩:=c
   obtain ⟨_,c0,c1,c2,c3,c4,c5,c6,c7,c8,c9,c10,c11,c12,c13⟩:=P
   dsimp only at *
   subst h3
   clear h1
   cases g with
   | false =>
     simp at hr2
     subst hr2
     go_enter Tryz.func60,Tryz.ntmps60
     go_wp2
     go_ret
     exact ⟨rfl,balloc (Below.refl _ w) _⟩
   | true =>
     have O:(cy=1∧r=true)∨(cy=2∧r=true)∨(cy=4∧r=true)∨((cy==1)=false∧(cy==2)=false∧(cy==4)=false∧r=false):=by
      by_cases y1:cy=1
      ·exact .inl ⟨y1,by rw [hr2];simp [y1]⟩
      ·by_cases y2:cy=2
       ·exact .inr (.inl ⟨y2,by rw [hr2];simp [y2]⟩)
       ·by_cases y4:cy=4
        ·exact .inr (.inr (.inl ⟨y4,by rw [hr2];simp [y4]⟩))
        ·exact .inr (.inr (.inr ⟨beq_eq_false_iff_ne.2 y1,beq_eq_false_iff_ne.2 y2,beq_eq_false_iff_ne.2 y4,by rw [hr2];simp [y1,y2,y4]⟩))
     clear hr2
     rcases O with ⟨rfl,rfl⟩|⟨rfl,rfl⟩|⟨rfl,rfl⟩|⟨y1,y2,y4,rfl⟩
     all_goals
      go_enter Tryz.func60,Tryz.ntmps60
      go_wp2
      go_ret
      exact ⟨rfl,balloc (Below.refl _ w) _⟩
  ·have d1:(c.sh != 1)=true:=bne_iff_ne.2 h1
   have d3:(c.sh != 3)=true:=bne_iff_ne.2 h3
   have e1:(c.sh==1)=false:=beq_eq_false_iff_ne.2 h1
   have e3:(c.sh==3)=false:=beq_eq_false_iff_ne.2 h3
   have O:(g=false∧r=false)∨(g=true∧(c.cy != 0)=true∧r=false)∨(g=true∧c.cy=0∧(c.sh==2)=true∧r=true)∨(g=true∧c.cy=0∧(c.sh==2)=false∧r=false):=by
    cases g with
    | false=>exact .inl ⟨rfl,by rw [hr2];simp [h1,h3]⟩
    | true =>
      by_cases hy:c.cy=0
      ·by_cases h2:c.sh=2
       ·exact .inr (.inr (.inl ⟨rfl,hy,by rw [h2];rfl,by rw [hr2];simp [h2,hy]⟩))
       ·exact .inr (.inr (.inr ⟨rfl,hy,beq_eq_false_iff_ne.2 h2,by rw [hr2];simp [h1,h2,h3]⟩))
      ·exact .inr (.inl ⟨rfl,bne_iff_ne.2 hy,by rw [hr2];simp [h1,h3,hy]⟩)
   clear hr2 h1 h3
   obtain ⟨nm,k,d,m,s,sh,p0,p1,p2,cy,ex,fi,la,po⟩:=c
   obtain ⟨_,c0,c1,c2,c3,c4,c5,c6,c7,c8,c9,c10,c11,c12,c13⟩:=P
   dsimp only at *
   rcases O with ⟨rfl,rfl⟩|⟨rfl,hy,rfl⟩|⟨rfl,rfl,h2,rfl⟩|⟨rfl,rfl,h2,rfl⟩
   all_goals
    go_enter Tryz.func60,Tryz.ntmps60
    go_wp2
    go_ret
    exact ⟨rfl,balloc (Below.refl _ w) _⟩

end Go.Proofs.YtoilomigceijaaaGreatDoor.Fr

namespace Go.Proofs.YtoilomigceijaaaGreatDoor.Fr
open Go.RowKit Bn Am Fp
open Zm (name)
open Zr (by_)

set_option maxHeartbeats 4000000

set_option maxRecDepth 100000 in
theorem rbad_name (c:CalZ)(w:World) 
  (cN:∀ w,Calls Tryz.prog 59 #[.string c.nm] w fun e w'=>e= .returned (.bool false)∧Below w.heap.size w w') :
  Calls Tryz.prog 30 #[.agg #[.string c.nm,.int .i64 c.k,.int .i64 c.d,.int .i64 c.m,.int .i64 c.s,.int .i64 c.sh,.int .i64 c.p0,.int .i64 c.p1,.int .i64 c.p2,.int .i64 c.cy,.int .i64 c.ex,.int .i64 c.fi,.int .i64 c.la,.int .i64 c.po]] w fun e w'=>e= .returned (.int .i64 1)∧Below w.heap.size w w':=by
 have C:=CalIn.new w c 24
 have B:=balloc (Below.refl _ w) (.cells #[.string c.nm,.int .i64 c.k,.int .i64 c.d,.int .i64 c.m,.int .i64 c.s,.int .i64 c.sh,.int .i64 c.p0,.int .i64 c.p1,.int .i64 c.p2,.int .i64 c.cy,.int .i64 c.ex,.int .i64 c.fi,.int .i64 c.la,.int .i64 c.po] 24)
 go_enter Tryz.func30,Tryz.ntmps30
 go_upto_region 1 with fail
 generalize w.alloc (.cells #[.string c.nm,.int .i64 c.k,.int .i64 c.d,.int .i64 c.m,.int .i64 c.s,.int .i64 c.sh,.int .i64 c.p0,.int .i64 c.p1,.int .i64 c.p2,.int .i64 c.cy,.int .i64 c.ex,.int .i64 c.fi,.int .i64 c.la,.int .i64 c.po] 24)=W0 at *
 obtain ⟨_,c0,c1,c2,c3,c4,c5,c6,c7,c8,c9,c10,c11,c12,c13⟩:=id C
 go_wp2_with fail
 refine (cN _).mono ?_
 rintro e w1 ⟨rfl,hb⟩
 replace C:=C.kept hb
 replace B:=bthen B hb
 clear hb c0 c1 c2 c3 c4 c5 c6 c7 c8 c9 c10 c11 c12 c13
 obtain ⟨_,c0,c1,c2,c3,c4,c5,c6,c7,c8,c9,c10,c11,c12,c13⟩:=id C
 go_wp2
 go_ret
 exact ⟨rfl,B⟩

set_option maxRecDepth 100000 in
theorem rbad_y1 (c:CalZ)(w:World)(h1:c.fi<1602)
  (cN:∀ w,Calls Tryz.prog 59 #[.string c.nm] w fun e w'=>e= .returned (.bool true)∧Below w.heap.size w w') :
  Calls Tryz.prog 30 #[.agg #[.string c.nm,.int .i64 c.k,.int .i64 c.d,.int .i64 c.m,.int .i64 c.s,.int .i64 c.sh,.int .i64 c.p0,.int .i64 c.p1,.int .i64 c.p2,.int .i64 c.cy,.int .i64 c.ex,.int .i64 c.fi,.int .i64 c.la,.int .i64 c.po]] w fun e w'=>e= .returned (.int .i64 1)∧Below w.heap.size w w':=by
 have C:=CalIn.new w c 24
 have B:=balloc (Below.refl _ w) (.cells #[.string c.nm,.int .i64 c.k,.int .i64 c.d,.int .i64 c.m,.int .i64 c.s,.int .i64 c.sh,.int .i64 c.p0,.int .i64 c.p1,.int .i64 c.p2,.int .i64 c.cy,.int .i64 c.ex,.int .i64 c.fi,.int .i64 c.la,.int .i64 c.po] 24)
 go_enter Tryz.func30,Tryz.ntmps30
 go_upto_region 1 with fail
 generalize w.alloc (.cells #[.string c.nm,.int .i64 c.k,.int .i64 c.d,.int .i64 c.m,.int .i64 c.s,.int .i64 c.sh,.int .i64 c.p0,.int .i64 c.p1,.int .i64 c.p2,.int .i64 c.cy,.int .i64 c.ex,.int .i64 c.fi,.int .i64 c.la,.int .i64 c.po] 24)=W0 at *
 obtain ⟨_,c0,c1,c2,c3,c4,c5,c6,c7,c8,c9,c10,c11,c12,c13⟩:=id C
 go_wp2_with fail
 refine (cN _).mono ?_
 rintro e w1 ⟨rfl,hb⟩
 replace C:=C.kept hb
 replace B:=bthen B hb
 clear hb c0 c1 c2 c3 c4 c5 c6 c7 c8 c9 c10 c11 c12 c13
 obtain ⟨_,c0,c1,c2,c3,c4,c5,c6,c7,c8,c9,c10,c11,c12,c13⟩:=id C
 go_wp2
 go_ret
 exact ⟨rfl,B⟩

set_option maxRecDepth 100000 in
theorem rbad_y2 (c:CalZ)(w:World)(h1:1602≤c.fi)(h2:9996<c.la)
  (cN:∀ w,Calls Tryz.prog 59 #[.string c.nm] w fun e w'=>e= .returned (.bool true)∧Below w.heap.size w w') :
  Calls Tryz.prog 30 #[.agg #[.string c.nm,.int .i64 c.k,.int .i64 c.d,.int .i64 c.m,.int .i64 c.s,.int .i64 c.sh,.int .i64 c.p0,.int .i64 c.p1,.int .i64 c.p2,.int .i64 c.cy,.int .i64 c.ex,.int .i64 c.fi,.int .i64 c.la,.int .i64 c.po]] w fun e w'=>e= .returned (.int .i64 1)∧Below w.heap.size w w':=by
 have C:=CalIn.new w c 24
 have B:=balloc (Below.refl _ w) (.cells #[.string c.nm,.int .i64 c.k,.int .i64 c.d,.int .i64 c.m,.int .i64 c.s,.int .i64 c.sh,.int .i64 c.p0,.int .i64 c.p1,.int .i64 c.p2,.int .i64 c.cy,.int .i64 c.ex,.int .i64 c.fi,.int .i64 c.la,.int .i64 c.po] 24)
 go_enter Tryz.func30,Tryz.ntmps30
 go_upto_region 1 with fail
 generalize w.alloc (.cells #[.string c.nm,.int .i64 c.k,.int .i64 c.d,.int .i64 c.m,.int .i64 c.s,.int .i64 c.sh,.int .i64 c.p0,.int .i64 c.p1,.int .i64 c.p2,.int .i64 c.cy,.int .i64 c.ex,.int .i64 c.fi,.int .i64 c.la,.int .i64 c.po] 24)=W0 at *
 obtain ⟨_,c0,c1,c2,c3,c4,c5,c6,c7,c8,c9,c10,c11,c12,c13⟩:=id C
 go_wp2_with fail
 refine (cN _).mono ?_
 rintro e w1 ⟨rfl,hb⟩
 replace C:=C.kept hb
 replace B:=bthen B hb
 clear hb c0 c1 c2 c3 c4 c5 c6 c7 c8 c9 c10 c11 c12 c13
 obtain ⟨_,c0,c1,c2,c3,c4,c5,c6,c7,c8,c9,c10,c11,c12,c13⟩:=id C
 go_wp2
 go_ret
 exact ⟨rfl,B⟩

set_option maxRecDepth 100000 in
theorem rbad_y3 (c:CalZ)(w:World)(h1:1602≤c.fi)(h2:c.la≤9996)(h3:c.la<c.fi)
  (cN:∀ w,Calls Tryz.prog 59 #[.string c.nm] w fun e w'=>e= .returned (.bool true)∧Below w.heap.size w w') :
  Calls Tryz.prog 30 #[.agg #[.string c.nm,.int .i64 c.k,.int .i64 c.d,.int .i64 c.m,.int .i64 c.s,.int .i64 c.sh,.int .i64 c.p0,.int .i64 c.p1,.int .i64 c.p2,.int .i64 c.cy,.int .i64 c.ex,.int .i64 c.fi,.int .i64 c.la,.int .i64 c.po]] w fun e w'=>e= .returned (.int .i64 1)∧Below w.heap.size w w':=by
 have C:=CalIn.new w c 24
 have B:=balloc (Below.refl _ w) (.cells #[.string c.nm,.int .i64 c.k,.int .i64 c.d,.int .i64 c.m,.int .i64 c.s,.int .i64 c.sh,.int .i64 c.p0,.int .i64 c.p1,.int .i64 c.p2,.int .i64 c.cy,.int .i64 c.ex,.int .i64 c.fi,.int .i64 c.la,.int .i64 c.po] 24)
 go_enter Tryz.func30,Tryz.ntmps30
 go_upto_region 1 with fail
 generalize w.alloc (.cells #[.string c.nm,.int .i64 c.k,.int .i64 c.d,.int .i64 c.m,.int .i64 c.s,.int .i64 c.sh,.int .i64 c.p0,.int .i64 c.p1,.int .i64 c.p2,.int .i64 c.cy,.int .i64 c.ex,.int .i64 c.fi,.int .i64 c.la,.int .i64 c.po] 24)=W0 at *
 obtain ⟨_,c0,c1,c2,c3,c4,c5,c6,c7,c8,c9,c10,c11,c12,c13⟩:=id C
 go_wp2_with fail
 refine (cN _).mono ?_
 rintro e w1 ⟨rfl,hb⟩
 replace C:=C.kept hb
 replace B:=bthen B hb
 clear hb c0 c1 c2 c3 c4 c5 c6 c7 c8 c9 c10 c11 c12 c13
 obtain ⟨_,c0,c1,c2,c3,c4,c5,c6,c7,c8,c9,c10,c11,c12,c13⟩:=id C
 go_wp2
 go_ret
 exact ⟨rfl,B⟩

set_option maxRecDepth 100000 in
theorem rbad_y4 (c:CalZ)(w:World)(h1:1602≤c.fi)(h2:c.la≤9996)(h3:c.fi≤c.la)(h4:decide (400≤c.la - c.fi)=true)
  (cN:∀ w,Calls Tryz.prog 59 #[.string c.nm] w fun e w'=>e= .returned (.bool true)∧Below w.heap.size w w') :
  Calls Tryz.prog 30 #[.agg #[.string c.nm,.int .i64 c.k,.int .i64 c.d,.int .i64 c.m,.int .i64 c.s,.int .i64 c.sh,.int .i64 c.p0,.int .i64 c.p1,.int .i64 c.p2,.int .i64 c.cy,.int .i64 c.ex,.int .i64 c.fi,.int .i64 c.la,.int .i64 c.po]] w fun e w'=>e= .returned (.int .i64 1)∧Below w.heap.size w w':=by
 have C:=CalIn.new w c 24
 have B:=balloc (Below.refl _ w) (.cells #[.string c.nm,.int .i64 c.k,.int .i64 c.d,.int .i64 c.m,.int .i64 c.s,.int .i64 c.sh,.int .i64 c.p0,.int .i64 c.p1,.int .i64 c.p2,.int .i64 c.cy,.int .i64 c.ex,.int .i64 c.fi,.int .i64 c.la,.int .i64 c.po] 24)
 go_enter Tryz.func30,Tryz.ntmps30
 go_upto_region 1 with fail
 generalize w.alloc (.cells #[.string c.nm,.int .i64 c.k,.int .i64 c.d,.int .i64 c.m,.int .i64 c.s,.int .i64 c.sh,.int .i64 c.p0,.int .i64 c.p1,.int .i64 c.p2,.int .i64 c.cy,.int .i64 c.ex,.int .i64 c.fi,.int .i64 c.la,.int .i64 c.po] 24)=W0 at *
 obtain ⟨_,c0,c1,c2,c3,c4,c5,c6,c7,c8,c9,c10,c11,c12,c13⟩:=id C
 go_wp2_with fail
 refine (cN _).mono ?_
 rintro e w1 ⟨rfl,hb⟩
 replace C:=C.kept hb
 replace B:=bthen B hb
 clear hb c0 c1 c2 c3 c4 c5 c6 c7 c8 c9 c10 c11 c12 c13
 obtain ⟨_,c0,c1,c2,c3,c4,c5,c6,c7,c8,c9,c10,c11,c12,c13⟩:=id C
 go_wp2
 go_ret
 exact ⟨rfl,B⟩

set_option maxRecDepth 100000 in
theorem rbad_p1 (c:CalZ)(w:World)(h1:1602≤c.fi)(h2:c.la≤9996)(h3:c.fi≤c.la)(h4:decide (400≤c.la - c.fi)=false)(g1:c.po<1)
  (cN:∀ w,Calls Tryz.prog 59 #[.string c.nm] w fun e w'=>e= .returned (.bool true)∧Below w.heap.size w w') :
  Calls Tryz.prog 30 #[.agg #[.string c.nm,.int .i64 c.k,.int .i64 c.d,.int .i64 c.m,.int .i64 c.s,.int .i64 c.sh,.int .i64 c.p0,.int .i64 c.p1,.int .i64 c.p2,.int .i64 c.cy,.int .i64 c.ex,.int .i64 c.fi,.int .i64 c.la,.int .i64 c.po]] w fun e w'=>e= .returned (.int .i64 1)∧Below w.heap.size w w':=by
 have C:=CalIn.new w c 24
 have B:=balloc (Below.refl _ w) (.cells #[.string c.nm,.int .i64 c.k,.int .i64 c.d,.int .i64 c.m,.int .i64 c.s,.int .i64 c.sh,.int .i64 c.p0,.int .i64 c.p1,.int .i64 c.p2,.int .i64 c.cy,.int .i64 c.ex,.int .i64 c.fi,.int .i64 c.la,.int .i64 c.po] 24)
 go_enter Tryz.func30,Tryz.ntmps30
 go_upto_region 1 with fail
 generalize w.alloc (.cells #[.string c.nm,.int .i64 c.k,.int .i64 c.d,.int .i64 c.m,.int .i64 c.s,.int .i64 c.sh,.int .i64 c.p0,.int .i64 c.p1,.int .i64 c.p2,.int .i64 c.cy,.int .i64 c.ex,.int .i64 c.fi,.int .i64 c.la,.int .i64 c.po] 24)=W0 at *
 obtain ⟨_,c0,c1,c2,c3,c4,c5,c6,c7,c8,c9,c10,c11,c12,c13⟩:=id C
 go_wp2_with fail
 refine (cN _).mono ?_
 rintro e w1 ⟨rfl,hb⟩
 replace C:=C.kept hb
 replace B:=bthen B hb
 clear hb c0 c1 c2 c3 c4 c5 c6 c7 c8 c9 c10 c11 c12 c13
 obtain ⟨_,c0,c1,c2,c3,c4,c5,c6,c7,c8,c9,c10,c11,c12,c13⟩:=id C
 go_wp2
 go_ret
 exact ⟨rfl,B⟩

set_option maxRecDepth 100000 in
theorem rbad_p2 (c:CalZ)(w:World)(h1:1602≤c.fi)(h2:c.la≤9996)(h3:c.fi≤c.la)(h4:decide (400≤c.la - c.fi)=false)(g1:1≤c.po)(g2:4<c.po)
  (cN:∀ w,Calls Tryz.prog 59 #[.string c.nm] w fun e w'=>e= .returned (.bool true)∧Below w.heap.size w w') :
  Calls Tryz.prog 30 #[.agg #[.string c.nm,.int .i64 c.k,.int .i64 c.d,.int .i64 c.m,.int .i64 c.s,.int .i64 c.sh,.int .i64 c.p0,.int .i64 c.p1,.int .i64 c.p2,.int .i64 c.cy,.int .i64 c.ex,.int .i64 c.fi,.int .i64 c.la,.int .i64 c.po]] w fun e w'=>e= .returned (.int .i64 1)∧Below w.heap.size w w':=by
 have C:=CalIn.new w c 24
 have B:=balloc (Below.refl _ w) (.cells #[.string c.nm,.int .i64 c.k,.int .i64 c.d,.int .i64 c.m,.int .i64 c.s,.int .i64 c.sh,.int .i64 c.p0,.int .i64 c.p1,.int .i64 c.p2,.int .i64 c.cy,.int .i64 c.ex,.int .i64 c.fi,.int .i64 c.la,.int .i64 c.po] 24)
 go_enter Tryz.func30,Tryz.ntmps30
 go_upto_region 1 with fail
 generalize w.alloc (.cells #[.string c.nm,.int .i64 c.k,.int .i64 c.d,.int .i64 c.m,.int .i64 c.s,.int .i64 c.sh,.int .i64 c.p0,.int .i64 c.p1,.int .i64 c.p2,.int .i64 c.cy,.int .i64 c.ex,.int .i64 c.fi,.int .i64 c.la,.int .i64 c.po] 24)=W0 at *
 obtain ⟨_,c0,c1,c2,c3,c4,c5,c6,c7,c8,c9,c10,c11,c12,c13⟩:=id C
 go_wp2_with fail
 refine (cN _).mono ?_
 rintro e w1 ⟨rfl,hb⟩
 replace C:=C.kept hb
 replace B:=bthen B hb
 clear hb c0 c1 c2 c3 c4 c5 c6 c7 c8 c9 c10 c11 c12 c13
 obtain ⟨_,c0,c1,c2,c3,c4,c5,c6,c7,c8,c9,c10,c11,c12,c13⟩:=id C
 go_wp2
 go_ret
 exact ⟨rfl,B⟩

set_option maxRecDepth 100000 in
theorem rbad_p3 (c:CalZ)(w:World)(h1:1602≤c.fi)(h2:c.la≤9996)(h3:c.fi≤c.la)(h4:decide (400≤c.la - c.fi)=false)(g1:1≤c.po)(g2:c.po≤4)(g3:(c.po==4)=true)(g4:(c.k==6)=false)
  (cN:∀ w,Calls Tryz.prog 59 #[.string c.nm] w fun e w'=>e= .returned (.bool true)∧Below w.heap.size w w') :
  Calls Tryz.prog 30 #[.agg #[.string c.nm,.int .i64 c.k,.int .i64 c.d,.int .i64 c.m,.int .i64 c.s,.int .i64 c.sh,.int .i64 c.p0,.int .i64 c.p1,.int .i64 c.p2,.int .i64 c.cy,.int .i64 c.ex,.int .i64 c.fi,.int .i64 c.la,.int .i64 c.po]] w fun e w'=>e= .returned (.int .i64 1)∧Below w.heap.size w w':=by
 have C:=CalIn.new w c 24
 have B:=balloc (Below.refl _ w) (.cells #[.string c.nm,.int .i64 c.k,.int .i64 c.d,.int .i64 c.m,.int .i64 c.s,.int .i64 c.sh,.int .i64 c.p0,.int .i64 c.p1,.int .i64 c.p2,.int .i64 c.cy,.int .i64 c.ex,.int .i64 c.fi,.int .i64 c.la,.int .i64 c.po] 24)
 go_enter Tryz.func30,Tryz.ntmps30
 go_upto_region 1 with fail
 generalize w.alloc (.cells #[.string c.nm,.int .i64 c.k,.int .i64 c.d,.int .i64 c.m,.int .i64 c.s,.int .i64 c.sh,.int .i64 c.p0,.int .i64 c.p1,.int .i64 c.p2,.int .i64 c.cy,.int .i64 c.ex,.int .i64 c.fi,.int .i64 c.la,.int .i64 c.po] 24)=W0 at *
 obtain ⟨_,c0,c1,c2,c3,c4,c5,c6,c7,c8,c9,c10,c11,c12,c13⟩:=id C
 go_wp2_with fail
 refine (cN _).mono ?_
 rintro e w1 ⟨rfl,hb⟩
 replace C:=C.kept hb
 replace B:=bthen B hb
 clear hb c0 c1 c2 c3 c4 c5 c6 c7 c8 c9 c10 c11 c12 c13
 obtain ⟨_,c0,c1,c2,c3,c4,c5,c6,c7,c8,c9,c10,c11,c12,c13⟩:=id C
 go_wp2
 go_ret
 exact ⟨rfl,B⟩

set_option maxRecDepth 100000 in
theorem rbad_p4 (c:CalZ)(w:World)(h1:1602≤c.fi)(h2:c.la≤9996)(h3:c.fi≤c.la)(h4:decide (400≤c.la - c.fi)=false)(g1:1≤c.po)(g2:c.po≤4)(g3:(c.po==4)=false)(g4:(c.k==6)=true)
  (cN:∀ w,Calls Tryz.prog 59 #[.string c.nm] w fun e w'=>e= .returned (.bool true)∧Below w.heap.size w w') :
  Calls Tryz.prog 30 #[.agg #[.string c.nm,.int .i64 c.k,.int .i64 c.d,.int .i64 c.m,.int .i64 c.s,.int .i64 c.sh,.int .i64 c.p0,.int .i64 c.p1,.int .i64 c.p2,.int .i64 c.cy,.int .i64 c.ex,.int .i64 c.fi,.int .i64 c.la,.int .i64 c.po]] w fun e w'=>e= .returned (.int .i64 1)∧Below w.heap.size w w':=by
 have C:=CalIn.new w c 24
 have B:=balloc (Below.refl _ w) (.cells #[.string c.nm,.int .i64 c.k,.int .i64 c.d,.int .i64 c.m,.int .i64 c.s,.int .i64 c.sh,.int .i64 c.p0,.int .i64 c.p1,.int .i64 c.p2,.int .i64 c.cy,.int .i64 c.ex,.int .i64 c.fi,.int .i64 c.la,.int .i64 c.po] 24)
 go_enter Tryz.func30,Tryz.ntmps30
 go_upto_region 1 with fail
 generalize w.alloc (.cells #[.string c.nm,.int .i64 c.k,.int .i64 c.d,.int .i64 c.m,.int .i64 c.s,.int .i64 c.sh,.int .i64 c.p0,.int .i64 c.p1,.int .i64 c.p2,.int .i64 c.cy,.int .i64 c.ex,.int .i64 c.fi,.int .i64 c.la,.int .i64 c.po] 24)=W0 at *
 obtain ⟨_,c0,c1,c2,c3,c4,c5,c6,c7,c8,c9,c10,c11,c12,c13⟩:=id C
 go_wp2_with fail
 refine (cN _).mono ?_
 rintro e w1 ⟨rfl,hb⟩
 replace C:=C.kept hb
 replace B:=bthen B hb
 clear hb c0 c1 c2 c3 c4 c5 c6 c7 c8 c9 c10 c11 c12 c13
 obtain ⟨_,c0,c1,c2,c3,c4,c5,c6,c7,c8,c9,c10,c11,c12,c13⟩:=id C
 go_wp2
 go_ret
 exact ⟨rfl,B⟩

end Go.Proofs.YtoilomigceijaaaGreatDoor.Fr

namespace Go.Proofs.YtoilomigceijaaaGreatDoor.Fr
open Go.RowKit Bn Am Fp
open Zm (name)
open Zr (by_)

set_option maxHeartbeats 4000000

set_option maxRecDepth 100000 in
theorem rkind_k3 (c:CalZ)(er:Int)(w:World)(k1:(c.k==1)=false)(k2:(c.k==2)=false)(k5:(c.k==5)=false)(k3:(c.k==3)=true)
  (h1:1602≤c.fi) (h2:c.la≤9996) (h3:c.fi≤c.la) (h4:decide (400≤c.la - c.fi)=false) (g1:1≤c.po) (g2:c.po≤4) (g3:(c.po==4)=false) (g4:(c.k==6)=false) (hr:er=if decide (CalSame ⟨⟨#[]⟩,c.k,c.d,c.m,c.s,c.sh,c.p0,c.p1,c.p2,c.cy,c.ex,0,0,0⟩ ⟨⟨#[]⟩,3,6,1,1,1,4,5,4,0,12,0,0,0⟩)=true then 0 else 1)
  (cN:∀ w,Calls Tryz.prog 59 #[.string c.nm] w fun e w'=>e= .returned (.bool true)∧Below w.heap.size w w') :
  Calls Tryz.prog 30 #[.agg #[.string c.nm,.int .i64 c.k,.int .i64 c.d,.int .i64 c.m,.int .i64 c.s,.int .i64 c.sh,.int .i64 c.p0,.int .i64 c.p1,.int .i64 c.p2,.int .i64 c.cy,.int .i64 c.ex,.int .i64 c.fi,.int .i64 c.la,.int .i64 c.po]] w fun e w'=>e= .returned (.int .i64 er)∧Below w.heap.size w w':=by
 have C:=CalIn.new w c 24
 have B:=balloc (Below.refl _ w) (.cells #[.string c.nm,.int .i64 c.k,.int .i64 c.d,.int .i64 c.m,.int .i64 c.s,.int .i64 c.sh,.int .i64 c.p0,.int .i64 c.p1,.int .i64 c.p2,.int .i64 c.cy,.int .i64 c.ex,.int .i64 c.fi,.int .i64 c.la,.int .i64 c.po] 24)
 go_enter Tryz.func30,Tryz.ntmps30
 go_upto_region 1 with fail
 generalize w.alloc (.cells #[.string c.nm,.int .i64 c.k,.int .i64 c.d,.int .i64 c.m,.int .i64 c.s,.int .i64 c.sh,.int .i64 c.p0,.int .i64 c.p1,.int .i64 c.p2,.int .i64 c.cy,.int .i64 c.ex,.int .i64 c.fi,.int .i64 c.la,.int .i64 c.po] 24)=W0 at *
 obtain ⟨_,c0,c1,c2,c3,c4,c5,c6,c7,c8,c9,c10,c11,c12,c13⟩:=id C
 go_wp2_with fail
 refine (cN _).mono ?_
 rintro e w1 ⟨rfl,hb⟩
 replace C:=C.kept hb
 replace B:=bthen B hb
 clear hb c0 c1 c2 c3 c4 c5 c6 c7 c8 c9 c10 c11 c12 c13
 obtain ⟨_,c0,c1,c2,c3,c4,c5,c6,c7,c8,c9,c10,c11,c12,c13⟩:=id C
 go_upto_region 11 with fail
 have K:=Box.new w1 #[.string ⟨#[]⟩,.int .i64 c.k,.int .i64 c.d,.int .i64 c.m,.int .i64 c.s,.int .i64 c.sh,.int .i64 c.p0,.int .i64 c.p1,.int .i64 c.p2,.int .i64 c.cy,.int .i64 c.ex,.int .i64 0,.int .i64 0,.int .i64 0] 24
 replace C:=C.alloc (.cells #[.string ⟨#[]⟩,.int .i64 c.k,.int .i64 c.d,.int .i64 c.m,.int .i64 c.s,.int .i64 c.sh,.int .i64 c.p0,.int .i64 c.p1,.int .i64 c.p2,.int .i64 c.cy,.int .i64 c.ex,.int .i64 0,.int .i64 0,.int .i64 0] 24)
 replace B:=balloc B (.cells #[.string ⟨#[]⟩,.int .i64 c.k,.int .i64 c.d,.int .i64 c.m,.int .i64 c.s,.int .i64 c.sh,.int .i64 c.p0,.int .i64 c.p1,.int .i64 c.p2,.int .i64 c.cy,.int .i64 c.ex,.int .i64 0,.int .i64 0,.int .i64 0] 24)
 generalize w1.alloc (.cells #[.string ⟨#[]⟩,.int .i64 c.k,.int .i64 c.d,.int .i64 c.m,.int .i64 c.s,.int .i64 c.sh,.int .i64 c.p0,.int .i64 c.p1,.int .i64 c.p2,.int .i64 c.cy,.int .i64 c.ex,.int .i64 0,.int .i64 0,.int .i64 0] 24)=W2 at *
 clear c0 c1 c2 c3 c4 c5 c6 c7 c8 c9 c10 c11 c12 c13
 obtain ⟨_,c0,c1,c2,c3,c4,c5,c6,c7,c8,c9,c10,c11,c12,c13⟩:=id C
 have b0:=K.cell 0 _ rfl
 have b1:=K.cell 1 _ rfl
 have b2:=K.cell 2 _ rfl
 have b3:=K.cell 3 _ rfl
 have b4:=K.cell 4 _ rfl
 have b5:=K.cell 5 _ rfl
 have b6:=K.cell 6 _ rfl
 have b7:=K.cell 7 _ rfl
 have b8:=K.cell 8 _ rfl
 have b9:=K.cell 9 _ rfl
 have b10:=K.cell 10 _ rfl
 have b11:=K.cell 11 _ rfl
 have b12:=K.cell 12 _ rfl
 have b13:=K.cell 13 _ rfl
 have q:=fun w=>cal_eql ⟨⟨#[]⟩,c.k,c.d,c.m,c.s,c.sh,c.p0,c.p1,c.p2,c.cy,c.ex,0,0,0⟩ ⟨⟨#[]⟩,3,6,1,1,1,4,5,4,0,12,0,0,0⟩ rfl w
 obtain ⟨v,hv⟩:∃ v,decide (CalSame ⟨⟨#[]⟩,c.k,c.d,c.m,c.s,c.sh,c.p0,c.p1,c.p2,c.cy,c.ex,0,0,0⟩ ⟨⟨#[]⟩,3,6,1,1,1,4,5,4,0,12,0,0,0⟩)=v:=⟨_,rfl⟩
 rw [hv] at q hr
 clear hv
 dsimp only at *
 cases v with
 | false =>
   simp at hr
   subst hr
   go_wp2
   go_ret
   exact ⟨rfl,B⟩
 | true =>
   simp at hr
   subst hr
   go_wp2
   go_ret
   exact ⟨rfl,B⟩

set_option maxRecDepth 100000 in
theorem rkind_k4 (c:CalZ)(er:Int)(w:World)(k1:(c.k==1)=false)(k2:(c.k==2)=false)(k5:(c.k==5)=false)(k3:(c.k==3)=false)(k4:(c.k==4)=true)
  (h1:1602≤c.fi) (h2:c.la≤9996) (h3:c.fi≤c.la) (h4:decide (400≤c.la - c.fi)=false) (g1:1≤c.po) (g2:c.po≤4) (g3:(c.po==4)=false) (g4:(c.k==6)=false) (hr:er=if decide (CalSame ⟨⟨#[]⟩,c.k,c.d,c.m,c.s,c.sh,c.p0,c.p1,c.p2,c.cy,c.ex,0,0,0⟩ ⟨⟨#[]⟩,4,7,12,0,4,0,0,0,0,12,0,0,0⟩)=true then 0 else 1)
  (cN:∀ w,Calls Tryz.prog 59 #[.string c.nm] w fun e w'=>e= .returned (.bool true)∧Below w.heap.size w w') :
  Calls Tryz.prog 30 #[.agg #[.string c.nm,.int .i64 c.k,.int .i64 c.d,.int .i64 c.m,.int .i64 c.s,.int .i64 c.sh,.int .i64 c.p0,.int .i64 c.p1,.int .i64 c.p2,.int .i64 c.cy,.int .i64 c.ex,.int .i64 c.fi,.int .i64 c.la,.int .i64 c.po]] w fun e w'=>e= .returned (.int .i64 er)∧Below w.heap.size w w':=by
 have C:=CalIn.new w c 24
 have B:=balloc (Below.refl _ w) (.cells #[.string c.nm,.int .i64 c.k,.int .i64 c.d,.int .i64 c.m,.int .i64 c.s,.int .i64 c.sh,.int .i64 c.p0,.int .i64 c.p1,.int .i64 c.p2,.int .i64 c.cy,.int .i64 c.ex,.int .i64 c.fi,.int .i64 c.la,.int .i64 c.po] 24)
 go_enter Tryz.func30,Tryz.ntmps30
 go_upto_region 1 with fail
 generalize w.alloc (.cells #[.string c.nm,.int .i64 c.k,.int .i64 c.d,.int .i64 c.m,.int .i64 c.s,.int .i64 c.sh,.int .i64 c.p0,.int .i64 c.p1,.int .i64 c.p2,.int .i64 c.cy,.int .i64 c.ex,.int .i64 c.fi,.int .i64 c.la,.int .i64 c.po] 24)=W0 at *
 obtain ⟨_,c0,c1,c2,c3,c4,c5,c6,c7,c8,c9,c10,c11,c12,c13⟩:=id C
 go_wp2_with fail
 refine (cN _).mono ?_
 rintro e w1 ⟨rfl,hb⟩
 replace C:=C.kept hb
 replace B:=bthen B hb
 clear hb c0 c1 c2 c3 c4 c5 c6 c7 c8 c9 c10 c11 c12 c13
 obtain ⟨_,c0,c1,c2,c3,c4,c5,c6,c7,c8,c9,c10,c11,c12,c13⟩:=id C
 go_upto_region 11 with fail
 have K:=Box.new w1 #[.string ⟨#[]⟩,.int .i64 c.k,.int .i64 c.d,.int .i64 c.m,.int .i64 c.s,.int .i64 c.sh,.int .i64 c.p0,.int .i64 c.p1,.int .i64 c.p2,.int .i64 c.cy,.int .i64 c.ex,.int .i64 0,.int .i64 0,.int .i64 0] 24
 replace C:=C.alloc (.cells #[.string ⟨#[]⟩,.int .i64 c.k,.int .i64 c.d,.int .i64 c.m,.int .i64 c.s,.int .i64 c.sh,.int .i64 c.p0,.int .i64 c.p1,.int .i64 c.p2,.int .i64 c.cy,.int .i64 c.ex,.int .i64 0,.int .i64 0,.int .i64 0] 24)
 replace B:=balloc B (.cells #[.string ⟨#[]⟩,.int .i64 c.k,.int .i64 c.d,.int .i64 c.m,.int .i64 c.s,.int .i64 c.sh,.int .i64 c.p0,.int .i64 c.p1,.int .i64 c.p2,.int .i64 c.cy,.int .i64 c.ex,.int .i64 0,.int .i64 0,.int .i64 0] 24)
 generalize w1.alloc (.cells #[.string ⟨#[]⟩,.int .i64 c.k,.int .i64 c.d,.int .i64 c.m,.int .i64 c.s,.int .i64 c.sh,.int .i64 c.p0,.int .i64 c.p1,.int .i64 c.p2,.int .i64 c.cy,.int .i64 c.ex,.int .i64 0,.int .i64 0,.int .i64 0] 24)=W2 at *
 clear c0 c1 c2 c3 c4 c5 c6 c7 c8 c9 c10 c11 c12 c13
 obtain ⟨_,c0,c1,c2,c3,c4,c5,c6,c7,c8,c9,c10,c11,c12,c13⟩:=id C
 have b0:=K.cell 0 _ rfl
 have b1:=K.cell 1 _ rfl
 have b2:=K.cell 2 _ rfl
 have b3:=K.cell 3 _ rfl
 have b4:=K.cell 4 _ rfl
 have b5:=K.cell 5 _ rfl
 have b6:=K.cell 6 _ rfl
 have b7:=K.cell 7 _ rfl
 have b8:=K.cell 8 _ rfl
 have b9:=K.cell 9 _ rfl
 have b10:=K.cell 10 _ rfl
 have b11:=K.cell 11 _ rfl
 have b12:=K.cell 12 _ rfl
 have b13:=K.cell 13 _ rfl
 have q:=fun w=>cal_eql ⟨⟨#[]⟩,c.k,c.d,c.m,c.s,c.sh,c.p0,c.p1,c.p2,c.cy,c.ex,0,0,0⟩ ⟨⟨#[]⟩,4,7,12,0,4,0,0,0,0,12,0,0,0⟩ rfl w
 obtain ⟨v,hv⟩:∃ v,decide (CalSame ⟨⟨#[]⟩,c.k,c.d,c.m,c.s,c.sh,c.p0,c.p1,c.p2,c.cy,c.ex,0,0,0⟩ ⟨⟨#[]⟩,4,7,12,0,4,0,0,0,0,12,0,0,0⟩)=v:=⟨_,rfl⟩
 rw [hv] at q hr
 clear hv
 dsimp only at *
 cases v with
 | false =>
   simp at hr
   subst hr
   go_wp2
   go_ret
   exact ⟨rfl,B⟩
 | true =>
   simp at hr
   subst hr
   go_wp2
   go_ret
   exact ⟨rfl,B⟩

set_option maxRecDepth 100000 in
theorem rkind_k6 (c:CalZ)(er:Int)(w:World)(k1:(c.k==1)=false)(k2:(c.k==2)=false)(k5:(c.k==5)=false)(k3:(c.k==3)=false)(k4:(c.k==4)=false)(k6:(c.k==6)=true)
  (h1:1602≤c.fi) (h2:c.la≤9996) (h3:c.fi≤c.la) (h4:decide (400≤c.la - c.fi)=false) (g1:1≤c.po) (g2:c.po≤4) (g3:(c.po==4)=true) (hr:er=if (decide (1≤c.m)&&(decide (c.m≤12)&&(((c.s==0)||(c.s==1))&&decide (CalSame ⟨⟨#[]⟩,c.k,c.d,c.m,c.s,c.sh,c.p0,c.p1,c.p2,c.cy,c.ex,0,0,0⟩ ⟨⟨#[]⟩,6,0,c.m,c.s,5,0,0,0,0,0,0,0,0⟩))))=true then 0 else 1)
  (cN:∀ w,Calls Tryz.prog 59 #[.string c.nm] w fun e w'=>e= .returned (.bool true)∧Below w.heap.size w w') :
  Calls Tryz.prog 30 #[.agg #[.string c.nm,.int .i64 c.k,.int .i64 c.d,.int .i64 c.m,.int .i64 c.s,.int .i64 c.sh,.int .i64 c.p0,.int .i64 c.p1,.int .i64 c.p2,.int .i64 c.cy,.int .i64 c.ex,.int .i64 c.fi,.int .i64 c.la,.int .i64 c.po]] w fun e w'=>e= .returned (.int .i64 er)∧Below w.heap.size w w':=by
 have C:=CalIn.new w c 24
 have B:=balloc (Below.refl _ w) (.cells #[.string c.nm,.int .i64 c.k,.int .i64 c.d,.int .i64 c.m,.int .i64 c.s,.int .i64 c.sh,.int .i64 c.p0,.int .i64 c.p1,.int .i64 c.p2,.int .i64 c.cy,.int .i64 c.ex,.int .i64 c.fi,.int .i64 c.la,.int .i64 c.po] 24)
 go_enter Tryz.func30,Tryz.ntmps30
 go_upto_region 1 with fail
 generalize w.alloc (.cells #[.string c.nm,.int .i64 c.k,.int .i64 c.d,.int .i64 c.m,.int .i64 c.s,.int .i64 c.sh,.int .i64 c.p0,.int .i64 c.p1,.int .i64 c.p2,.int .i64 c.cy,.int .i64 c.ex,.int .i64 c.fi,.int .i64 c.la,.int .i64 c.po] 24)=W0 at *
 obtain ⟨_,c0,c1,c2,c3,c4,c5,c6,c7,c8,c9,c10,c11,c12,c13⟩:=id C
 go_wp2_with fail
 refine (cN _).mono ?_
 rintro e w1 ⟨rfl,hb⟩
 replace C:=C.kept hb
 replace B:=bthen B hb
 clear hb c0 c1 c2 c3 c4 c5 c6 c7 c8 c9 c10 c11 c12 c13
 obtain ⟨_,c0,c1,c2,c3,c4,c5,c6,c7,c8,c9,c10,c11,c12,c13⟩:=id C
 go_upto_region 11 with fail
 have K:=Box.new w1 #[.string ⟨#[]⟩,.int .i64 c.k,.int .i64 c.d,.int .i64 c.m,.int .i64 c.s,.int .i64 c.sh,.int .i64 c.p0,.int .i64 c.p1,.int .i64 c.p2,.int .i64 c.cy,.int .i64 c.ex,.int .i64 0,.int .i64 0,.int .i64 0] 24
 replace C:=C.alloc (.cells #[.string ⟨#[]⟩,.int .i64 c.k,.int .i64 c.d,.int .i64 c.m,.int .i64 c.s,.int .i64 c.sh,.int .i64 c.p0,.int .i64 c.p1,.int .i64 c.p2,.int .i64 c.cy,.int .i64 c.ex,.int .i64 0,.int .i64 0,.int .i64 0] 24)
 replace B:=balloc B (.cells #[.string ⟨#[]⟩,.int .i64 c.k,.int .i64 c.d,.int .i64 c.m,.int .i64 c.s,.int .i64 c.sh,.int .i64 c.p0,.int .i64 c.p1,.int .i64 c.p2,.int .i64 c.cy,.int .i64 c.ex,.int .i64 0,.int .i64 0,.int .i64 0] 24)
 generalize w1.alloc (.cells #[.string ⟨#[]⟩,.int .i64 c.k,.int .i64 c.d,.int .i64 c.m,.int .i64 c.s,.int .i64 c.sh,.int .i64 c.p0,.int .i64 c.p1,.int .i64 c.p2,.int .i64 c.cy,.int .i64 c.ex,.int .i64 0,.int .i64 0,.int .i64 0] 24)=W2 at *
 clear c0 c1 c2 c3 c4 c5 c6 c7 c8 c9 c10 c11 c12 c13
 obtain ⟨_,c0,c1,c2,c3,c4,c5,c6,c7,c8,c9,c10,c11,c12,c13⟩:=id C
 have b0:=K.cell 0 _ rfl
 have b1:=K.cell 1 _ rfl
 have b2:=K.cell 2 _ rfl
 have b3:=K.cell 3 _ rfl
 have b4:=K.cell 4 _ rfl
 have b5:=K.cell 5 _ rfl
 have b6:=K.cell 6 _ rfl
 have b7:=K.cell 7 _ rfl
 have b8:=K.cell 8 _ rfl
 have b9:=K.cell 9 _ rfl
 have b10:=K.cell 10 _ rfl
 have b11:=K.cell 11 _ rfl
 have b12:=K.cell 12 _ rfl
 have b13:=K.cell 13 _ rfl
 have q:=fun w=>cal_eql ⟨⟨#[]⟩,c.k,c.d,c.m,c.s,c.sh,c.p0,c.p1,c.p2,c.cy,c.ex,0,0,0⟩ ⟨⟨#[]⟩,6,0,c.m,c.s,5,0,0,0,0,0,0,0,0⟩ rfl w
 obtain ⟨v,hv⟩:∃ v,decide (CalSame ⟨⟨#[]⟩,c.k,c.d,c.m,c.s,c.sh,c.p0,c.p1,c.p2,c.cy,c.ex,0,0,0⟩ ⟨⟨#[]⟩,6,0,c.m,c.s,5,0,0,0,0,0,0,0,0⟩)=v:=⟨_,rfl⟩
 rw [hv] at q hr
 clear hv
 dsimp only at *
 cases m0:decide (1≤c.m)
 case false =>
  rw [m0] at hr
  simp at hr
  subst hr
  go_wp2
  go_ret
  exact ⟨rfl,B⟩
 rw [m0] at hr
 cases m1:decide (c.m≤12)
 case false =>
  rw [m1] at hr
  simp at hr
  subst hr
  go_wp2
  go_ret
  exact ⟨rfl,B⟩
 rw [m1] at hr
 cases s0:(c.s==0)
 case true =>
  rw [s0] at hr
  cases v with
  | false =>
    simp at hr
    subst hr
    go_wp2
    go_ret
    exact ⟨rfl,B⟩
  | true =>
    simp at hr
    subst hr
    go_wp2
    go_ret
    exact ⟨rfl,B⟩
 cases s1:(c.s==1)
 case true =>
  rw [s0,s1] at hr
  cases v with
  | false =>
    simp at hr
    subst hr
    go_wp2
    go_ret
    exact ⟨rfl,B⟩
  | true =>
    simp at hr
    subst hr
    go_wp2
    go_ret
    exact ⟨rfl,B⟩
 rw [s0,s1] at hr
 simp at hr
 subst hr
 go_wp2
 go_ret
 exact ⟨rfl,B⟩

set_option maxRecDepth 100000 in
theorem rkind_no (c:CalZ)(er:Int)(w:World)(k1:(c.k==1)=false)(k2:(c.k==2)=false)(k5:(c.k==5)=false)(k3:(c.k==3)=false)(k4:(c.k==4)=false)(k6:(c.k==6)=false)
  (h1:1602≤c.fi) (h2:c.la≤9996) (h3:c.fi≤c.la) (h4:decide (400≤c.la - c.fi)=false) (g1:1≤c.po) (g2:c.po≤4) (g3:(c.po==4)=false) (hr:er=1)
  (cN:∀ w,Calls Tryz.prog 59 #[.string c.nm] w fun e w'=>e= .returned (.bool true)∧Below w.heap.size w w') :
  Calls Tryz.prog 30 #[.agg #[.string c.nm,.int .i64 c.k,.int .i64 c.d,.int .i64 c.m,.int .i64 c.s,.int .i64 c.sh,.int .i64 c.p0,.int .i64 c.p1,.int .i64 c.p2,.int .i64 c.cy,.int .i64 c.ex,.int .i64 c.fi,.int .i64 c.la,.int .i64 c.po]] w fun e w'=>e= .returned (.int .i64 er)∧Below w.heap.size w w':=by
 have C:=CalIn.new w c 24
 have B:=balloc (Below.refl _ w) (.cells #[.string c.nm,.int .i64 c.k,.int .i64 c.d,.int .i64 c.m,.int .i64 c.s,.int .i64 c.sh,.int .i64 c.p0,.int .i64 c.p1,.int .i64 c.p2,.int .i64 c.cy,.int .i64 c.ex,.int .i64 c.fi,.int .i64 c.la,.int .i64 c.po] 24)
 go_enter Tryz.func30,Tryz.ntmps30
 go_upto_region 1 with fail
 generalize w.alloc (.cells #[.string c.nm,.int .i64 c.k,.int .i64 c.d,.int .i64 c.m,.int .i64 c.s,.int .i64 c.sh,.int .i64 c.p0,.int .i64 c.p1,.int .i64 c.p2,.int .i64 c.cy,.int .i64 c.ex,.int .i64 c.fi,.int .i64 c.la,.int .i64 c.po] 24)=W0 at *
 obtain ⟨_,c0,c1,c2,c3,c4,c5,c6,c7,c8,c9,c10,c11,c12,c13⟩:=id C
 go_wp2_with fail
 refine (cN _).mono ?_
 rintro e w1 ⟨rfl,hb⟩
 replace C:=C.kept hb
 replace B:=bthen B hb
 clear hb c0 c1 c2 c3 c4 c5 c6 c7 c8 c9 c10 c11 c12 c13
 obtain ⟨_,c0,c1,c2,c3,c4,c5,c6,c7,c8,c9,c10,c11,c12,c13⟩:=id C
 go_upto_region 11 with fail
 have K:=Box.new w1 #[.string ⟨#[]⟩,.int .i64 c.k,.int .i64 c.d,.int .i64 c.m,.int .i64 c.s,.int .i64 c.sh,.int .i64 c.p0,.int .i64 c.p1,.int .i64 c.p2,.int .i64 c.cy,.int .i64 c.ex,.int .i64 0,.int .i64 0,.int .i64 0] 24
 replace C:=C.alloc (.cells #[.string ⟨#[]⟩,.int .i64 c.k,.int .i64 c.d,.int .i64 c.m,.int .i64 c.s,.int .i64 c.sh,.int .i64 c.p0,.int .i64 c.p1,.int .i64 c.p2,.int .i64 c.cy,.int .i64 c.ex,.int .i64 0,.int .i64 0,.int .i64 0] 24)
 replace B:=balloc B (.cells #[.string ⟨#[]⟩,.int .i64 c.k,.int .i64 c.d,.int .i64 c.m,.int .i64 c.s,.int .i64 c.sh,.int .i64 c.p0,.int .i64 c.p1,.int .i64 c.p2,.int .i64 c.cy,.int .i64 c.ex,.int .i64 0,.int .i64 0,.int .i64 0] 24)
 generalize w1.alloc (.cells #[.string ⟨#[]⟩,.int .i64 c.k,.int .i64 c.d,.int .i64 c.m,.int .i64 c.s,.int .i64 c.sh,.int .i64 c.p0,.int .i64 c.p1,.int .i64 c.p2,.int .i64 c.cy,.int .i64 c.ex,.int .i64 0,.int .i64 0,.int .i64 0] 24)=W2 at *
 clear c0 c1 c2 c3 c4 c5 c6 c7 c8 c9 c10 c11 c12 c13
 obtain ⟨_,c0,c1,c2,c3,c4,c5,c6,c7,c8,c9,c10,c11,c12,c13⟩:=id C
 subst hr
 go_wp2
 go_ret
 exact ⟨rfl,B⟩

end Go.Proofs.YtoilomigceijaaaGreatDoor.Fr

