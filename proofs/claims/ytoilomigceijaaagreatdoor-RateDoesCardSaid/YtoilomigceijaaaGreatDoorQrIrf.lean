/- What asked, Day, Next, Back of the reference of layer 17 come to. -/
import Derived.Test.YtoilomigceijaaaGreatDoorQrJX
import Derived.Test.YtoilomigceijaaaGreatDoorQrJI
import Derived.Test.YtoilomigceijaaaGreatDoorQrJN
import Derived.Test.YtoilomigceijaaaGreatDoorQrJFm
set_option linter.unusedSimpArgs false
set_option linter.unusedVariables false
namespace Go.Proofs.YtoilomigceijaaaGreatDoor.Rf
open Go.RowKit Go.Maps Bn Bx Cp Am Fp Ap Ar Cm Em Ep Rk Hp Hr Ip Jr Ir

set_option maxHeartbeats 8000000

set_option maxRecDepth 100000 in
theorem rasked_any (c:CalZ)(L er:Int)(w:World)(R:(CalOk c∧LevOk L∧er=0)∨(¬ (CalOk c∧LevOk L)∧er=1))(K:ChkSays c) :
  Calls Tryz.prog 28 #[.agg #[.string c.nm,.int .i64 c.k,.int .i64 c.d,.int .i64 c.m,.int .i64 c.s,.int .i64 c.sh,.int .i64 c.p0,.int .i64 c.p1,.int .i64 c.p2,.int .i64 c.cy,.int .i64 c.ex,.int .i64 c.fi,.int .i64 c.la,.int .i64 c.po],.int .i64 L] w fun e w'=>e= .returned (.int .i64 er)∧Below w.heap.size w w':=by
 have C:=CalIn.new w c 24
 have B:=balloc (Below.refl _ w) (.cells #[.string c.nm,.int .i64 c.k,.int .i64 c.d,.int .i64 c.m,.int .i64 c.s,.int .i64 c.sh,.int .i64 c.p0,.int .i64 c.p1,.int .i64 c.p2,.int .i64 c.cy,.int .i64 c.ex,.int .i64 c.fi,.int .i64 c.la,.int .i64 c.po] 24)
 have O:∃ e0,(∀ w,Calls Tryz.prog 30 #[.agg #[.string c.nm,.int .i64 c.k,.int .i64 c.d,.int .i64 c.m,.int .i64 c.s,.int .i64 c.sh,.int .i64 c.p0,.int .i64 c.p1,.int .i64 c.p2,.int .i64 c.cy,.int .i64 c.ex,.int .i64 c.fi,.int .i64 c.la,.int .i64 c.po]] w fun e w'=>e= .returned (.int .i64 e0)∧Below w.heap.size w w')∧((e0=1∧er=1)∨(e0=0∧er=1∧decide (L<1)=true)∨(e0=0∧er=1∧decide (L<1)=false∧decide ((5:Int)<L)=true)∨(e0=0∧er=0∧decide (L<1)=false∧decide ((5:Int)<L)=false)):=by
  by_cases ok:CalOk c
  ·refine ⟨0,fun w=>K 0 w (.inl ⟨ok,rfl⟩),?_⟩
   rcases R with ⟨_,l,e⟩|⟨n,e⟩
   ·exact .inr (.inr (.inr ⟨rfl,e,decide_eq_false (by have:=l.1;omega),decide_eq_false (by have:=l.2;omega)⟩))
   ·have l:¬ LevOk L:=fun l=>n ⟨ok,l⟩
    by_cases h:L<1
    ·exact .inr (.inl ⟨rfl,e,decide_eq_true h⟩)
    ·exact .inr (.inr (.inl ⟨rfl,e,decide_eq_false h,decide_eq_true (by unfold LevOk at l;omega)⟩))
  ·refine ⟨1,fun w=>K 1 w (.inr ⟨ok,rfl⟩),.inl ⟨rfl,?_⟩⟩
   rcases R with ⟨h,_⟩|⟨_,e⟩
   ·exact absurd h ok
   ·exact e
 clear R K
 obtain ⟨e0,ck,O⟩:=O
 rcases O with ⟨rfl,rfl⟩|⟨rfl,rfl,l0⟩|⟨rfl,rfl,l0,l1⟩|⟨rfl,rfl,l0,l1⟩
 all_goals
  go_enter Tryz.func28,Tryz.ntmps28
  go_upto_region 1 with fail
  generalize w.alloc (.cells #[.string c.nm,.int .i64 c.k,.int .i64 c.d,.int .i64 c.m,.int .i64 c.s,.int .i64 c.sh,.int .i64 c.p0,.int .i64 c.p1,.int .i64 c.p2,.int .i64 c.cy,.int .i64 c.ex,.int .i64 c.fi,.int .i64 c.la,.int .i64 c.po] 24)=W0 at *
  obtain ⟨_,c0,c1,c2,c3,c4,c5,c6,c7,c8,c9,c10,c11,c12,c13⟩:=id C
  go_wp2_with fail
  refine (ck _).mono ?_
  rintro e w1 ⟨rfl,hb⟩
  replace B:=bthen B hb
  go_wp2
  go_ret
  exact ⟨by simp,B⟩

end Go.Proofs.YtoilomigceijaaaGreatDoor.Rf

