/- What End, Start, Days and Weeks of the reference of layer 13 come to, from what its Check comes to. -/
import Derived.Test.YtoilomigceijaaaGreatDoorQrJC
import Derived.Test.YtoilomigceijaaaGreatDoorQrJG
set_option linter.unusedSimpArgs false
set_option linter.unusedVariables false
namespace Go.Proofs.YtoilomigceijaaaGreatDoor.Ar
open Go.RowKit Bn Am Fp Cm Em

set_option maxHeartbeats 4000000

def ChkSays (c:CalZ):Prop:=∀ (h:Int) (w:World),ChkA c h→Calls Tryz.prog 30 #[.agg #[.string c.nm,.int .i64 c.k,.int .i64 c.d,.int .i64 c.m,.int .i64 c.s,.int .i64 c.sh,.int .i64 c.p0,.int .i64 c.p1,.int .i64 c.p2,.int .i64 c.cy,.int .i64 c.ex,.int .i64 c.fi,.int .i64 c.la,.int .i64 c.po]] w fun e w'=>e= .returned (.int .i64 h)∧Below w.heap.size w w'

set_option maxRecDepth 100000 in
theorem rend_last (c:CalZ)(y v:Int)(w:World)(q:(c.k==1)=true∨((c.k==1)=false∧(c.k==4)=true))(s0:0≤c.s)(s1:c.s≤1)(y0:1600≤y)(y1:y≤9997)
  (ck:∀ w,Calls Tryz.prog 30 #[.agg #[.string c.nm,.int .i64 c.k,.int .i64 c.d,.int .i64 c.m,.int .i64 c.s,.int .i64 c.sh,.int .i64 c.p0,.int .i64 c.p1,.int .i64 c.p2,.int .i64 c.cy,.int .i64 c.ex,.int .i64 c.fi,.int .i64 c.la,.int .i64 c.po]] w fun e w'=>e= .returned (.int .i64 0)∧Below w.heap.size w w')
  (cl:∀ w,Calls Tryz.prog 65 #[.int .i64 (y+c.s),.int .i64 c.m,.int .i64 c.d] w fun e w'=>e= .returned (.tuple #[.int .i64 v,.int .i64 0])∧Below w.heap.size w w') :
  Calls Tryz.prog 63 #[.agg #[.string c.nm,.int .i64 c.k,.int .i64 c.d,.int .i64 c.m,.int .i64 c.s,.int .i64 c.sh,.int .i64 c.p0,.int .i64 c.p1,.int .i64 c.p2,.int .i64 c.cy,.int .i64 c.ex,.int .i64 c.fi,.int .i64 c.la,.int .i64 c.po],.int .i64 y] w fun e w'=>e= .returned (.tuple #[.int .i64 v,.int .i64 0])∧Below w.heap.size w w':=by
 have C:=CalIn.new w c 24
 have B:=balloc (Below.refl _ w) (.cells #[.string c.nm,.int .i64 c.k,.int .i64 c.d,.int .i64 c.m,.int .i64 c.s,.int .i64 c.sh,.int .i64 c.p0,.int .i64 c.p1,.int .i64 c.p2,.int .i64 c.cy,.int .i64 c.ex,.int .i64 c.fi,.int .i64 c.la,.int .i64 c.po] 24)
 have hw:IntKind.i64.wrap (y+c.s)=y+c.s:=by rw [IntWalk.i64_in _ (by omega)]
 rcases q with k1|⟨k1,k4⟩
 all_goals
  go_enter Tryz.func63,Tryz.ntmps63
  go_upto_region 1 with fail
  generalize w.alloc (.cells #[.string c.nm,.int .i64 c.k,.int .i64 c.d,.int .i64 c.m,.int .i64 c.s,.int .i64 c.sh,.int .i64 c.p0,.int .i64 c.p1,.int .i64 c.p2,.int .i64 c.cy,.int .i64 c.ex,.int .i64 c.fi,.int .i64 c.la,.int .i64 c.po] 24)=W0 at *
  obtain ⟨_,c0,c1,c2,c3,c4,c5,c6,c7,c8,c9,c10,c11,c12,c13⟩:=id C
  go_wp2_with fail
  refine (ck _).mono ?_
  rintro e w1 ⟨rfl,hb⟩
  have C1:=C.kept hb
  have B1:=bthen B hb
  clear hb c0 c1 c2 c3 c4 c5 c6 c7 c8 c9 c10 c11 c12 c13 C B
  obtain ⟨_,c0,c1,c2,c3,c4,c5,c6,c7,c8,c9,c10,c11,c12,c13⟩:=id C1
  go_wp2_with fail
  refine (cl _).mono ?_
  rintro e w2 ⟨rfl,hb⟩
  go_wp2
  go_ret2
  exact ⟨rfl,bthen B1 hb⟩

set_option maxRecDepth 100000 in
theorem rend_near (c:CalZ)(y v:Int)(w:World)(k1:(c.k==1)=false)(k4:(c.k==4)=false)(k6:(c.k==6)=false)(s0:0≤c.s)(s1:c.s≤1)(y0:1600≤y)(y1:y≤9997)
  (ck:∀ w,Calls Tryz.prog 30 #[.agg #[.string c.nm,.int .i64 c.k,.int .i64 c.d,.int .i64 c.m,.int .i64 c.s,.int .i64 c.sh,.int .i64 c.p0,.int .i64 c.p1,.int .i64 c.p2,.int .i64 c.cy,.int .i64 c.ex,.int .i64 c.fi,.int .i64 c.la,.int .i64 c.po]] w fun e w'=>e= .returned (.int .i64 0)∧Below w.heap.size w w')
  (cl:∀ w,Calls Tryz.prog 111 #[.int .i64 (y+c.s),.int .i64 c.m,.int .i64 c.d] w fun e w'=>e= .returned (.tuple #[.int .i64 v,.int .i64 0])∧Below w.heap.size w w') :
  Calls Tryz.prog 63 #[.agg #[.string c.nm,.int .i64 c.k,.int .i64 c.d,.int .i64 c.m,.int .i64 c.s,.int .i64 c.sh,.int .i64 c.p0,.int .i64 c.p1,.int .i64 c.p2,.int .i64 c.cy,.int .i64 c.ex,.int .i64 c.fi,.int .i64 c.la,.int .i64 c.po],.int .i64 y] w fun e w'=>e= .returned (.tuple #[.int .i64 v,.int .i64 0])∧Below w.heap.size w w':=by
 have C:=CalIn.new w c 24
 have B:=balloc (Below.refl _ w) (.cells #[.string c.nm,.int .i64 c.k,.int .i64 c.d,.int .i64 c.m,.int .i64 c.s,.int .i64 c.sh,.int .i64 c.p0,.int .i64 c.p1,.int .i64 c.p2,.int .i64 c.cy,.int .i64 c.ex,.int .i64 c.fi,.int .i64 c.la,.int .i64 c.po] 24)
 have hw:IntKind.i64.wrap (y+c.s)=y+c.s:=by rw [IntWalk.i64_in _ (by omega)]
 go_enter Tryz.func63,Tryz.ntmps63
 go_upto_region 1 with fail
 generalize w.alloc (.cells #[.string c.nm,.int .i64 c.k,.int .i64 c.d,.int .i64 c.m,.int .i64 c.s,.int .i64 c.sh,.int .i64 c.p0,.int .i64 c.p1,.int .i64 c.p2,.int .i64 c.cy,.int .i64 c.ex,.int .i64 c.fi,.int .i64 c.la,.int .i64 c.po] 24)=W0 at *
 obtain ⟨_,c0,c1,c2,c3,c4,c5,c6,c7,c8,c9,c10,c11,c12,c13⟩:=id C
 go_wp2_with fail
 refine (ck _).mono ?_
 rintro e w1 ⟨rfl,hb⟩
 have C1:=C.kept hb
 have B1:=bthen B hb
 clear hb c0 c1 c2 c3 c4 c5 c6 c7 c8 c9 c10 c11 c12 c13 C B
 obtain ⟨_,c0,c1,c2,c3,c4,c5,c6,c7,c8,c9,c10,c11,c12,c13⟩:=id C1
 go_wp2_with fail
 refine (cl _).mono ?_
 rintro e w2 ⟨rfl,hb⟩
 go_wp2
 go_ret2
 exact ⟨rfl,bthen B1 hb⟩

set_option maxRecDepth 100000 in
theorem rend_month (c:CalZ)(y l v:Int)(w:World)(k1:(c.k==1)=false)(k4:(c.k==4)=false)(k6:(c.k==6)=true)(s0:0≤c.s)(s1:c.s≤1)(y0:1600≤y)(y1:y≤9997)
  (ck:∀ w,Calls Tryz.prog 30 #[.agg #[.string c.nm,.int .i64 c.k,.int .i64 c.d,.int .i64 c.m,.int .i64 c.s,.int .i64 c.sh,.int .i64 c.p0,.int .i64 c.p1,.int .i64 c.p2,.int .i64 c.cy,.int .i64 c.ex,.int .i64 c.fi,.int .i64 c.la,.int .i64 c.po]] w fun e w'=>e= .returned (.int .i64 0)∧Below w.heap.size w w')
  (cl:∀ w,Calls Tryz.prog 66 #[.int .i64 (y+c.s),.int .i64 c.m] w fun e w'=>e= .returned (.tuple #[.int .i64 l,.int .i64 0])∧w=w')
  (cd:∀ w,Calls Tryz.prog 110 #[.agg #[.int .i64 (y+c.s),.int .i64 c.m,.int .i64 l]] w fun e w'=>e= .returned (.tuple #[.int .i64 v,.int .i64 0])∧Below w.heap.size w w') :
  Calls Tryz.prog 63 #[.agg #[.string c.nm,.int .i64 c.k,.int .i64 c.d,.int .i64 c.m,.int .i64 c.s,.int .i64 c.sh,.int .i64 c.p0,.int .i64 c.p1,.int .i64 c.p2,.int .i64 c.cy,.int .i64 c.ex,.int .i64 c.fi,.int .i64 c.la,.int .i64 c.po],.int .i64 y] w fun e w'=>e= .returned (.tuple #[.int .i64 v,.int .i64 0])∧Below w.heap.size w w':=by
 have C:=CalIn.new w c 24
 have B:=balloc (Below.refl _ w) (.cells #[.string c.nm,.int .i64 c.k,.int .i64 c.d,.int .i64 c.m,.int .i64 c.s,.int .i64 c.sh,.int .i64 c.p0,.int .i64 c.p1,.int .i64 c.p2,.int .i64 c.cy,.int .i64 c.ex,.int .i64 c.fi,.int .i64 c.la,.int .i64 c.po] 24)
 have hw:IntKind.i64.wrap (y+c.s)=y+c.s:=by rw [IntWalk.i64_in _ (by omega)]
 go_enter Tryz.func63,Tryz.ntmps63
 go_upto_region 1 with fail
 generalize w.alloc (.cells #[.string c.nm,.int .i64 c.k,.int .i64 c.d,.int .i64 c.m,.int .i64 c.s,.int .i64 c.sh,.int .i64 c.p0,.int .i64 c.p1,.int .i64 c.p2,.int .i64 c.cy,.int .i64 c.ex,.int .i64 c.fi,.int .i64 c.la,.int .i64 c.po] 24)=W0 at *
 obtain ⟨_,c0,c1,c2,c3,c4,c5,c6,c7,c8,c9,c10,c11,c12,c13⟩:=id C
 go_wp2_with fail
 refine (ck _).mono ?_
 rintro e w1 ⟨rfl,hb⟩
 have C1:=C.kept hb
 have B1:=bthen B hb
 clear hb c0 c1 c2 c3 c4 c5 c6 c7 c8 c9 c10 c11 c12 c13 C B
 obtain ⟨_,c0,c1,c2,c3,c4,c5,c6,c7,c8,c9,c10,c11,c12,c13⟩:=id C1
 go_wp2_with fail
 refine (cl _).mono ?_
 rintro e w2 ⟨rfl,rfl⟩
 go_wp2_with fail
 refine (cd _).mono ?_
 rintro e w3 ⟨rfl,hb⟩
 go_wp2
 go_ret2
 exact ⟨rfl,bthen B1 hb⟩

set_option maxRecDepth 100000 in
theorem rend_out (c:CalZ)(y:Int)(w:World)(h:y<1600∨(1600≤y∧9997<y))(ck:∀ w,Calls Tryz.prog 30 #[.agg #[.string c.nm,.int .i64 c.k,.int .i64 c.d,.int .i64 c.m,.int .i64 c.s,.int .i64 c.sh,.int .i64 c.p0,.int .i64 c.p1,.int .i64 c.p2,.int .i64 c.cy,.int .i64 c.ex,.int .i64 c.fi,.int .i64 c.la,.int .i64 c.po]] w fun e w'=>e= .returned (.int .i64 0)∧Below w.heap.size w w') :
  Calls Tryz.prog 63 #[.agg #[.string c.nm,.int .i64 c.k,.int .i64 c.d,.int .i64 c.m,.int .i64 c.s,.int .i64 c.sh,.int .i64 c.p0,.int .i64 c.p1,.int .i64 c.p2,.int .i64 c.cy,.int .i64 c.ex,.int .i64 c.fi,.int .i64 c.la,.int .i64 c.po],.int .i64 y] w fun e w'=>e= .returned (.tuple #[.int .i64 0,.int .i64 11])∧Below w.heap.size w w':=by
 have C:=CalIn.new w c 24
 have B:=balloc (Below.refl _ w) (.cells #[.string c.nm,.int .i64 c.k,.int .i64 c.d,.int .i64 c.m,.int .i64 c.s,.int .i64 c.sh,.int .i64 c.p0,.int .i64 c.p1,.int .i64 c.p2,.int .i64 c.cy,.int .i64 c.ex,.int .i64 c.fi,.int .i64 c.la,.int .i64 c.po] 24)
 rcases h with y0|⟨y0,y1⟩
 all_goals
  go_enter Tryz.func63,Tryz.ntmps63
  go_upto_region 1 with fail
  generalize w.alloc (.cells #[.string c.nm,.int .i64 c.k,.int .i64 c.d,.int .i64 c.m,.int .i64 c.s,.int .i64 c.sh,.int .i64 c.p0,.int .i64 c.p1,.int .i64 c.p2,.int .i64 c.cy,.int .i64 c.ex,.int .i64 c.fi,.int .i64 c.la,.int .i64 c.po] 24)=W0 at *
  obtain ⟨_,c0,c1,c2,c3,c4,c5,c6,c7,c8,c9,c10,c11,c12,c13⟩:=id C
  go_wp2_with fail
  refine (ck _).mono ?_
  rintro e w1 ⟨rfl,hb⟩
  go_wp2
  go_ret2
  exact ⟨rfl,bthen B hb⟩

set_option maxRecDepth 100000 in
theorem rend_bad (c:CalZ)(y:Int)(w:World)(ck:∀ w,Calls Tryz.prog 30 #[.agg #[.string c.nm,.int .i64 c.k,.int .i64 c.d,.int .i64 c.m,.int .i64 c.s,.int .i64 c.sh,.int .i64 c.p0,.int .i64 c.p1,.int .i64 c.p2,.int .i64 c.cy,.int .i64 c.ex,.int .i64 c.fi,.int .i64 c.la,.int .i64 c.po]] w fun e w'=>e= .returned (.int .i64 1)∧Below w.heap.size w w') :
  Calls Tryz.prog 63 #[.agg #[.string c.nm,.int .i64 c.k,.int .i64 c.d,.int .i64 c.m,.int .i64 c.s,.int .i64 c.sh,.int .i64 c.p0,.int .i64 c.p1,.int .i64 c.p2,.int .i64 c.cy,.int .i64 c.ex,.int .i64 c.fi,.int .i64 c.la,.int .i64 c.po],.int .i64 y] w fun e w'=>e= .returned (.tuple #[.int .i64 0,.int .i64 1])∧Below w.heap.size w w':=by
 have C:=CalIn.new w c 24
 have B:=balloc (Below.refl _ w) (.cells #[.string c.nm,.int .i64 c.k,.int .i64 c.d,.int .i64 c.m,.int .i64 c.s,.int .i64 c.sh,.int .i64 c.p0,.int .i64 c.p1,.int .i64 c.p2,.int .i64 c.cy,.int .i64 c.ex,.int .i64 c.fi,.int .i64 c.la,.int .i64 c.po] 24)
 go_enter Tryz.func63,Tryz.ntmps63
 go_upto_region 1 with fail
 generalize w.alloc (.cells #[.string c.nm,.int .i64 c.k,.int .i64 c.d,.int .i64 c.m,.int .i64 c.s,.int .i64 c.sh,.int .i64 c.p0,.int .i64 c.p1,.int .i64 c.p2,.int .i64 c.cy,.int .i64 c.ex,.int .i64 c.fi,.int .i64 c.la,.int .i64 c.po] 24)=W0 at *
 obtain ⟨_,c0,c1,c2,c3,c4,c5,c6,c7,c8,c9,c10,c11,c12,c13⟩:=id C
 go_wp2_with fail
 refine (ck _).mono ?_
 rintro e w1 ⟨rfl,hb⟩
 go_wp2
 go_ret2
 exact ⟨rfl,bthen B hb⟩

theorem rEnd_any (c:CalZ)(y v er:Int)(w:World)(R:EndA c y v er)(K:ChkSays c) :
  Calls Tryz.prog 63 #[.agg #[.string c.nm,.int .i64 c.k,.int .i64 c.d,.int .i64 c.m,.int .i64 c.s,.int .i64 c.sh,.int .i64 c.p0,.int .i64 c.p1,.int .i64 c.p2,.int .i64 c.cy,.int .i64 c.ex,.int .i64 c.fi,.int .i64 c.la,.int .i64 c.po],.int .i64 y] w fun e w'=>e= .returned (.tuple #[.int .i64 v,.int .i64 er])∧Below w.heap.size w w':=by
 rcases R with ⟨ok,h1,h2,hv,rfl⟩|⟨ok,h,rfl,rfl⟩|⟨no,rfl,rfl⟩
 ·have ck:=fun w=>K 0 w (.inl ⟨ok,rfl⟩)
  have b:=kind_bd ok.1
  have mo:=mon_ok ok.1 h1 (by omega)
  have bd:=yend_bd ok.1 h1 h2
  rw [← hv] at bd
  unfold yend at hv
  by_cases h:c.k=1∨c.k=4
  ·rw [if_pos h] at hv
   have d:=b.2.2.2.2.2.2.1 (by omega)
   refine rend_last c y v w ?_ b.2.2.1 b.2.2.2.1 h1 h2 ck (fun w=>Er.rLast_any _ _ _ v 0 w (.inl ⟨mo,d.1,d.2,hv,rfl⟩))
   rcases h with h|h
   ·exact .inl (by rw [h];rfl)
   ·exact .inr ⟨by rw [h];rfl,by rw [h];rfl⟩
  ·rw [if_neg h] at hv
   have k1:(c.k==1)=false:=beq_eq_false_iff_ne.2 (by omega)
   have k4:(c.k==4)=false:=beq_eq_false_iff_ne.2 (by omega)
   by_cases h6:c.k=6
   ·rw [if_pos h6] at hv
    exact rend_month c y (mlen (y+c.s) c.m) v w k1 k4 (by rw [h6];rfl) b.2.2.1 b.2.2.2.1 h1 h2 ck (fun w=>Cr.rLength_any _ _ _ 0 w (.inl ⟨mo,rfl,rfl⟩)) (fun w=>Cr.rDay_any _ _ _ v 0 w (.inl ⟨end_ok mo,hv,rfl⟩))
   ·rw [if_neg h6] at hv
    have d:=b.2.2.2.2.2.2.1 h6
    exact rend_near c y v w k1 k4 (beq_eq_false_iff_ne.2 h6) b.2.2.1 b.2.2.2.1 h1 h2 ck (fun w=>Er.rNear_any _ _ _ v 0 w (.inl ⟨mo,d.1,d.2,by omega,hv,rfl⟩))
 ·exact rend_out c y w (by omega) (fun w=>K 0 w (.inl ⟨ok,rfl⟩))
 ·exact rend_bad c y w (fun w=>K 1 w (.inr ⟨no,rfl⟩))

def TldR (c:CalZ)(y er:Int):Prop:=(CalOk c∧1601≤y∧y≤9997∧er=0)∨(CalOk c∧¬ (1601≤y∧y≤9997)∧er=11)∨(¬ CalOk c∧er=1)

set_option maxRecDepth 100000 in
theorem rtold_any (c:CalZ)(y er:Int)(w:World)(R:TldR c y er)(K:ChkSays c) :
  Calls Tryz.prog 62 #[.agg #[.string c.nm,.int .i64 c.k,.int .i64 c.d,.int .i64 c.m,.int .i64 c.s,.int .i64 c.sh,.int .i64 c.p0,.int .i64 c.p1,.int .i64 c.p2,.int .i64 c.cy,.int .i64 c.ex,.int .i64 c.fi,.int .i64 c.la,.int .i64 c.po],.int .i64 y] w fun e w'=>e= .returned (.int .i64 er)∧Below w.heap.size w w':=by
 have C:=CalIn.new w c 24
 have B:=balloc (Below.refl _ w) (.cells #[.string c.nm,.int .i64 c.k,.int .i64 c.d,.int .i64 c.m,.int .i64 c.s,.int .i64 c.sh,.int .i64 c.p0,.int .i64 c.p1,.int .i64 c.p2,.int .i64 c.cy,.int .i64 c.ex,.int .i64 c.fi,.int .i64 c.la,.int .i64 c.po] 24)
 have O:(∃ h,h=0∧ChkA c h∧1601≤y∧y≤9997∧er=0)∨(∃ h,h=0∧ChkA c h∧y<1601∧er=11)∨(∃ h,h=0∧ChkA c h∧1601≤y∧9997<y∧er=11)∨(∃ h,h=1∧ChkA c h∧er=1):=by
  rcases R with ⟨ok,h1,h2,rfl⟩|⟨ok,h,rfl⟩|⟨no,rfl⟩
  ·exact .inl ⟨0,rfl,.inl ⟨ok,rfl⟩,h1,h2,rfl⟩
  ·by_cases k:1601≤y
   ·exact .inr (.inr (.inl ⟨0,rfl,.inl ⟨ok,rfl⟩,k,by omega,rfl⟩))
   ·exact .inr (.inl ⟨0,rfl,.inl ⟨ok,rfl⟩,by omega,rfl⟩)
  ·exact .inr (.inr (.inr ⟨1,rfl,.inr ⟨no,rfl⟩,rfl⟩))
 clear R
 rcases O with ⟨h,rfl,ch,h1,h2,rfl⟩|⟨h,rfl,ch,h1,rfl⟩|⟨h,rfl,ch,h1,h2,rfl⟩|⟨h,rfl,ch,rfl⟩
 all_goals
  have cc:=fun w=>K _ w ch
  clear ch
  go_enter Tryz.func62,Tryz.ntmps62
  go_upto_region 1 with fail
  generalize w.alloc (.cells #[.string c.nm,.int .i64 c.k,.int .i64 c.d,.int .i64 c.m,.int .i64 c.s,.int .i64 c.sh,.int .i64 c.p0,.int .i64 c.p1,.int .i64 c.p2,.int .i64 c.cy,.int .i64 c.ex,.int .i64 c.fi,.int .i64 c.la,.int .i64 c.po] 24)=W0 at *
  obtain ⟨_,c0,c1,c2,c3,c4,c5,c6,c7,c8,c9,c10,c11,c12,c13⟩:=id C
  go_wp2_with fail
  refine (cc _).mono ?_
  rintro e w1 ⟨rfl,hb⟩
  go_wp2
  go_ret
  exact ⟨rfl,bthen B hb⟩

set_option maxRecDepth 100000 in
theorem rstart_bad (c:CalZ)(y er:Int)(w:World)(h:er=11∨er=1)(ct:∀ w,Calls Tryz.prog 62 #[.agg #[.string c.nm,.int .i64 c.k,.int .i64 c.d,.int .i64 c.m,.int .i64 c.s,.int .i64 c.sh,.int .i64 c.p0,.int .i64 c.p1,.int .i64 c.p2,.int .i64 c.cy,.int .i64 c.ex,.int .i64 c.fi,.int .i64 c.la,.int .i64 c.po],.int .i64 y] w fun e w'=>e= .returned (.int .i64 er)∧Below w.heap.size w w') :
  Calls Tryz.prog 31 #[.agg #[.string c.nm,.int .i64 c.k,.int .i64 c.d,.int .i64 c.m,.int .i64 c.s,.int .i64 c.sh,.int .i64 c.p0,.int .i64 c.p1,.int .i64 c.p2,.int .i64 c.cy,.int .i64 c.ex,.int .i64 c.fi,.int .i64 c.la,.int .i64 c.po],.int .i64 y] w fun e w'=>e= .returned (.tuple #[.int .i64 0,.int .i64 er])∧Below w.heap.size w w':=by
 have C:=CalIn.new w c 24
 have B:=balloc (Below.refl _ w) (.cells #[.string c.nm,.int .i64 c.k,.int .i64 c.d,.int .i64 c.m,.int .i64 c.s,.int .i64 c.sh,.int .i64 c.p0,.int .i64 c.p1,.int .i64 c.p2,.int .i64 c.cy,.int .i64 c.ex,.int .i64 c.fi,.int .i64 c.la,.int .i64 c.po] 24)
 rcases h with rfl|rfl
 all_goals
  go_enter Tryz.func31,Tryz.ntmps31
  go_upto_region 1 with fail
  generalize w.alloc (.cells #[.string c.nm,.int .i64 c.k,.int .i64 c.d,.int .i64 c.m,.int .i64 c.s,.int .i64 c.sh,.int .i64 c.p0,.int .i64 c.p1,.int .i64 c.p2,.int .i64 c.cy,.int .i64 c.ex,.int .i64 c.fi,.int .i64 c.la,.int .i64 c.po] 24)=W0 at *
  obtain ⟨_,c0,c1,c2,c3,c4,c5,c6,c7,c8,c9,c10,c11,c12,c13⟩:=id C
  go_wp2_with fail
  refine (ct _).mono ?_
  rintro e w1 ⟨rfl,hb⟩
  go_wp2
  go_ret2
  exact ⟨rfl,bthen B hb⟩

set_option maxRecDepth 100000 in
theorem rdays_bad (c:CalZ)(y er:Int)(w:World)(h:er=11∨er=1)(ct:∀ w,Calls Tryz.prog 62 #[.agg #[.string c.nm,.int .i64 c.k,.int .i64 c.d,.int .i64 c.m,.int .i64 c.s,.int .i64 c.sh,.int .i64 c.p0,.int .i64 c.p1,.int .i64 c.p2,.int .i64 c.cy,.int .i64 c.ex,.int .i64 c.fi,.int .i64 c.la,.int .i64 c.po],.int .i64 y] w fun e w'=>e= .returned (.int .i64 er)∧Below w.heap.size w w') :
  Calls Tryz.prog 114 #[.agg #[.string c.nm,.int .i64 c.k,.int .i64 c.d,.int .i64 c.m,.int .i64 c.s,.int .i64 c.sh,.int .i64 c.p0,.int .i64 c.p1,.int .i64 c.p2,.int .i64 c.cy,.int .i64 c.ex,.int .i64 c.fi,.int .i64 c.la,.int .i64 c.po],.int .i64 y] w fun e w'=>e= .returned (.tuple #[.int .i64 0,.int .i64 er])∧Below w.heap.size w w':=by
 have C:=CalIn.new w c 24
 have B:=balloc (Below.refl _ w) (.cells #[.string c.nm,.int .i64 c.k,.int .i64 c.d,.int .i64 c.m,.int .i64 c.s,.int .i64 c.sh,.int .i64 c.p0,.int .i64 c.p1,.int .i64 c.p2,.int .i64 c.cy,.int .i64 c.ex,.int .i64 c.fi,.int .i64 c.la,.int .i64 c.po] 24)
 rcases h with rfl|rfl
 all_goals
  go_enter Tryz.func114,Tryz.ntmps114
  go_upto_region 1 with fail
  generalize w.alloc (.cells #[.string c.nm,.int .i64 c.k,.int .i64 c.d,.int .i64 c.m,.int .i64 c.s,.int .i64 c.sh,.int .i64 c.p0,.int .i64 c.p1,.int .i64 c.p2,.int .i64 c.cy,.int .i64 c.ex,.int .i64 c.fi,.int .i64 c.la,.int .i64 c.po] 24)=W0 at *
  obtain ⟨_,c0,c1,c2,c3,c4,c5,c6,c7,c8,c9,c10,c11,c12,c13⟩:=id C
  go_wp2_with fail
  refine (ct _).mono ?_
  rintro e w1 ⟨rfl,hb⟩
  go_wp2
  go_ret2
  exact ⟨rfl,bthen B hb⟩

set_option maxRecDepth 100000 in
theorem rstart_ok (c:CalZ)(y u:Int)(w:World)(y0:1601≤y)(y1:y≤9997)(u0:0≤u)(u1:u≤3068036)(ct:∀ w,Calls Tryz.prog 62 #[.agg #[.string c.nm,.int .i64 c.k,.int .i64 c.d,.int .i64 c.m,.int .i64 c.s,.int .i64 c.sh,.int .i64 c.p0,.int .i64 c.p1,.int .i64 c.p2,.int .i64 c.cy,.int .i64 c.ex,.int .i64 c.fi,.int .i64 c.la,.int .i64 c.po],.int .i64 y] w fun e w'=>e= .returned (.int .i64 0)∧Below w.heap.size w w')(ce:∀ w,Calls Tryz.prog 63 #[.agg #[.string c.nm,.int .i64 c.k,.int .i64 c.d,.int .i64 c.m,.int .i64 c.s,.int .i64 c.sh,.int .i64 c.p0,.int .i64 c.p1,.int .i64 c.p2,.int .i64 c.cy,.int .i64 c.ex,.int .i64 c.fi,.int .i64 c.la,.int .i64 c.po],.int .i64 (y - 1)] w fun e w'=>e= .returned (.tuple #[.int .i64 u,.int .i64 0])∧Below w.heap.size w w') :
  Calls Tryz.prog 31 #[.agg #[.string c.nm,.int .i64 c.k,.int .i64 c.d,.int .i64 c.m,.int .i64 c.s,.int .i64 c.sh,.int .i64 c.p0,.int .i64 c.p1,.int .i64 c.p2,.int .i64 c.cy,.int .i64 c.ex,.int .i64 c.fi,.int .i64 c.la,.int .i64 c.po],.int .i64 y] w fun e w'=>e= .returned (.tuple #[.int .i64 (u+1),.int .i64 0])∧Below w.heap.size w w':=by
 have C:=CalIn.new w c 24
 have B:=balloc (Below.refl _ w) (.cells #[.string c.nm,.int .i64 c.k,.int .i64 c.d,.int .i64 c.m,.int .i64 c.s,.int .i64 c.sh,.int .i64 c.p0,.int .i64 c.p1,.int .i64 c.p2,.int .i64 c.cy,.int .i64 c.ex,.int .i64 c.fi,.int .i64 c.la,.int .i64 c.po] 24)
 go_enter Tryz.func31,Tryz.ntmps31
 go_upto_region 1 with fail
 generalize w.alloc (.cells #[.string c.nm,.int .i64 c.k,.int .i64 c.d,.int .i64 c.m,.int .i64 c.s,.int .i64 c.sh,.int .i64 c.p0,.int .i64 c.p1,.int .i64 c.p2,.int .i64 c.cy,.int .i64 c.ex,.int .i64 c.fi,.int .i64 c.la,.int .i64 c.po] 24)=W0 at *
 obtain ⟨_,c0,c1,c2,c3,c4,c5,c6,c7,c8,c9,c10,c11,c12,c13⟩:=id C
 go_wp2_with fail
 refine (ct _).mono ?_
 rintro e w1 ⟨rfl,hb⟩
 have C1:=C.kept hb
 have B1:=bthen B hb
 clear hb c0 c1 c2 c3 c4 c5 c6 c7 c8 c9 c10 c11 c12 c13 C B
 obtain ⟨_,c0,c1,c2,c3,c4,c5,c6,c7,c8,c9,c10,c11,c12,c13⟩:=id C1
 go_wp2_with fail
 refine (ce _).mono ?_
 rintro e w2 ⟨rfl,hb⟩
 go_wp2
 go_ret2
 exact ⟨rfl,bthen B1 hb⟩

set_option maxRecDepth 100000 in
theorem rdays_ok (c:CalZ)(y u z:Int)(w:World)(y0:1601≤y)(y1:y≤9997)(u0:0≤u)(u1:u≤3068036)(z0:0≤z)(z1:z≤3068036)(ct:∀ w,Calls Tryz.prog 62 #[.agg #[.string c.nm,.int .i64 c.k,.int .i64 c.d,.int .i64 c.m,.int .i64 c.s,.int .i64 c.sh,.int .i64 c.p0,.int .i64 c.p1,.int .i64 c.p2,.int .i64 c.cy,.int .i64 c.ex,.int .i64 c.fi,.int .i64 c.la,.int .i64 c.po],.int .i64 y] w fun e w'=>e= .returned (.int .i64 0)∧Below w.heap.size w w')(ce:∀ w,Calls Tryz.prog 63 #[.agg #[.string c.nm,.int .i64 c.k,.int .i64 c.d,.int .i64 c.m,.int .i64 c.s,.int .i64 c.sh,.int .i64 c.p0,.int .i64 c.p1,.int .i64 c.p2,.int .i64 c.cy,.int .i64 c.ex,.int .i64 c.fi,.int .i64 c.la,.int .i64 c.po],.int .i64 (y - 1)] w fun e w'=>e= .returned (.tuple #[.int .i64 u,.int .i64 0])∧Below w.heap.size w w')(cz:∀ w,Calls Tryz.prog 63 #[.agg #[.string c.nm,.int .i64 c.k,.int .i64 c.d,.int .i64 c.m,.int .i64 c.s,.int .i64 c.sh,.int .i64 c.p0,.int .i64 c.p1,.int .i64 c.p2,.int .i64 c.cy,.int .i64 c.ex,.int .i64 c.fi,.int .i64 c.la,.int .i64 c.po],.int .i64 y] w fun e w'=>e= .returned (.tuple #[.int .i64 z,.int .i64 0])∧Below w.heap.size w w') :
  Calls Tryz.prog 114 #[.agg #[.string c.nm,.int .i64 c.k,.int .i64 c.d,.int .i64 c.m,.int .i64 c.s,.int .i64 c.sh,.int .i64 c.p0,.int .i64 c.p1,.int .i64 c.p2,.int .i64 c.cy,.int .i64 c.ex,.int .i64 c.fi,.int .i64 c.la,.int .i64 c.po],.int .i64 y] w fun e w'=>e= .returned (.tuple #[.int .i64 (z - u),.int .i64 0])∧Below w.heap.size w w':=by
 have C:=CalIn.new w c 24
 have B:=balloc (Below.refl _ w) (.cells #[.string c.nm,.int .i64 c.k,.int .i64 c.d,.int .i64 c.m,.int .i64 c.s,.int .i64 c.sh,.int .i64 c.p0,.int .i64 c.p1,.int .i64 c.p2,.int .i64 c.cy,.int .i64 c.ex,.int .i64 c.fi,.int .i64 c.la,.int .i64 c.po] 24)
 go_enter Tryz.func114,Tryz.ntmps114
 go_upto_region 1 with fail
 generalize w.alloc (.cells #[.string c.nm,.int .i64 c.k,.int .i64 c.d,.int .i64 c.m,.int .i64 c.s,.int .i64 c.sh,.int .i64 c.p0,.int .i64 c.p1,.int .i64 c.p2,.int .i64 c.cy,.int .i64 c.ex,.int .i64 c.fi,.int .i64 c.la,.int .i64 c.po] 24)=W0 at *
 obtain ⟨_,c0,c1,c2,c3,c4,c5,c6,c7,c8,c9,c10,c11,c12,c13⟩:=id C
 go_wp2_with fail
 refine (ct _).mono ?_
 rintro e w1 ⟨rfl,hb⟩
 have C1:=C.kept hb
 have B1:=bthen B hb
 clear hb c0 c1 c2 c3 c4 c5 c6 c7 c8 c9 c10 c11 c12 c13 C B
 obtain ⟨_,c0,c1,c2,c3,c4,c5,c6,c7,c8,c9,c10,c11,c12,c13⟩:=id C1
 go_wp2_with fail
 refine (ce _).mono ?_
 rintro e w2 ⟨rfl,hb⟩
 have C2:=C1.kept hb
 have B2:=bthen B1 hb
 clear hb c0 c1 c2 c3 c4 c5 c6 c7 c8 c9 c10 c11 c12 c13 C1 B1
 obtain ⟨_,c0,c1,c2,c3,c4,c5,c6,c7,c8,c9,c10,c11,c12,c13⟩:=id C2
 go_wp2_with fail
 refine (cz _).mono ?_
 rintro e w3 ⟨rfl,hb⟩
 go_wp2
 go_ret2
 exact ⟨rfl,bthen B2 hb⟩

theorem rStart_any (c:CalZ)(y v er:Int)(w:World)(R:StartA c y v er)(K:ChkSays c) :
  Calls Tryz.prog 31 #[.agg #[.string c.nm,.int .i64 c.k,.int .i64 c.d,.int .i64 c.m,.int .i64 c.s,.int .i64 c.sh,.int .i64 c.p0,.int .i64 c.p1,.int .i64 c.p2,.int .i64 c.cy,.int .i64 c.ex,.int .i64 c.fi,.int .i64 c.la,.int .i64 c.po],.int .i64 y] w fun e w'=>e= .returned (.tuple #[.int .i64 v,.int .i64 er])∧Below w.heap.size w w':=by
 rcases R with ⟨ok,h1,h2,rfl,rfl⟩|⟨ok,h,rfl,rfl⟩|⟨no,rfl,rfl⟩
 ·have bd:=yend_bd ok.1 (y:=y - 1) (by omega) (by omega)
  exact rstart_ok c y _ w h1 h2 bd.1 bd.2 (fun w=>rtold_any c y 0 w (.inl ⟨ok,h1,h2,rfl⟩) K) (fun w=>rEnd_any c (y - 1) _ 0 w (.inl ⟨ok,by omega,by omega,rfl,rfl⟩) K)
 ·exact rstart_bad c y 11 w (.inl rfl) (fun w=>rtold_any c y 11 w (.inr (.inl ⟨ok,h,rfl⟩)) K)
 ·exact rstart_bad c y 1 w (.inr rfl) (fun w=>rtold_any c y 1 w (.inr (.inr ⟨no,rfl⟩)) K)

theorem rDays_any (c:CalZ)(y v er:Int)(w:World)(R:DaysA c y v er)(K:ChkSays c) :
  Calls Tryz.prog 114 #[.agg #[.string c.nm,.int .i64 c.k,.int .i64 c.d,.int .i64 c.m,.int .i64 c.s,.int .i64 c.sh,.int .i64 c.p0,.int .i64 c.p1,.int .i64 c.p2,.int .i64 c.cy,.int .i64 c.ex,.int .i64 c.fi,.int .i64 c.la,.int .i64 c.po],.int .i64 y] w fun e w'=>e= .returned (.tuple #[.int .i64 v,.int .i64 er])∧Below w.heap.size w w':=by
 rcases R with ⟨ok,h1,h2,rfl,rfl⟩|⟨ok,h,rfl,rfl⟩|⟨no,rfl,rfl⟩
 ·have bd:=yend_bd ok.1 (y:=y - 1) (by omega) (by omega)
  have bz:=yend_bd ok.1 (y:=y) (by omega) h2
  exact rdays_ok c y _ _ w h1 h2 bd.1 bd.2 bz.1 bz.2 (fun w=>rtold_any c y 0 w (.inl ⟨ok,h1,h2,rfl⟩) K) (fun w=>rEnd_any c (y - 1) _ 0 w (.inl ⟨ok,by omega,by omega,rfl,rfl⟩) K) (fun w=>rEnd_any c y _ 0 w (.inl ⟨ok,by omega,h2,rfl,rfl⟩) K)
 ·exact rdays_bad c y 11 w (.inl rfl) (fun w=>rtold_any c y 11 w (.inr (.inl ⟨ok,h,rfl⟩)) K)
 ·exact rdays_bad c y 1 w (.inr rfl) (fun w=>rtold_any c y 1 w (.inr (.inr ⟨no,rfl⟩)) K)

set_option maxRecDepth 100000 in
theorem rweeks_ok (c:CalZ)(y d er:Int)(w:World)(d6:(c.k==6)=false)(d0:0≤d)(d1:d≤400)(ck:∀ w,Calls Tryz.prog 30 #[.agg #[.string c.nm,.int .i64 c.k,.int .i64 c.d,.int .i64 c.m,.int .i64 c.s,.int .i64 c.sh,.int .i64 c.p0,.int .i64 c.p1,.int .i64 c.p2,.int .i64 c.cy,.int .i64 c.ex,.int .i64 c.fi,.int .i64 c.la,.int .i64 c.po]] w fun e w'=>e= .returned (.int .i64 0)∧Below w.heap.size w w')(cd:∀ w,Calls Tryz.prog 114 #[.agg #[.string c.nm,.int .i64 c.k,.int .i64 c.d,.int .i64 c.m,.int .i64 c.s,.int .i64 c.sh,.int .i64 c.p0,.int .i64 c.p1,.int .i64 c.p2,.int .i64 c.cy,.int .i64 c.ex,.int .i64 c.fi,.int .i64 c.la,.int .i64 c.po],.int .i64 y] w fun e w'=>e= .returned (.tuple #[.int .i64 d,.int .i64 er])∧Below w.heap.size w w') :
  Calls Tryz.prog 68 #[.agg #[.string c.nm,.int .i64 c.k,.int .i64 c.d,.int .i64 c.m,.int .i64 c.s,.int .i64 c.sh,.int .i64 c.p0,.int .i64 c.p1,.int .i64 c.p2,.int .i64 c.cy,.int .i64 c.ex,.int .i64 c.fi,.int .i64 c.la,.int .i64 c.po],.int .i64 y] w fun e w'=>e= .returned (.tuple #[.int .i64 (d / 7),.int .i64 er])∧Below w.heap.size w w':=by
 have C:=CalIn.new w c 24
 have B:=balloc (Below.refl _ w) (.cells #[.string c.nm,.int .i64 c.k,.int .i64 c.d,.int .i64 c.m,.int .i64 c.s,.int .i64 c.sh,.int .i64 c.p0,.int .i64 c.p1,.int .i64 c.p2,.int .i64 c.cy,.int .i64 c.ex,.int .i64 c.fi,.int .i64 c.la,.int .i64 c.po] 24)
 go_enter Tryz.func68,Tryz.ntmps68
 go_upto_region 1 with fail
 generalize w.alloc (.cells #[.string c.nm,.int .i64 c.k,.int .i64 c.d,.int .i64 c.m,.int .i64 c.s,.int .i64 c.sh,.int .i64 c.p0,.int .i64 c.p1,.int .i64 c.p2,.int .i64 c.cy,.int .i64 c.ex,.int .i64 c.fi,.int .i64 c.la,.int .i64 c.po] 24)=W0 at *
 obtain ⟨_,c0,c1,c2,c3,c4,c5,c6,c7,c8,c9,c10,c11,c12,c13⟩:=id C
 go_wp2_with fail
 refine (ck _).mono ?_
 rintro e w1 ⟨rfl,hb⟩
 have C1:=C.kept hb
 have B1:=bthen B hb
 clear hb c0 c1 c2 c3 c4 c5 c6 c7 c8 c9 c10 c11 c12 c13 C B
 obtain ⟨_,c0,c1,c2,c3,c4,c5,c6,c7,c8,c9,c10,c11,c12,c13⟩:=id C1
 go_wp2_with fail
 refine (cd _).mono ?_
 rintro e w2 ⟨rfl,hb⟩
 go_wp2
 go_ret2
 exact ⟨rfl,bthen B1 hb⟩

set_option maxRecDepth 100000 in
theorem rweeks_six (c:CalZ)(y:Int)(w:World)(d6:(c.k==6)=true)(ck:∀ w,Calls Tryz.prog 30 #[.agg #[.string c.nm,.int .i64 c.k,.int .i64 c.d,.int .i64 c.m,.int .i64 c.s,.int .i64 c.sh,.int .i64 c.p0,.int .i64 c.p1,.int .i64 c.p2,.int .i64 c.cy,.int .i64 c.ex,.int .i64 c.fi,.int .i64 c.la,.int .i64 c.po]] w fun e w'=>e= .returned (.int .i64 0)∧Below w.heap.size w w') :
  Calls Tryz.prog 68 #[.agg #[.string c.nm,.int .i64 c.k,.int .i64 c.d,.int .i64 c.m,.int .i64 c.s,.int .i64 c.sh,.int .i64 c.p0,.int .i64 c.p1,.int .i64 c.p2,.int .i64 c.cy,.int .i64 c.ex,.int .i64 c.fi,.int .i64 c.la,.int .i64 c.po],.int .i64 y] w fun e w'=>e= .returned (.tuple #[.int .i64 0,.int .i64 1])∧Below w.heap.size w w':=by
 have C:=CalIn.new w c 24
 have B:=balloc (Below.refl _ w) (.cells #[.string c.nm,.int .i64 c.k,.int .i64 c.d,.int .i64 c.m,.int .i64 c.s,.int .i64 c.sh,.int .i64 c.p0,.int .i64 c.p1,.int .i64 c.p2,.int .i64 c.cy,.int .i64 c.ex,.int .i64 c.fi,.int .i64 c.la,.int .i64 c.po] 24)
 go_enter Tryz.func68,Tryz.ntmps68
 go_upto_region 1 with fail
 generalize w.alloc (.cells #[.string c.nm,.int .i64 c.k,.int .i64 c.d,.int .i64 c.m,.int .i64 c.s,.int .i64 c.sh,.int .i64 c.p0,.int .i64 c.p1,.int .i64 c.p2,.int .i64 c.cy,.int .i64 c.ex,.int .i64 c.fi,.int .i64 c.la,.int .i64 c.po] 24)=W0 at *
 obtain ⟨_,c0,c1,c2,c3,c4,c5,c6,c7,c8,c9,c10,c11,c12,c13⟩:=id C
 go_wp2_with fail
 refine (ck _).mono ?_
 rintro e w1 ⟨rfl,hb⟩
 have C1:=C.kept hb
 have B1:=bthen B hb
 clear hb c0 c1 c2 c3 c4 c5 c6 c7 c8 c9 c10 c11 c12 c13 C B
 obtain ⟨_,c0,c1,c2,c3,c4,c5,c6,c7,c8,c9,c10,c11,c12,c13⟩:=id C1
 go_wp2
 go_ret2
 exact ⟨rfl,B1⟩

set_option maxRecDepth 100000 in
theorem rweeks_bad (c:CalZ)(y:Int)(w:World)(ck:∀ w,Calls Tryz.prog 30 #[.agg #[.string c.nm,.int .i64 c.k,.int .i64 c.d,.int .i64 c.m,.int .i64 c.s,.int .i64 c.sh,.int .i64 c.p0,.int .i64 c.p1,.int .i64 c.p2,.int .i64 c.cy,.int .i64 c.ex,.int .i64 c.fi,.int .i64 c.la,.int .i64 c.po]] w fun e w'=>e= .returned (.int .i64 1)∧Below w.heap.size w w') :
  Calls Tryz.prog 68 #[.agg #[.string c.nm,.int .i64 c.k,.int .i64 c.d,.int .i64 c.m,.int .i64 c.s,.int .i64 c.sh,.int .i64 c.p0,.int .i64 c.p1,.int .i64 c.p2,.int .i64 c.cy,.int .i64 c.ex,.int .i64 c.fi,.int .i64 c.la,.int .i64 c.po],.int .i64 y] w fun e w'=>e= .returned (.tuple #[.int .i64 0,.int .i64 1])∧Below w.heap.size w w':=by
 have C:=CalIn.new w c 24
 have B:=balloc (Below.refl _ w) (.cells #[.string c.nm,.int .i64 c.k,.int .i64 c.d,.int .i64 c.m,.int .i64 c.s,.int .i64 c.sh,.int .i64 c.p0,.int .i64 c.p1,.int .i64 c.p2,.int .i64 c.cy,.int .i64 c.ex,.int .i64 c.fi,.int .i64 c.la,.int .i64 c.po] 24)
 go_enter Tryz.func68,Tryz.ntmps68
 go_upto_region 1 with fail
 generalize w.alloc (.cells #[.string c.nm,.int .i64 c.k,.int .i64 c.d,.int .i64 c.m,.int .i64 c.s,.int .i64 c.sh,.int .i64 c.p0,.int .i64 c.p1,.int .i64 c.p2,.int .i64 c.cy,.int .i64 c.ex,.int .i64 c.fi,.int .i64 c.la,.int .i64 c.po] 24)=W0 at *
 obtain ⟨_,c0,c1,c2,c3,c4,c5,c6,c7,c8,c9,c10,c11,c12,c13⟩:=id C
 go_wp2_with fail
 refine (ck _).mono ?_
 rintro e w1 ⟨rfl,hb⟩
 go_wp2
 go_ret2
 exact ⟨rfl,bthen B hb⟩

theorem rWeeks_any (c:CalZ)(y v er:Int)(w:World)(R:WeeksA c y v er)(K:ChkSays c) :
  Calls Tryz.prog 68 #[.agg #[.string c.nm,.int .i64 c.k,.int .i64 c.d,.int .i64 c.m,.int .i64 c.s,.int .i64 c.sh,.int .i64 c.p0,.int .i64 c.p1,.int .i64 c.p2,.int .i64 c.cy,.int .i64 c.ex,.int .i64 c.fi,.int .i64 c.la,.int .i64 c.po],.int .i64 y] w fun e w'=>e= .returned (.tuple #[.int .i64 v,.int .i64 er])∧Below w.heap.size w w':=by
 rcases R with ⟨ok,k6,h1,h2,rfl,rfl⟩|⟨ok,k6,h,rfl,rfl⟩|⟨no,rfl,rfl⟩
 ·have s:=yend_step ok.1 (y:=y - 1) (by omega) (by omega)
  rw [show y - 1+1=y by omega] at s
  exact rweeks_ok c y _ 0 w (beq_eq_false_iff_ne.2 k6) (by omega) (by omega) (fun w=>K 0 w (.inl ⟨ok,rfl⟩)) (fun w=>rDays_any c y _ 0 w (.inl ⟨ok,h1,h2,rfl,rfl⟩) K)
 ·exact rweeks_ok c y 0 11 w (beq_eq_false_iff_ne.2 k6) (by omega) (by omega) (fun w=>K 0 w (.inl ⟨ok,rfl⟩)) (fun w=>rDays_any c y 0 11 w (.inr (.inl ⟨ok,h,rfl,rfl⟩)) K)
 ·by_cases ok:CalOk c
  ·have k6:=no.resolve_left (fun h=>h ok)
   exact rweeks_six c y w (by rw [k6];rfl) (fun w=>K 0 w (.inl ⟨ok,rfl⟩))
  ·exact rweeks_bad c y w (fun w=>K 1 w (.inr ⟨ok,rfl⟩))

end Go.Proofs.YtoilomigceijaaaGreatDoor.Ar

