/- Texts that are joined: Arule, Aend, Acode. -/
import Derived.Test.YtoilomigceijaaaGreatDoorQrJF
import Derived.Test.YtoilomigceijaaaGreatDoorQrJE
import Derived.Deep.RegionHeld3
set_option linter.unusedSimpArgs false
set_option linter.unusedVariables false
namespace Go.Proofs.YtoilomigceijaaaGreatDoor.Ap
open Go.RowKit Bn Cp Am Fp Cm Em Ep

set_option maxHeartbeats 1000000

theorem last_any (d y m v:Int)(w:World)(ok:MonthOk y m)(d0:1≤d)(d1:d≤7)(hv:v=mend y m - mback y m d)(T:Tab w) :
  Calls Tryz.prog 209 #[.agg #[.int .i64 d],.int .i64 y,.int .i64 m] w fun e w'=>e= .returned (.int .i64 v)∧Below w.heap.size w w':=by
 have cl:=fun w T=>Last_any y m d v 0 w (.inl ⟨ok,d0,d1,hv,rfl⟩) T
 clear ok hv
 go_enter Tryz.func209,Tryz.ntmps209
 go_wp2_with fail
 refine (cl _ (T.alloc _)).mono ?_
 rintro e w1 ⟨rfl,hb⟩
 have B:=bthen (balloc (Below.refl _ w) _) hb
 go_wp2
 go_ret
 exact ⟨rfl,B⟩

theorem near_any (d y m v:Int)(w:World)(ok:MonthOk y m)(d0:1≤d)(d1:d≤7)(h9:nearv y m d≤3068036)(hv:v=nearv y m d)(T:Tab w) :
  Calls Tryz.prog 211 #[.agg #[.int .i64 d],.int .i64 y,.int .i64 m] w fun e w'=>e= .returned (.int .i64 v)∧Below w.heap.size w w':=by
 have cl:=fun w T=>Near_any y m d v 0 w (.inl ⟨ok,d0,d1,h9,hv,rfl⟩) T
 clear ok hv h9
 go_enter Tryz.func211,Tryz.ntmps211
 go_wp2_with fail
 refine (cl _ (T.alloc _)).mono ?_
 rintro e w1 ⟨rfl,hb⟩
 have B:=bthen (balloc (Below.refl _ w) _) hb
 go_wp2
 go_ret
 exact ⟨rfl,B⟩

theorem month_any (y m v:Int)(w:World)(ok:MonthOk y m)(hv:v=mend y m)(T:Tab w) :
  Calls Tryz.prog 210 #[.agg #[],.int .i64 y,.int .i64 m] w fun e w'=>e= .returned (.int .i64 v)∧Below w.heap.size w w':=by
 have cl:=fun w T=>Length_any y m (mlen y m) 0 w (.inl ⟨ok,rfl,rfl⟩) T
 have cd:=fun w T=>Day_any y m (mlen y m) v 0 w (.inl ⟨end_ok ok,by rw [hv];rfl,rfl⟩) T
 generalize mlen y m=l at cl cd
 clear ok hv
 go_enter Tryz.func210,Tryz.ntmps210
 go_wp2_with fail
 refine (cl _ (T.alloc _)).mono ?_
 rintro e w' ⟨rfl,rfl⟩
 go_wp2_with fail
 refine (cd _ (T.alloc _)).mono ?_
 rintro e w1 ⟨rfl,hb⟩
 have B:=bthen (balloc (Below.refl _ w) _) hb
 go_wp2
 go_ret
 exact ⟨rfl,B⟩

def ruleV (c:CalZ):Value:=if c.k=1∨c.k=4 then .iface 197 (.agg #[.int .i64 c.d]) else if c.k=6 then .iface 199 (.agg #[]) else .iface 200 (.agg #[.int .i64 c.d])
theorem rule_any (c:CalZ)(v:Value)(w:World)(hv:v=ruleV c) :
  Calls Tryz.prog 162 #[.agg #[.string c.nm,.int .i64 c.k,.int .i64 c.d,.int .i64 c.m,.int .i64 c.s,.int .i64 c.sh,.int .i64 c.p0,.int .i64 c.p1,.int .i64 c.p2,.int .i64 c.cy,.int .i64 c.ex,.int .i64 c.fi,.int .i64 c.la,.int .i64 c.po]] w fun e w'=>e= .returned v∧Below w.heap.size w w':=by
 have P:=CalIn.new w c 24
 have O:(c.k=1∧v= .iface 197 (.agg #[.int .i64 c.d]))∨(c.k=4∧v= .iface 197 (.agg #[.int .i64 c.d]))∨(c.k=6∧v= .iface 199 (.agg #[]))∨(c.k≠1∧c.k≠4∧c.k≠6∧v= .iface 200 (.agg #[.int .i64 c.d])):=by
  subst hv
  unfold ruleV
  by_cases h1:c.k=1
  ·exact .inl ⟨h1,by simp [h1]⟩
  ·by_cases h4:c.k=4
   ·exact .inr (.inl ⟨h4,by simp [h4]⟩)
   ·by_cases h6:c.k=6
    ·exact .inr (.inr (.inl ⟨h6,by simp [h6]⟩))
    ·exact .inr (.inr (.inr ⟨h1,h4,h6,by simp [h1,h4,h6]⟩))
 clear hv
 obtain ⟨nm,k,d,m,s,sh,p0,p1,p2,cy,ex,fi,la,po⟩:=c
 obtain ⟨_,c0,c1,c2,c3,c4,c5,c6,c7,c8,c9,c10,c11,c12,c13⟩:=P
 dsimp only at *
 rcases O with ⟨rfl,rfl⟩|⟨rfl,rfl⟩|⟨rfl,rfl⟩|⟨h1,h4,h6,rfl⟩
 all_goals
  go_enter Tryz.func162,Tryz.ntmps162
  go_wp2
  go_ret
  exact ⟨rfl,balloc (Below.refl _ w) _⟩

end Go.Proofs.YtoilomigceijaaaGreatDoor.Ap

namespace Go.Proofs.YtoilomigceijaaaGreatDoor.Ap
open Go.RowKit Bn Cp Am Fp Cm Em Ep

set_option maxHeartbeats 1000000

@[go_sem] theorem meth_last (n:Nat) (d:Value) (w:World):(method (n+1) 197 (.agg #[d]) "quarterday/anchor.end").run Tryz.prog w= .ok (209,.agg #[d]) w:=by kernel_rfl
@[go_sem] theorem meth_near (n:Nat) (d:Value) (w:World):(method (n+1) 200 (.agg #[d]) "quarterday/anchor.end").run Tryz.prog w= .ok (211,.agg #[d]) w:=by kernel_rfl
@[go_sem] theorem meth_month (n:Nat) (w:World):(method (n+1) 199 (.agg #[]) "quarterday/anchor.end").run Tryz.prog w= .ok (210,.agg #[]) w:=by kernel_rfl

set_option maxRecDepth 100000 in
theorem end_last (c:CalZ)(y v:Int)(w:World)(hk:Hid (c.k=1∨c.k=4))(s0:0≤c.s)(s1:c.s≤1)(y0:1600≤y)(y1:y≤9997)
  (cm:∀ w,Tab w→Calls Tryz.prog 209 #[.agg #[.int .i64 c.d],.int .i64 (y+c.s),.int .i64 c.m] w fun e w'=>e= .returned (.int .i64 v)∧Below w.heap.size w w') (T:Tab w) :
  Calls Tryz.prog 140 #[.agg #[.string c.nm,.int .i64 c.k,.int .i64 c.d,.int .i64 c.m,.int .i64 c.s,.int .i64 c.sh,.int .i64 c.p0,.int .i64 c.p1,.int .i64 c.p2,.int .i64 c.cy,.int .i64 c.ex,.int .i64 c.fi,.int .i64 c.la,.int .i64 c.po],.int .i64 y] w fun e w'=>e= .returned (.int .i64 v)∧Below w.heap.size w w':=by
 have cr:=fun w=>rule_any c _ w (show Value.iface 197 (.agg #[.int .i64 c.d])=ruleV c by unfold ruleV;simp [hk.out])
 have C:=CalIn.new w c 24
 have B:=balloc (Below.refl _ w) (.cells #[.string c.nm,.int .i64 c.k,.int .i64 c.d,.int .i64 c.m,.int .i64 c.s,.int .i64 c.sh,.int .i64 c.p0,.int .i64 c.p1,.int .i64 c.p2,.int .i64 c.cy,.int .i64 c.ex,.int .i64 c.fi,.int .i64 c.la,.int .i64 c.po] 24)
 have hw:IntKind.i64.wrap (y+c.s)=y+c.s:=by rw [IntWalk.i64_in _ (by omega)]
 go_enter Tryz.func140,Tryz.ntmps140
 go_wp2
 generalize w.alloc (.cells #[.string c.nm,.int .i64 c.k,.int .i64 c.d,.int .i64 c.m,.int .i64 c.s,.int .i64 c.sh,.int .i64 c.p0,.int .i64 c.p1,.int .i64 c.p2,.int .i64 c.cy,.int .i64 c.ex,.int .i64 c.fi,.int .i64 c.la,.int .i64 c.po] 24)=W0 at *
 have CM:∀ W,Below W0.heap.size W0 W→Calls Tryz.prog 209 #[.agg #[.int .i64 c.d],.int .i64 (y+c.s),.int .i64 c.m] W fun e w'=>e= .returned (.int .i64 v)∧Below W.heap.size W w':=fun W hB=>cm W (T.kept (bthen B hB))
 have H:Hid (∀ W,Below W0.heap.size W0 W→(Below W0.heap.size W0 W∧W.cell? ⟨w.heap.size,0,none⟩=some (.string c.nm)∧W.cell? ⟨w.heap.size,1,none⟩=some (.int .i64 c.k)∧W.cell? ⟨w.heap.size,2,none⟩=some (.int .i64 c.d)∧W.cell? ⟨w.heap.size,3,none⟩=some (.int .i64 c.m)∧W.cell? ⟨w.heap.size,4,none⟩=some (.int .i64 c.s)∧W.cell? ⟨w.heap.size,5,none⟩=some (.int .i64 c.sh)∧W.cell? ⟨w.heap.size,6,none⟩=some (.int .i64 c.p0)∧W.cell? ⟨w.heap.size,7,none⟩=some (.int .i64 c.p1)∧W.cell? ⟨w.heap.size,8,none⟩=some (.int .i64 c.p2)∧W.cell? ⟨w.heap.size,9,none⟩=some (.int .i64 c.cy)∧W.cell? ⟨w.heap.size,10,none⟩=some (.int .i64 c.ex)∧W.cell? ⟨w.heap.size,11,none⟩=some (.int .i64 c.fi)∧W.cell? ⟨w.heap.size,12,none⟩=some (.int .i64 c.la)∧W.cell? ⟨w.heap.size,13,none⟩=some (.int .i64 c.po))):=Lib.hid (fun W h=>⟨h,(C.kept h).c0,(C.kept h).c1,(C.kept h).c2,(C.kept h).c3,(C.kept h).c4,(C.kept h).c5,(C.kept h).c6,(C.kept h).c7,(C.kept h).c8,(C.kept h).c9,(C.kept h).c10,(C.kept h).c11,(C.kept h).c12,(C.kept h).c13⟩)
 obtain ⟨_,c0,c1,c2,c3,c4,c5,c6,c7,c8,c9,c10,c11,c12,c13⟩:=id C
 clear C cm
 go_region_held3 (fun w'=>Below W0.heap.size W0 w'∧w'.cell? ⟨w.heap.size,0,none⟩=some (.string c.nm)∧w'.cell? ⟨w.heap.size,1,none⟩=some (.int .i64 c.k)∧w'.cell? ⟨w.heap.size,2,none⟩=some (.int .i64 c.d)∧w'.cell? ⟨w.heap.size,3,none⟩=some (.int .i64 c.m)∧w'.cell? ⟨w.heap.size,4,none⟩=some (.int .i64 c.s)∧w'.cell? ⟨w.heap.size,5,none⟩=some (.int .i64 c.sh)∧w'.cell? ⟨w.heap.size,6,none⟩=some (.int .i64 c.p0)∧w'.cell? ⟨w.heap.size,7,none⟩=some (.int .i64 c.p1)∧w'.cell? ⟨w.heap.size,8,none⟩=some (.int .i64 c.p2)∧w'.cell? ⟨w.heap.size,9,none⟩=some (.int .i64 c.cy)∧w'.cell? ⟨w.heap.size,10,none⟩=some (.int .i64 c.ex)∧w'.cell? ⟨w.heap.size,11,none⟩=some (.int .i64 c.fi)∧w'.cell? ⟨w.heap.size,12,none⟩=some (.int .i64 c.la)∧w'.cell? ⟨w.heap.size,13,none⟩=some (.int .i64 c.po))
  ((refine H.out _ ?_;first|(with_reducible assumption)|(with_reducible exact Below.refl _ _)|(with_reducible exact (Below.refl _ _).drew)))
  (first
   | (go_at_call 162;(with_reducible refine (cr _).mono ?_);rintro e w4 ⟨rfl,hb⟩;have hB:=bthen (w:=W0) (by first|(with_reducible assumption)|(with_reducible exact Below.refl _ _)|(with_reducible exact (Below.refl _ _).drew)) hb;clear hb)
   | ((with_reducible refine (CM _ (by first|(with_reducible assumption)|(with_reducible exact Below.refl _ _)|(with_reducible exact (Below.refl _ _).drew))).mono ?_);rintro e w5 ⟨rfl,hb⟩;have hB2:=bthen (w:=W0) (by first|(with_reducible assumption)|(with_reducible exact Below.refl _ _)|(with_reducible exact (Below.refl _ _).drew)) hb;clear hb))
 all_goals go_wp2
 all_goals
  go_ret
  exact ⟨rfl,bthen B hB2⟩

set_option maxRecDepth 100000 in
theorem end_month (c:CalZ)(y v:Int)(w:World)(hk:Hid (c.k=6))(s0:0≤c.s)(s1:c.s≤1)(y0:1600≤y)(y1:y≤9997)
  (cm:∀ w,Tab w→Calls Tryz.prog 210 #[.agg #[],.int .i64 (y+c.s),.int .i64 c.m] w fun e w'=>e= .returned (.int .i64 v)∧Below w.heap.size w w') (T:Tab w) :
  Calls Tryz.prog 140 #[.agg #[.string c.nm,.int .i64 c.k,.int .i64 c.d,.int .i64 c.m,.int .i64 c.s,.int .i64 c.sh,.int .i64 c.p0,.int .i64 c.p1,.int .i64 c.p2,.int .i64 c.cy,.int .i64 c.ex,.int .i64 c.fi,.int .i64 c.la,.int .i64 c.po],.int .i64 y] w fun e w'=>e= .returned (.int .i64 v)∧Below w.heap.size w w':=by
 have cr:=fun w=>rule_any c _ w (show Value.iface 199 (.agg #[])=ruleV c by unfold ruleV;simp [hk.out])
 have C:=CalIn.new w c 24
 have B:=balloc (Below.refl _ w) (.cells #[.string c.nm,.int .i64 c.k,.int .i64 c.d,.int .i64 c.m,.int .i64 c.s,.int .i64 c.sh,.int .i64 c.p0,.int .i64 c.p1,.int .i64 c.p2,.int .i64 c.cy,.int .i64 c.ex,.int .i64 c.fi,.int .i64 c.la,.int .i64 c.po] 24)
 have hw:IntKind.i64.wrap (y+c.s)=y+c.s:=by rw [IntWalk.i64_in _ (by omega)]
 go_enter Tryz.func140,Tryz.ntmps140
 go_wp2
 generalize w.alloc (.cells #[.string c.nm,.int .i64 c.k,.int .i64 c.d,.int .i64 c.m,.int .i64 c.s,.int .i64 c.sh,.int .i64 c.p0,.int .i64 c.p1,.int .i64 c.p2,.int .i64 c.cy,.int .i64 c.ex,.int .i64 c.fi,.int .i64 c.la,.int .i64 c.po] 24)=W0 at *
 have CM:∀ W,Below W0.heap.size W0 W→Calls Tryz.prog 210 #[.agg #[],.int .i64 (y+c.s),.int .i64 c.m] W fun e w'=>e= .returned (.int .i64 v)∧Below W.heap.size W w':=fun W hB=>cm W (T.kept (bthen B hB))
 have H:Hid (∀ W,Below W0.heap.size W0 W→(Below W0.heap.size W0 W∧W.cell? ⟨w.heap.size,0,none⟩=some (.string c.nm)∧W.cell? ⟨w.heap.size,1,none⟩=some (.int .i64 c.k)∧W.cell? ⟨w.heap.size,2,none⟩=some (.int .i64 c.d)∧W.cell? ⟨w.heap.size,3,none⟩=some (.int .i64 c.m)∧W.cell? ⟨w.heap.size,4,none⟩=some (.int .i64 c.s)∧W.cell? ⟨w.heap.size,5,none⟩=some (.int .i64 c.sh)∧W.cell? ⟨w.heap.size,6,none⟩=some (.int .i64 c.p0)∧W.cell? ⟨w.heap.size,7,none⟩=some (.int .i64 c.p1)∧W.cell? ⟨w.heap.size,8,none⟩=some (.int .i64 c.p2)∧W.cell? ⟨w.heap.size,9,none⟩=some (.int .i64 c.cy)∧W.cell? ⟨w.heap.size,10,none⟩=some (.int .i64 c.ex)∧W.cell? ⟨w.heap.size,11,none⟩=some (.int .i64 c.fi)∧W.cell? ⟨w.heap.size,12,none⟩=some (.int .i64 c.la)∧W.cell? ⟨w.heap.size,13,none⟩=some (.int .i64 c.po))):=Lib.hid (fun W h=>⟨h,(C.kept h).c0,(C.kept h).c1,(C.kept h).c2,(C.kept h).c3,(C.kept h).c4,(C.kept h).c5,(C.kept h).c6,(C.kept h).c7,(C.kept h).c8,(C.kept h).c9,(C.kept h).c10,(C.kept h).c11,(C.kept h).c12,(C.kept h).c13⟩)
 obtain ⟨_,c0,c1,c2,c3,c4,c5,c6,c7,c8,c9,c10,c11,c12,c13⟩:=id C
 clear C cm
 go_region_held3 (fun w'=>Below W0.heap.size W0 w'∧w'.cell? ⟨w.heap.size,0,none⟩=some (.string c.nm)∧w'.cell? ⟨w.heap.size,1,none⟩=some (.int .i64 c.k)∧w'.cell? ⟨w.heap.size,2,none⟩=some (.int .i64 c.d)∧w'.cell? ⟨w.heap.size,3,none⟩=some (.int .i64 c.m)∧w'.cell? ⟨w.heap.size,4,none⟩=some (.int .i64 c.s)∧w'.cell? ⟨w.heap.size,5,none⟩=some (.int .i64 c.sh)∧w'.cell? ⟨w.heap.size,6,none⟩=some (.int .i64 c.p0)∧w'.cell? ⟨w.heap.size,7,none⟩=some (.int .i64 c.p1)∧w'.cell? ⟨w.heap.size,8,none⟩=some (.int .i64 c.p2)∧w'.cell? ⟨w.heap.size,9,none⟩=some (.int .i64 c.cy)∧w'.cell? ⟨w.heap.size,10,none⟩=some (.int .i64 c.ex)∧w'.cell? ⟨w.heap.size,11,none⟩=some (.int .i64 c.fi)∧w'.cell? ⟨w.heap.size,12,none⟩=some (.int .i64 c.la)∧w'.cell? ⟨w.heap.size,13,none⟩=some (.int .i64 c.po))
  ((refine H.out _ ?_;first|(with_reducible assumption)|(with_reducible exact Below.refl _ _)|(with_reducible exact (Below.refl _ _).drew)))
  (first
   | (go_at_call 162;(with_reducible refine (cr _).mono ?_);rintro e w4 ⟨rfl,hb⟩;have hB:=bthen (w:=W0) (by first|(with_reducible assumption)|(with_reducible exact Below.refl _ _)|(with_reducible exact (Below.refl _ _).drew)) hb;clear hb)
   | ((with_reducible refine (CM _ (by first|(with_reducible assumption)|(with_reducible exact Below.refl _ _)|(with_reducible exact (Below.refl _ _).drew))).mono ?_);rintro e w5 ⟨rfl,hb⟩;have hB2:=bthen (w:=W0) (by first|(with_reducible assumption)|(with_reducible exact Below.refl _ _)|(with_reducible exact (Below.refl _ _).drew)) hb;clear hb))
 all_goals go_wp2
 all_goals
  go_ret
  exact ⟨rfl,bthen B hB2⟩

set_option maxRecDepth 100000 in
theorem end_near (c:CalZ)(y v:Int)(w:World)(h1:Hid (¬ (c.k=1∨c.k=4)))(h6:Hid (c.k≠6))(s0:0≤c.s)(s1:c.s≤1)(y0:1600≤y)(y1:y≤9997)
  (cm:∀ w,Tab w→Calls Tryz.prog 211 #[.agg #[.int .i64 c.d],.int .i64 (y+c.s),.int .i64 c.m] w fun e w'=>e= .returned (.int .i64 v)∧Below w.heap.size w w') (T:Tab w) :
  Calls Tryz.prog 140 #[.agg #[.string c.nm,.int .i64 c.k,.int .i64 c.d,.int .i64 c.m,.int .i64 c.s,.int .i64 c.sh,.int .i64 c.p0,.int .i64 c.p1,.int .i64 c.p2,.int .i64 c.cy,.int .i64 c.ex,.int .i64 c.fi,.int .i64 c.la,.int .i64 c.po],.int .i64 y] w fun e w'=>e= .returned (.int .i64 v)∧Below w.heap.size w w':=by
 have cr:=fun w=>rule_any c _ w (show Value.iface 200 (.agg #[.int .i64 c.d])=ruleV c by unfold ruleV;simp [h1.out,h6.out])
 have C:=CalIn.new w c 24
 have B:=balloc (Below.refl _ w) (.cells #[.string c.nm,.int .i64 c.k,.int .i64 c.d,.int .i64 c.m,.int .i64 c.s,.int .i64 c.sh,.int .i64 c.p0,.int .i64 c.p1,.int .i64 c.p2,.int .i64 c.cy,.int .i64 c.ex,.int .i64 c.fi,.int .i64 c.la,.int .i64 c.po] 24)
 have hw:IntKind.i64.wrap (y+c.s)=y+c.s:=by rw [IntWalk.i64_in _ (by omega)]
 go_enter Tryz.func140,Tryz.ntmps140
 go_wp2
 generalize w.alloc (.cells #[.string c.nm,.int .i64 c.k,.int .i64 c.d,.int .i64 c.m,.int .i64 c.s,.int .i64 c.sh,.int .i64 c.p0,.int .i64 c.p1,.int .i64 c.p2,.int .i64 c.cy,.int .i64 c.ex,.int .i64 c.fi,.int .i64 c.la,.int .i64 c.po] 24)=W0 at *
 have CM:∀ W,Below W0.heap.size W0 W→Calls Tryz.prog 211 #[.agg #[.int .i64 c.d],.int .i64 (y+c.s),.int .i64 c.m] W fun e w'=>e= .returned (.int .i64 v)∧Below W.heap.size W w':=fun W hB=>cm W (T.kept (bthen B hB))
 have H:Hid (∀ W,Below W0.heap.size W0 W→(Below W0.heap.size W0 W∧W.cell? ⟨w.heap.size,0,none⟩=some (.string c.nm)∧W.cell? ⟨w.heap.size,1,none⟩=some (.int .i64 c.k)∧W.cell? ⟨w.heap.size,2,none⟩=some (.int .i64 c.d)∧W.cell? ⟨w.heap.size,3,none⟩=some (.int .i64 c.m)∧W.cell? ⟨w.heap.size,4,none⟩=some (.int .i64 c.s)∧W.cell? ⟨w.heap.size,5,none⟩=some (.int .i64 c.sh)∧W.cell? ⟨w.heap.size,6,none⟩=some (.int .i64 c.p0)∧W.cell? ⟨w.heap.size,7,none⟩=some (.int .i64 c.p1)∧W.cell? ⟨w.heap.size,8,none⟩=some (.int .i64 c.p2)∧W.cell? ⟨w.heap.size,9,none⟩=some (.int .i64 c.cy)∧W.cell? ⟨w.heap.size,10,none⟩=some (.int .i64 c.ex)∧W.cell? ⟨w.heap.size,11,none⟩=some (.int .i64 c.fi)∧W.cell? ⟨w.heap.size,12,none⟩=some (.int .i64 c.la)∧W.cell? ⟨w.heap.size,13,none⟩=some (.int .i64 c.po))):=Lib.hid (fun W h=>⟨h,(C.kept h).c0,(C.kept h).c1,(C.kept h).c2,(C.kept h).c3,(C.kept h).c4,(C.kept h).c5,(C.kept h).c6,(C.kept h).c7,(C.kept h).c8,(C.kept h).c9,(C.kept h).c10,(C.kept h).c11,(C.kept h).c12,(C.kept h).c13⟩)
 obtain ⟨_,c0,c1,c2,c3,c4,c5,c6,c7,c8,c9,c10,c11,c12,c13⟩:=id C
 clear C cm
 go_region_held3 (fun w'=>Below W0.heap.size W0 w'∧w'.cell? ⟨w.heap.size,0,none⟩=some (.string c.nm)∧w'.cell? ⟨w.heap.size,1,none⟩=some (.int .i64 c.k)∧w'.cell? ⟨w.heap.size,2,none⟩=some (.int .i64 c.d)∧w'.cell? ⟨w.heap.size,3,none⟩=some (.int .i64 c.m)∧w'.cell? ⟨w.heap.size,4,none⟩=some (.int .i64 c.s)∧w'.cell? ⟨w.heap.size,5,none⟩=some (.int .i64 c.sh)∧w'.cell? ⟨w.heap.size,6,none⟩=some (.int .i64 c.p0)∧w'.cell? ⟨w.heap.size,7,none⟩=some (.int .i64 c.p1)∧w'.cell? ⟨w.heap.size,8,none⟩=some (.int .i64 c.p2)∧w'.cell? ⟨w.heap.size,9,none⟩=some (.int .i64 c.cy)∧w'.cell? ⟨w.heap.size,10,none⟩=some (.int .i64 c.ex)∧w'.cell? ⟨w.heap.size,11,none⟩=some (.int .i64 c.fi)∧w'.cell? ⟨w.heap.size,12,none⟩=some (.int .i64 c.la)∧w'.cell? ⟨w.heap.size,13,none⟩=some (.int .i64 c.po))
  ((refine H.out _ ?_;first|(with_reducible assumption)|(with_reducible exact Below.refl _ _)|(with_reducible exact (Below.refl _ _).drew)))
  (first
   | (go_at_call 162;(with_reducible refine (cr _).mono ?_);rintro e w4 ⟨rfl,hb⟩;have hB:=bthen (w:=W0) (by first|(with_reducible assumption)|(with_reducible exact Below.refl _ _)|(with_reducible exact (Below.refl _ _).drew)) hb;clear hb)
   | ((with_reducible refine (CM _ (by first|(with_reducible assumption)|(with_reducible exact Below.refl _ _)|(with_reducible exact (Below.refl _ _).drew))).mono ?_);rintro e w5 ⟨rfl,hb⟩;have hB2:=bthen (w:=W0) (by first|(with_reducible assumption)|(with_reducible exact Below.refl _ _)|(with_reducible exact (Below.refl _ _).drew)) hb;clear hb))
 all_goals go_wp2
 all_goals
  go_ret
  exact ⟨rfl,bthen B hB2⟩

theorem end_any (c:CalZ)(y v:Int)(w:World)(ok:KindOk c)(y0:1600≤y)(y1:y≤9997)(hv:v=yend c y)(T:Tab w) :
  Calls Tryz.prog 140 #[.agg #[.string c.nm,.int .i64 c.k,.int .i64 c.d,.int .i64 c.m,.int .i64 c.s,.int .i64 c.sh,.int .i64 c.p0,.int .i64 c.p1,.int .i64 c.p2,.int .i64 c.cy,.int .i64 c.ex,.int .i64 c.fi,.int .i64 c.la,.int .i64 c.po],.int .i64 y] w fun e w'=>e= .returned (.int .i64 v)∧Below w.heap.size w w':=by
 have b:=kind_bd ok
 have mo:=mon_ok ok y0 (by omega)
 unfold yend at hv
 by_cases h:c.k=1∨c.k=4
 ·rw [if_pos h] at hv
  have d:=b.2.2.2.2.2.2.1 (by omega)
  exact end_last c y v w (Lib.hid h) b.2.2.1 b.2.2.2.1 y0 y1 (fun w T=>last_any _ _ _ v w mo d.1 d.2 hv T) T
 ·rw [if_neg h] at hv
  by_cases h6:c.k=6
  ·rw [if_pos h6] at hv
   exact end_month c y v w (Lib.hid h6) b.2.2.1 b.2.2.2.1 y0 y1 (fun w T=>month_any _ _ v w mo hv T) T
  ·rw [if_neg h6] at hv
   have d:=b.2.2.2.2.2.2.1 h6
   exact end_near c y v w (Lib.hid h) (Lib.hid h6) b.2.2.1 b.2.2.2.1 y0 y1 (fun w T=>near_any _ _ _ v w mo d.1 d.2 (near_early mo (by omega)) hv T) T

end Go.Proofs.YtoilomigceijaaaGreatDoor.Ap

namespace Go.Proofs.YtoilomigceijaaaGreatDoor.Ap
open Go.RowKit Bn Cp Am Fp

set_option maxHeartbeats 1000000

def ChkY (c:CalZ)(y f er:Int):Prop:=(CalOk c∧f≤y∧y≤9997∧er=0)∨(CalOk c∧¬ (f≤y∧y≤9997)∧er=11)∨(¬ CalOk c∧er=1)

set_option maxRecDepth 100000 in
theorem check_any (c:CalZ)(y f er:Int)(w:World)(R:ChkY c y f er)(hm:c.nm.size≤maxLen)(T:FTab w) :
  Calls Tryz.prog 139 #[.agg #[.string c.nm,.int .i64 c.k,.int .i64 c.d,.int .i64 c.m,.int .i64 c.s,.int .i64 c.sh,.int .i64 c.p0,.int .i64 c.p1,.int .i64 c.p2,.int .i64 c.cy,.int .i64 c.ex,.int .i64 c.fi,.int .i64 c.la,.int .i64 c.po],.int .i64 y,.int .i64 f] w fun e w'=>e= .returned (.int .i64 er)∧Below w.heap.size w w':=by
 have C:=CalIn.new w c 24
 have B:=balloc (Below.refl _ w) (.cells #[.string c.nm,.int .i64 c.k,.int .i64 c.d,.int .i64 c.m,.int .i64 c.s,.int .i64 c.sh,.int .i64 c.p0,.int .i64 c.p1,.int .i64 c.p2,.int .i64 c.cy,.int .i64 c.ex,.int .i64 c.fi,.int .i64 c.la,.int .i64 c.po] 24)
 have T0:=T.alloc (.cells #[.string c.nm,.int .i64 c.k,.int .i64 c.d,.int .i64 c.m,.int .i64 c.s,.int .i64 c.sh,.int .i64 c.p0,.int .i64 c.p1,.int .i64 c.p2,.int .i64 c.cy,.int .i64 c.ex,.int .i64 c.fi,.int .i64 c.la,.int .i64 c.po] 24)
 have O:(∃ h,h=0∧ChkA c h∧f≤y∧y≤9997∧er=0)∨(∃ h,h=0∧ChkA c h∧y<f∧er=11)∨(∃ h,h=0∧ChkA c h∧f≤y∧9997<y∧er=11)∨(∃ h,h=1∧ChkA c h∧er=1):=by
  rcases R with ⟨ok,h1,h2,rfl⟩|⟨ok,h,rfl⟩|⟨no,rfl⟩
  ·exact .inl ⟨0,rfl,.inl ⟨ok,rfl⟩,h1,h2,rfl⟩
  ·by_cases k:f≤y
   ·exact .inr (.inr (.inl ⟨0,rfl,.inl ⟨ok,rfl⟩,k,by omega,rfl⟩))
   ·exact .inr (.inl ⟨0,rfl,.inl ⟨ok,rfl⟩,by omega,rfl⟩)
  ·exact .inr (.inr (.inr ⟨1,rfl,.inr ⟨no,rfl⟩,rfl⟩))
 clear R
 rcases O with ⟨h,rfl,ch,h1,h2,rfl⟩|⟨h,rfl,ch,h1,rfl⟩|⟨h,rfl,ch,h1,h2,rfl⟩|⟨h,rfl,ch,rfl⟩
 all_goals
  have cc:=fun w T=>Check_any c _ w ch hm T
  clear ch
  go_enter Tryz.func139,Tryz.ntmps139
  go_upto_region 1 with fail
  generalize w.alloc (.cells #[.string c.nm,.int .i64 c.k,.int .i64 c.d,.int .i64 c.m,.int .i64 c.s,.int .i64 c.sh,.int .i64 c.p0,.int .i64 c.p1,.int .i64 c.p2,.int .i64 c.cy,.int .i64 c.ex,.int .i64 c.fi,.int .i64 c.la,.int .i64 c.po] 24)=W0 at *
  obtain ⟨_,c0,c1,c2,c3,c4,c5,c6,c7,c8,c9,c10,c11,c12,c13⟩:=id C
  go_wp2_with fail
  refine (cc _ T0).mono ?_
  rintro e w1 ⟨rfl,hb⟩
  go_wp2
  go_ret
  exact ⟨rfl,bthen B hb⟩

set_option maxRecDepth 100000 in
theorem End_any (c:CalZ)(y v er:Int)(w:World)(R:EndA c y v er)(hm:c.nm.size≤maxLen)(T:FTab w) :
  Calls Tryz.prog 96 #[.agg #[.string c.nm,.int .i64 c.k,.int .i64 c.d,.int .i64 c.m,.int .i64 c.s,.int .i64 c.sh,.int .i64 c.p0,.int .i64 c.p1,.int .i64 c.p2,.int .i64 c.cy,.int .i64 c.ex,.int .i64 c.fi,.int .i64 c.la,.int .i64 c.po],.int .i64 y] w fun e w'=>e= .returned (.tuple #[.int .i64 v,.int .i64 er])∧Below w.heap.size w w':=by
 have C:=CalIn.new w c 24
 have B:=balloc (Below.refl _ w) (.cells #[.string c.nm,.int .i64 c.k,.int .i64 c.d,.int .i64 c.m,.int .i64 c.s,.int .i64 c.sh,.int .i64 c.p0,.int .i64 c.p1,.int .i64 c.p2,.int .i64 c.cy,.int .i64 c.ex,.int .i64 c.fi,.int .i64 c.la,.int .i64 c.po] 24)
 have T0:=T.alloc (.cells #[.string c.nm,.int .i64 c.k,.int .i64 c.d,.int .i64 c.m,.int .i64 c.s,.int .i64 c.sh,.int .i64 c.p0,.int .i64 c.p1,.int .i64 c.p2,.int .i64 c.cy,.int .i64 c.ex,.int .i64 c.fi,.int .i64 c.la,.int .i64 c.po] 24)
 rcases R with ⟨ok,h1,h2,hv,rfl⟩|⟨ok,h,rfl,rfl⟩|⟨no,rfl,rfl⟩
 ·have ck:=fun w T=>check_any c y 1600 0 w (.inl ⟨ok,h1,h2,rfl⟩) hm T
  have ce:=fun w T=>end_any c y v w ok.1 h1 h2 hv T
  clear hv
  clear ok
  go_enter Tryz.func96,Tryz.ntmps96
  go_upto_region 1 with fail
  generalize w.alloc (.cells #[.string c.nm,.int .i64 c.k,.int .i64 c.d,.int .i64 c.m,.int .i64 c.s,.int .i64 c.sh,.int .i64 c.p0,.int .i64 c.p1,.int .i64 c.p2,.int .i64 c.cy,.int .i64 c.ex,.int .i64 c.fi,.int .i64 c.la,.int .i64 c.po] 24)=W0 at *
  obtain ⟨_,c0,c1,c2,c3,c4,c5,c6,c7,c8,c9,c10,c11,c12,c13⟩:=id C
  go_wp2_with fail
  refine (ck _ T0).mono ?_
  rintro e w1 ⟨rfl,hb⟩
  have C1:=C.kept hb
  have B1:=bthen B hb
  have T1:=T0.kept hb
  clear hb c0 c1 c2 c3 c4 c5 c6 c7 c8 c9 c10 c11 c12 c13 C B T0 T
  obtain ⟨_,c0,c1,c2,c3,c4,c5,c6,c7,c8,c9,c10,c11,c12,c13⟩:=id C1
  go_wp2_with fail
  refine (ce _ T1.civ).mono ?_
  rintro e w2 ⟨rfl,hb⟩
  go_wp2
  go_ret2
  exact ⟨rfl,bthen B1 hb⟩
 all_goals
  have ck:=fun w T=>check_any c y 1600 _ w (by first|exact .inr (.inl ⟨ok,h,rfl⟩)|exact .inr (.inr ⟨no,rfl⟩)) hm T
  go_enter Tryz.func96,Tryz.ntmps96
  go_upto_region 1 with fail
  generalize w.alloc (.cells #[.string c.nm,.int .i64 c.k,.int .i64 c.d,.int .i64 c.m,.int .i64 c.s,.int .i64 c.sh,.int .i64 c.p0,.int .i64 c.p1,.int .i64 c.p2,.int .i64 c.cy,.int .i64 c.ex,.int .i64 c.fi,.int .i64 c.la,.int .i64 c.po] 24)=W0 at *
  obtain ⟨_,c0,c1,c2,c3,c4,c5,c6,c7,c8,c9,c10,c11,c12,c13⟩:=id C
  go_wp2_with fail
  refine (ck _ T0).mono ?_
  rintro e w1 ⟨rfl,hb⟩
  go_wp2
  go_ret2
  exact ⟨rfl,bthen B hb⟩

set_option maxRecDepth 100000 in
theorem Start_any (c:CalZ)(y v er:Int)(w:World)(R:StartA c y v er)(hm:c.nm.size≤maxLen)(T:FTab w) :
  Calls Tryz.prog 95 #[.agg #[.string c.nm,.int .i64 c.k,.int .i64 c.d,.int .i64 c.m,.int .i64 c.s,.int .i64 c.sh,.int .i64 c.p0,.int .i64 c.p1,.int .i64 c.p2,.int .i64 c.cy,.int .i64 c.ex,.int .i64 c.fi,.int .i64 c.la,.int .i64 c.po],.int .i64 y] w fun e w'=>e= .returned (.tuple #[.int .i64 v,.int .i64 er])∧Below w.heap.size w w':=by
 have C:=CalIn.new w c 24
 have B:=balloc (Below.refl _ w) (.cells #[.string c.nm,.int .i64 c.k,.int .i64 c.d,.int .i64 c.m,.int .i64 c.s,.int .i64 c.sh,.int .i64 c.p0,.int .i64 c.p1,.int .i64 c.p2,.int .i64 c.cy,.int .i64 c.ex,.int .i64 c.fi,.int .i64 c.la,.int .i64 c.po] 24)
 have T0:=T.alloc (.cells #[.string c.nm,.int .i64 c.k,.int .i64 c.d,.int .i64 c.m,.int .i64 c.s,.int .i64 c.sh,.int .i64 c.p0,.int .i64 c.p1,.int .i64 c.p2,.int .i64 c.cy,.int .i64 c.ex,.int .i64 c.fi,.int .i64 c.la,.int .i64 c.po] 24)
 rcases R with ⟨ok,h1,h2,hv,rfl⟩|⟨ok,h,rfl,rfl⟩|⟨no,rfl,rfl⟩
 ·have ck:=fun w T=>check_any c y 1601 0 w (.inl ⟨ok,h1,h2,rfl⟩) hm T
  obtain ⟨u,hu⟩:∃ u,u=yend c (y - 1):=⟨_,rfl⟩
  have ce:=fun w T=>end_any c (y - 1) u w ok.1 (by omega) (by omega) hu T
  have bd:=yend_bd ok.1 (y:=y - 1) (by omega) (by omega)
  rw [← hu] at hv bd
  obtain ⟨u0,u1⟩:=bd
  subst hv
  clear hu
  clear ok
  go_enter Tryz.func95,Tryz.ntmps95
  go_upto_region 1 with fail
  generalize w.alloc (.cells #[.string c.nm,.int .i64 c.k,.int .i64 c.d,.int .i64 c.m,.int .i64 c.s,.int .i64 c.sh,.int .i64 c.p0,.int .i64 c.p1,.int .i64 c.p2,.int .i64 c.cy,.int .i64 c.ex,.int .i64 c.fi,.int .i64 c.la,.int .i64 c.po] 24)=W0 at *
  obtain ⟨_,c0,c1,c2,c3,c4,c5,c6,c7,c8,c9,c10,c11,c12,c13⟩:=id C
  go_wp2_with fail
  refine (ck _ T0).mono ?_
  rintro e w1 ⟨rfl,hb⟩
  have C1:=C.kept hb
  have B1:=bthen B hb
  have T1:=T0.kept hb
  clear hb c0 c1 c2 c3 c4 c5 c6 c7 c8 c9 c10 c11 c12 c13 C B T0 T
  obtain ⟨_,c0,c1,c2,c3,c4,c5,c6,c7,c8,c9,c10,c11,c12,c13⟩:=id C1
  go_wp2_with fail
  refine (ce _ T1.civ).mono ?_
  rintro e w2 ⟨rfl,hb⟩
  go_wp2
  go_ret2
  exact ⟨rfl,bthen B1 hb⟩
 all_goals
  have ck:=fun w T=>check_any c y 1601 _ w (by first|exact .inr (.inl ⟨ok,h,rfl⟩)|exact .inr (.inr ⟨no,rfl⟩)) hm T
  go_enter Tryz.func95,Tryz.ntmps95
  go_upto_region 1 with fail
  generalize w.alloc (.cells #[.string c.nm,.int .i64 c.k,.int .i64 c.d,.int .i64 c.m,.int .i64 c.s,.int .i64 c.sh,.int .i64 c.p0,.int .i64 c.p1,.int .i64 c.p2,.int .i64 c.cy,.int .i64 c.ex,.int .i64 c.fi,.int .i64 c.la,.int .i64 c.po] 24)=W0 at *
  obtain ⟨_,c0,c1,c2,c3,c4,c5,c6,c7,c8,c9,c10,c11,c12,c13⟩:=id C
  go_wp2_with fail
  refine (ck _ T0).mono ?_
  rintro e w1 ⟨rfl,hb⟩
  go_wp2
  go_ret2
  exact ⟨rfl,bthen B hb⟩

set_option maxRecDepth 100000 in
theorem Days_any (c:CalZ)(y v er:Int)(w:World)(R:DaysA c y v er)(hm:c.nm.size≤maxLen)(T:FTab w) :
  Calls Tryz.prog 172 #[.agg #[.string c.nm,.int .i64 c.k,.int .i64 c.d,.int .i64 c.m,.int .i64 c.s,.int .i64 c.sh,.int .i64 c.p0,.int .i64 c.p1,.int .i64 c.p2,.int .i64 c.cy,.int .i64 c.ex,.int .i64 c.fi,.int .i64 c.la,.int .i64 c.po],.int .i64 y] w fun e w'=>e= .returned (.tuple #[.int .i64 v,.int .i64 er])∧Below w.heap.size w w':=by
 have C:=CalIn.new w c 24
 have B:=balloc (Below.refl _ w) (.cells #[.string c.nm,.int .i64 c.k,.int .i64 c.d,.int .i64 c.m,.int .i64 c.s,.int .i64 c.sh,.int .i64 c.p0,.int .i64 c.p1,.int .i64 c.p2,.int .i64 c.cy,.int .i64 c.ex,.int .i64 c.fi,.int .i64 c.la,.int .i64 c.po] 24)
 have T0:=T.alloc (.cells #[.string c.nm,.int .i64 c.k,.int .i64 c.d,.int .i64 c.m,.int .i64 c.s,.int .i64 c.sh,.int .i64 c.p0,.int .i64 c.p1,.int .i64 c.p2,.int .i64 c.cy,.int .i64 c.ex,.int .i64 c.fi,.int .i64 c.la,.int .i64 c.po] 24)
 rcases R with ⟨ok,h1,h2,hv,rfl⟩|⟨ok,h,rfl,rfl⟩|⟨no,rfl,rfl⟩
 ·have ck:=fun w T=>check_any c y 1601 0 w (.inl ⟨ok,h1,h2,rfl⟩) hm T
  obtain ⟨u,hu⟩:∃ u,u=yend c (y - 1):=⟨_,rfl⟩
  obtain ⟨z,hz⟩:∃ z,z=yend c y:=⟨_,rfl⟩
  have ce:=fun w T=>end_any c (y - 1) u w ok.1 (by omega) (by omega) hu T
  have cz:=fun w T=>end_any c y z w ok.1 (by omega) h2 hz T
  have bd:=yend_bd ok.1 (y:=y - 1) (by omega) (by omega)
  have bz:=yend_bd ok.1 (y:=y) (by omega) h2
  rw [← hu] at hv bd
  rw [← hz] at hv bz
  obtain ⟨u0,u1⟩:=bd
  obtain ⟨z0,z1⟩:=bz
  subst hv
  clear hu hz
  clear ok
  go_enter Tryz.func172,Tryz.ntmps172
  go_upto_region 1 with fail
  generalize w.alloc (.cells #[.string c.nm,.int .i64 c.k,.int .i64 c.d,.int .i64 c.m,.int .i64 c.s,.int .i64 c.sh,.int .i64 c.p0,.int .i64 c.p1,.int .i64 c.p2,.int .i64 c.cy,.int .i64 c.ex,.int .i64 c.fi,.int .i64 c.la,.int .i64 c.po] 24)=W0 at *
  obtain ⟨_,c0,c1,c2,c3,c4,c5,c6,c7,c8,c9,c10,c11,c12,c13⟩:=id C
  go_wp2_with fail
  refine (ck _ T0).mono ?_
  rintro e w1 ⟨rfl,hb⟩
  have C1:=C.kept hb
  have B1:=bthen B hb
  have T1:=T0.kept hb
  clear hb c0 c1 c2 c3 c4 c5 c6 c7 c8 c9 c10 c11 c12 c13 C B T0 T
  obtain ⟨_,c0,c1,c2,c3,c4,c5,c6,c7,c8,c9,c10,c11,c12,c13⟩:=id C1
  have CE:∀ W,Below w1.heap.size w1 W→Calls Tryz.prog 140 #[.agg #[.string c.nm,.int .i64 c.k,.int .i64 c.d,.int .i64 c.m,.int .i64 c.s,.int .i64 c.sh,.int .i64 c.p0,.int .i64 c.p1,.int .i64 c.p2,.int .i64 c.cy,.int .i64 c.ex,.int .i64 c.fi,.int .i64 c.la,.int .i64 c.po],.int .i64 (y - 1)] W fun e w'=>e= .returned (.int .i64 u)∧Below W.heap.size W w':=fun W h=>ce W (T1.kept h).civ
  have CZ:∀ W,Below w1.heap.size w1 W→Calls Tryz.prog 140 #[.agg #[.string c.nm,.int .i64 c.k,.int .i64 c.d,.int .i64 c.m,.int .i64 c.s,.int .i64 c.sh,.int .i64 c.p0,.int .i64 c.p1,.int .i64 c.p2,.int .i64 c.cy,.int .i64 c.ex,.int .i64 c.fi,.int .i64 c.la,.int .i64 c.po],.int .i64 y] W fun e w'=>e= .returned (.int .i64 z)∧Below W.heap.size W w':=fun W h=>cz W (T1.kept h).civ
  have H:Hid (∀ W,Below w1.heap.size w1 W→(Below w1.heap.size w1 W∧W.cell? ⟨w.heap.size,0,none⟩=some (.string c.nm)∧W.cell? ⟨w.heap.size,1,none⟩=some (.int .i64 c.k)∧W.cell? ⟨w.heap.size,2,none⟩=some (.int .i64 c.d)∧W.cell? ⟨w.heap.size,3,none⟩=some (.int .i64 c.m)∧W.cell? ⟨w.heap.size,4,none⟩=some (.int .i64 c.s)∧W.cell? ⟨w.heap.size,5,none⟩=some (.int .i64 c.sh)∧W.cell? ⟨w.heap.size,6,none⟩=some (.int .i64 c.p0)∧W.cell? ⟨w.heap.size,7,none⟩=some (.int .i64 c.p1)∧W.cell? ⟨w.heap.size,8,none⟩=some (.int .i64 c.p2)∧W.cell? ⟨w.heap.size,9,none⟩=some (.int .i64 c.cy)∧W.cell? ⟨w.heap.size,10,none⟩=some (.int .i64 c.ex)∧W.cell? ⟨w.heap.size,11,none⟩=some (.int .i64 c.fi)∧W.cell? ⟨w.heap.size,12,none⟩=some (.int .i64 c.la)∧W.cell? ⟨w.heap.size,13,none⟩=some (.int .i64 c.po))):=Lib.hid (fun W h=>⟨h,(C1.kept h).c0,(C1.kept h).c1,(C1.kept h).c2,(C1.kept h).c3,(C1.kept h).c4,(C1.kept h).c5,(C1.kept h).c6,(C1.kept h).c7,(C1.kept h).c8,(C1.kept h).c9,(C1.kept h).c10,(C1.kept h).c11,(C1.kept h).c12,(C1.kept h).c13⟩)
  clear C1 ce cz T1
  have hw:IntKind.i64.wrap (y - 1)=y - 1:=by rw [IntWalk.i64_in _ (by omega)]
  have hw2:IntKind.i64.wrap (z - u)=z - u:=by rw [IntWalk.i64_in _ (by omega)]
  go_wp2
  go_region_held3 (fun w'=>Below w1.heap.size w1 w'∧w'.cell? ⟨w.heap.size,0,none⟩=some (.string c.nm)∧w'.cell? ⟨w.heap.size,1,none⟩=some (.int .i64 c.k)∧w'.cell? ⟨w.heap.size,2,none⟩=some (.int .i64 c.d)∧w'.cell? ⟨w.heap.size,3,none⟩=some (.int .i64 c.m)∧w'.cell? ⟨w.heap.size,4,none⟩=some (.int .i64 c.s)∧w'.cell? ⟨w.heap.size,5,none⟩=some (.int .i64 c.sh)∧w'.cell? ⟨w.heap.size,6,none⟩=some (.int .i64 c.p0)∧w'.cell? ⟨w.heap.size,7,none⟩=some (.int .i64 c.p1)∧w'.cell? ⟨w.heap.size,8,none⟩=some (.int .i64 c.p2)∧w'.cell? ⟨w.heap.size,9,none⟩=some (.int .i64 c.cy)∧w'.cell? ⟨w.heap.size,10,none⟩=some (.int .i64 c.ex)∧w'.cell? ⟨w.heap.size,11,none⟩=some (.int .i64 c.fi)∧w'.cell? ⟨w.heap.size,12,none⟩=some (.int .i64 c.la)∧w'.cell? ⟨w.heap.size,13,none⟩=some (.int .i64 c.po))
   ((refine H.out _ ?_;first|(with_reducible assumption)|(with_reducible exact Below.refl _ _)|(with_reducible exact (Below.refl _ _).drew)))
   (first
    | (go_at_call 140;first
      | ((with_reducible refine (CZ _ (by first|(with_reducible assumption)|(with_reducible exact Below.refl _ _)|(with_reducible exact (Below.refl _ _).drew))).mono ?_);rintro e w5 ⟨rfl,hb⟩;have hB:=bthen (w:=w1) (by first|(with_reducible assumption)|(with_reducible exact Below.refl _ _)|(with_reducible exact (Below.refl _ _).drew)) hb;clear hb)
      | ((with_reducible refine (CE _ (by first|(with_reducible assumption)|(with_reducible exact Below.refl _ _)|(with_reducible exact (Below.refl _ _).drew))).mono ?_);rintro e w5 ⟨rfl,hb⟩;have hB:=bthen (w:=w1) (by first|(with_reducible assumption)|(with_reducible exact Below.refl _ _)|(with_reducible exact (Below.refl _ _).drew)) hb;clear hb)))
  all_goals go_wp2
  all_goals
   go_ret2
   exact ⟨rfl,bthen B1 hB⟩
 all_goals
  have ck:=fun w T=>check_any c y 1601 _ w (by first|exact .inr (.inl ⟨ok,h,rfl⟩)|exact .inr (.inr ⟨no,rfl⟩)) hm T
  go_enter Tryz.func172,Tryz.ntmps172
  go_upto_region 1 with fail
  generalize w.alloc (.cells #[.string c.nm,.int .i64 c.k,.int .i64 c.d,.int .i64 c.m,.int .i64 c.s,.int .i64 c.sh,.int .i64 c.p0,.int .i64 c.p1,.int .i64 c.p2,.int .i64 c.cy,.int .i64 c.ex,.int .i64 c.fi,.int .i64 c.la,.int .i64 c.po] 24)=W0 at *
  obtain ⟨_,c0,c1,c2,c3,c4,c5,c6,c7,c8,c9,c10,c11,c12,c13⟩:=id C
  go_wp2_with fail
  refine (ck _ T0).mono ?_
  rintro e w1 ⟨rfl,hb⟩
  go_wp2
  go_ret2
  exact ⟨rfl,bthen B hb⟩

set_option maxRecDepth 100000 in
theorem Weeks_any (c:CalZ)(y v er:Int)(w:World)(R:WeeksA c y v er)(hm:c.nm.size≤maxLen)(T:FTab w) :
  Calls Tryz.prog 161 #[.agg #[.string c.nm,.int .i64 c.k,.int .i64 c.d,.int .i64 c.m,.int .i64 c.s,.int .i64 c.sh,.int .i64 c.p0,.int .i64 c.p1,.int .i64 c.p2,.int .i64 c.cy,.int .i64 c.ex,.int .i64 c.fi,.int .i64 c.la,.int .i64 c.po],.int .i64 y] w fun e w'=>e= .returned (.tuple #[.int .i64 v,.int .i64 er])∧Below w.heap.size w w':=by
 have C:=CalIn.new w c 24
 have B:=balloc (Below.refl _ w) (.cells #[.string c.nm,.int .i64 c.k,.int .i64 c.d,.int .i64 c.m,.int .i64 c.s,.int .i64 c.sh,.int .i64 c.p0,.int .i64 c.p1,.int .i64 c.p2,.int .i64 c.cy,.int .i64 c.ex,.int .i64 c.fi,.int .i64 c.la,.int .i64 c.po] 24)
 have T0:=T.alloc (.cells #[.string c.nm,.int .i64 c.k,.int .i64 c.d,.int .i64 c.m,.int .i64 c.s,.int .i64 c.sh,.int .i64 c.p0,.int .i64 c.p1,.int .i64 c.p2,.int .i64 c.cy,.int .i64 c.ex,.int .i64 c.fi,.int .i64 c.la,.int .i64 c.po] 24)
 by_cases k6:c.k=6
 ·obtain ⟨rfl,rfl⟩:v=0∧er=1:=by
   rcases R with ⟨_,h,_⟩|⟨_,h,_⟩|⟨_,h1,h2⟩
   ·exact absurd k6 h
   ·exact absurd k6 h
   ·exact ⟨h1,h2⟩
  clear R
  have d6:(c.k==6)=true:=by rw [k6];rfl
  clear k6
  go_enter Tryz.func161,Tryz.ntmps161
  go_upto_region 1 with fail
  generalize w.alloc (.cells #[.string c.nm,.int .i64 c.k,.int .i64 c.d,.int .i64 c.m,.int .i64 c.s,.int .i64 c.sh,.int .i64 c.p0,.int .i64 c.p1,.int .i64 c.p2,.int .i64 c.cy,.int .i64 c.ex,.int .i64 c.fi,.int .i64 c.la,.int .i64 c.po] 24)=W0 at *
  obtain ⟨_,c0,c1,c2,c3,c4,c5,c6,c7,c8,c9,c10,c11,c12,c13⟩:=id C
  go_wp2
  go_ret2
  exact ⟨rfl,B⟩
 ·have d6:(c.k==6)=false:=beq_eq_false_iff_ne.2 k6
  obtain ⟨d,q,D,hq,d0,d1⟩:∃ d,∃ _:True,DaysA c y d er∧d / 7=v∧0≤d∧d≤400:=by
   rcases R with ⟨ok,_,h1,h2,hv,rfl⟩|⟨ok,_,h,rfl,rfl⟩|⟨no,rfl,rfl⟩
   ·have s:=yend_step ok.1 (y:=y - 1) (by omega) (by omega)
    rw [show y - 1+1=y by omega] at s
    exact ⟨_,trivial,.inl ⟨ok,h1,h2,rfl,rfl⟩,hv.symm,by omega,by omega⟩
   ·exact ⟨0,trivial,.inr (.inl ⟨ok,h,rfl,rfl⟩),rfl,by omega,by omega⟩
   ·exact ⟨0,trivial,.inr (.inr ⟨no.resolve_right k6,rfl,rfl⟩),rfl,by omega,by omega⟩
  have cd:=fun w T=>Days_any c y d er w D hm T
  clear D R k6
  subst hq
  go_enter Tryz.func161,Tryz.ntmps161
  go_upto_region 1 with fail
  generalize w.alloc (.cells #[.string c.nm,.int .i64 c.k,.int .i64 c.d,.int .i64 c.m,.int .i64 c.s,.int .i64 c.sh,.int .i64 c.p0,.int .i64 c.p1,.int .i64 c.p2,.int .i64 c.cy,.int .i64 c.ex,.int .i64 c.fi,.int .i64 c.la,.int .i64 c.po] 24)=W0 at *
  obtain ⟨_,c0,c1,c2,c3,c4,c5,c6,c7,c8,c9,c10,c11,c12,c13⟩:=id C
  go_wp2_with fail
  refine (cd _ T0).mono ?_
  rintro e w1 ⟨rfl,hb⟩
  go_wp2
  go_ret2
  exact ⟨rfl,bthen B hb⟩

end Go.Proofs.YtoilomigceijaaaGreatDoor.Ap

