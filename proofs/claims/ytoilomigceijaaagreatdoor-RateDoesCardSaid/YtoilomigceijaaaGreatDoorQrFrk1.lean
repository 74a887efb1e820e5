/- What Check of the reference of layer 11 comes to for a kind of weeks. -/
import Derived.Test.YtoilomigceijaaaGreatDoorQrJY
import Derived.Lib.QuietBelow
set_option linter.unusedSimpArgs false
set_option linter.unusedVariables false
namespace Go.Proofs.YtoilomigceijaaaGreatDoor.Fr
open Go.Sort (grow)
open Go.RowKit Bn Am Fp
open Zm (name)
open Zr (by_)

set_option maxHeartbeats 4000000

set_option maxRecDepth 100000 in
theorem rk1_bad (c:CalZ)(sb:Bool)(mv:Int)(w:World)(k1:(c.k==1)=true)
  (h1:1602≤c.fi) (h2:c.la≤9996) (h3:c.fi≤c.la) (h4:decide (400≤c.la - c.fi)=false) (g1:1≤c.po) (g2:c.po≤4) (g3:(c.po==4)=false) (g4:(c.k==6)=false)
  (cS:∀ w,Calls Tryz.prog 60 #[.agg #[.string c.nm,.int .i64 c.k,.int .i64 c.d,.int .i64 c.m,.int .i64 c.s,.int .i64 c.sh,.int .i64 c.p0,.int .i64 c.p1,.int .i64 c.p2,.int .i64 c.cy,.int .i64 c.ex,.int .i64 c.fi,.int .i64 c.la,.int .i64 c.po]] w fun e w'=>e= .returned (.bool sb)∧Below w.heap.size w w')
  (cM:∀ w,Calls Tryz.prog 61 #[.agg #[.string c.nm,.int .i64 c.k,.int .i64 c.d,.int .i64 c.m,.int .i64 c.s,.int .i64 c.sh,.int .i64 c.p0,.int .i64 c.p1,.int .i64 c.p2,.int .i64 c.cy,.int .i64 c.ex,.int .i64 c.fi,.int .i64 c.la,.int .i64 c.po]] w fun e w'=>e= .returned (.int .i64 mv)∧Below w.heap.size w w')
  (O:(decide (1≤c.d)=false)∨(decide (1≤c.d)=true∧decide (c.d≤7)=false)∨(decide (1≤c.d)=true∧decide (c.d≤7)=true∧decide (1≤c.m)=false)∨(decide (1≤c.d)=true∧decide (c.d≤7)=true∧decide (1≤c.m)=true∧decide (c.m≤12)=false)∨(decide (1≤c.d)=true∧decide (c.d≤7)=true∧decide (1≤c.m)=true∧decide (c.m≤12)=true∧(c.s==0)=false∧(c.s==1)=false))
  (cN:∀ w,Calls Tryz.prog 59 #[.string c.nm] w fun e w'=>e= .returned (.bool true)∧Below w.heap.size w w') :
  Calls Tryz.prog 30 #[.agg #[.string c.nm,.int .i64 c.k,.int .i64 c.d,.int .i64 c.m,.int .i64 c.s,.int .i64 c.sh,.int .i64 c.p0,.int .i64 c.p1,.int .i64 c.p2,.int .i64 c.cy,.int .i64 c.ex,.int .i64 c.fi,.int .i64 c.la,.int .i64 c.po]] w fun e w'=>e= .returned (.int .i64 1)∧Below w.heap.size w w':=by
 have C:=CalIn.new w c 24
 have B:=balloc (Below.refl _ w) (.cells #[.string c.nm,.int .i64 c.k,.int .i64 c.d,.int .i64 c.m,.int .i64 c.s,.int .i64 c.sh,.int .i64 c.p0,.int .i64 c.p1,.int .i64 c.p2,.int .i64 c.cy,.int .i64 c.ex,.int .i64 c.fi,.int .i64 c.la,.int .i64 c.po] 24)
 go_enter Tryz.func30,Tryz.ntmps30
 go_upto_region 1 with fail
 generalize w.alloc (.cells #[.string c.nm,.int .i64 c.k,.int .i64 c.d,.int .i64 c.m,.int .i64 c.s,.int .i64 c.sh,.int .i64 c.p0,.int .i64 c.p1,.int .i64 c.p2,.int .i64 c.cy,.int .i64 c.ex,.int .i64 c.fi,.int .i64 c.la,.int .i64 c.po] 24)=W0 at *
 obtain ⟨_,c0,c1,c2,c3,c4,c5,c6,c7,c8,c9,c10,c11,c12,c13⟩:=id C
 go_wp2_with fail
 refine (cN _).mono ?_
 rintro e w1 ⟨rfl,hb⟩
 replace C:=C.kept hb
 replace B:=bthen B hb
 clear hb c0 c1 c2 c3 c4 c5 c6 c7 c8 c9 c10 c11 c12 c13
 obtain ⟨_,c0,c1,c2,c3,c4,c5,c6,c7,c8,c9,c10,c11,c12,c13⟩:=id C
 go_upto_region 11 with fail
 have K:=Box.new w1 #[.string ⟨#[]⟩,.int .i64 c.k,.int .i64 c.d,.int .i64 c.m,.int .i64 c.s,.int .i64 c.sh,.int .i64 c.p0,.int .i64 c.p1,.int .i64 c.p2,.int .i64 c.cy,.int .i64 c.ex,.int .i64 0,.int .i64 0,.int .i64 0] 24
 replace C:=C.alloc (.cells #[.string ⟨#[]⟩,.int .i64 c.k,.int .i64 c.d,.int .i64 c.m,.int .i64 c.s,.int .i64 c.sh,.int .i64 c.p0,.int .i64 c.p1,.int .i64 c.p2,.int .i64 c.cy,.int .i64 c.ex,.int .i64 0,.int .i64 0,.int .i64 0] 24)
 replace B:=balloc B (.cells #[.string ⟨#[]⟩,.int .i64 c.k,.int .i64 c.d,.int .i64 c.m,.int .i64 c.s,.int .i64 c.sh,.int .i64 c.p0,.int .i64 c.p1,.int .i64 c.p2,.int .i64 c.cy,.int .i64 c.ex,.int .i64 0,.int .i64 0,.int .i64 0] 24)
 generalize w1.alloc (.cells #[.string ⟨#[]⟩,.int .i64 c.k,.int .i64 c.d,.int .i64 c.m,.int .i64 c.s,.int .i64 c.sh,.int .i64 c.p0,.int .i64 c.p1,.int .i64 c.p2,.int .i64 c.cy,.int .i64 c.ex,.int .i64 0,.int .i64 0,.int .i64 0] 24)=W2 at *
 clear c0 c1 c2 c3 c4 c5 c6 c7 c8 c9 c10 c11 c12 c13
 obtain ⟨_,c0,c1,c2,c3,c4,c5,c6,c7,c8,c9,c10,c11,c12,c13⟩:=id C
 have k100:=cell_regrown c0
 have k101:=cell_regrown c1
 have k102:=cell_regrown c2
 have k103:=cell_regrown c3
 have k104:=cell_regrown c4
 have k105:=cell_regrown c5
 have k106:=cell_regrown c6
 have k107:=cell_regrown c7
 have k108:=cell_regrown c8
 have k109:=cell_regrown c9
 have k110:=cell_regrown c10
 have k111:=cell_regrown c11
 have k112:=cell_regrown c12
 have k113:=cell_regrown c13
 have qS:∀ d os,Calls Tryz.prog 60 #[.agg #[.string c.nm,.int .i64 c.k,.int .i64 c.d,.int .i64 c.m,.int .i64 c.s,.int .i64 c.sh,.int .i64 c.p0,.int .i64 c.p1,.int .i64 c.p2,.int .i64 c.cy,.int .i64 c.ex,.int .i64 c.fi,.int .i64 c.la,.int .i64 c.po]] (grow (redrawn W2 d) os) fun e w''=>e= .returned (.bool sb)∧∃ p:Regrown,w''=grow (redrawn W2 p.d) p.os:=fun d os=>Calls.regrown_of (cS _)
 have qM:∀ d os,Calls Tryz.prog 61 #[.agg #[.string c.nm,.int .i64 c.k,.int .i64 c.d,.int .i64 c.m,.int .i64 c.s,.int .i64 c.sh,.int .i64 c.p0,.int .i64 c.p1,.int .i64 c.p2,.int .i64 c.cy,.int .i64 c.ex,.int .i64 c.fi,.int .i64 c.la,.int .i64 c.po]] (grow (redrawn W2 d) os) fun e w''=>e= .returned (.int .i64 mv)∧∃ p:Regrown,w''=grow (redrawn W2 p.d) p.os:=fun d os=>Calls.regrown_of (cM _)
 rcases O with d0|⟨d0,d1⟩|⟨d0,d1,m0⟩|⟨d0,d1,m0,m1⟩|⟨d0,d1,m0,m1,s0,s1⟩
 all_goals
  go_wp2
  go_quiet (fail)
  go_wp2
  go_ret
  exact ⟨rfl,bdrewN B _⟩

set_option maxRecDepth 100000 in
theorem rk1_s0a (c:CalZ)(sb:Bool)(mv er:Int)(w:World)(k1:(c.k==1)=true)
  (h1:1602≤c.fi) (h2:c.la≤9996) (h3:c.fi≤c.la) (h4:decide (400≤c.la - c.fi)=false) (g1:1≤c.po) (g2:c.po≤4) (g3:(c.po==4)=false) (g4:(c.k==6)=false)
  (cS:∀ w,Calls Tryz.prog 60 #[.agg #[.string c.nm,.int .i64 c.k,.int .i64 c.d,.int .i64 c.m,.int .i64 c.s,.int .i64 c.sh,.int .i64 c.p0,.int .i64 c.p1,.int .i64 c.p2,.int .i64 c.cy,.int .i64 c.ex,.int .i64 c.fi,.int .i64 c.la,.int .i64 c.po]] w fun e w'=>e= .returned (.bool sb)∧Below w.heap.size w w')
  (cM:∀ w,Calls Tryz.prog 61 #[.agg #[.string c.nm,.int .i64 c.k,.int .i64 c.d,.int .i64 c.m,.int .i64 c.s,.int .i64 c.sh,.int .i64 c.p0,.int .i64 c.p1,.int .i64 c.p2,.int .i64 c.cy,.int .i64 c.ex,.int .i64 c.fi,.int .i64 c.la,.int .i64 c.po]] w fun e w'=>e= .returned (.int .i64 mv)∧Below w.heap.size w w')
  (d0:decide (1≤c.d)=true) (d1:decide (c.d≤7)=true) (m0:decide (1≤c.m)=true) (m1:decide (c.m≤12)=true) (s0:(c.s==0)=true) (O:(sb=false∧er=1)∨(sb=true∧decide (1≤c.ex)=false∧er=1))
  (cN:∀ w,Calls Tryz.prog 59 #[.string c.nm] w fun e w'=>e= .returned (.bool true)∧Below w.heap.size w w') :
  Calls Tryz.prog 30 #[.agg #[.string c.nm,.int .i64 c.k,.int .i64 c.d,.int .i64 c.m,.int .i64 c.s,.int .i64 c.sh,.int .i64 c.p0,.int .i64 c.p1,.int .i64 c.p2,.int .i64 c.cy,.int .i64 c.ex,.int .i64 c.fi,.int .i64 c.la,.int .i64 c.po]] w fun e w'=>e= .returned (.int .i64 er)∧Below w.heap.size w w':=by
 have C:=CalIn.new w c 24
 have B:=balloc (Below.refl _ w) (.cells #[.string c.nm,.int .i64 c.k,.int .i64 c.d,.int .i64 c.m,.int .i64 c.s,.int .i64 c.sh,.int .i64 c.p0,.int .i64 c.p1,.int .i64 c.p2,.int .i64 c.cy,.int .i64 c.ex,.int .i64 c.fi,.int .i64 c.la,.int .i64 c.po] 24)
 go_enter Tryz.func30,Tryz.ntmps30
 go_upto_region 1 with fail
 generalize w.alloc (.cells #[.string c.nm,.int .i64 c.k,.int .i64 c.d,.int .i64 c.m,.int .i64 c.s,.int .i64 c.sh,.int .i64 c.p0,.int .i64 c.p1,.int .i64 c.p2,.int .i64 c.cy,.int .i64 c.ex,.int .i64 c.fi,.int .i64 c.la,.int .i64 c.po] 24)=W0 at *
 obtain ⟨_,c0,c1,c2,c3,c4,c5,c6,c7,c8,c9,c10,c11,c12,c13⟩:=id C
 go_wp2_with fail
 refine (cN _).mono ?_
 rintro e w1 ⟨rfl,hb⟩
 replace C:=C.kept hb
 replace B:=bthen B hb
 clear hb c0 c1 c2 c3 c4 c5 c6 c7 c8 c9 c10 c11 c12 c13
 obtain ⟨_,c0,c1,c2,c3,c4,c5,c6,c7,c8,c9,c10,c11,c12,c13⟩:=id C
 go_upto_region 11 with fail
 have K:=Box.new w1 #[.string ⟨#[]⟩,.int .i64 c.k,.int .i64 c.d,.int .i64 c.m,.int .i64 c.s,.int .i64 c.sh,.int .i64 c.p0,.int .i64 c.p1,.int .i64 c.p2,.int .i64 c.cy,.int .i64 c.ex,.int .i64 0,.int .i64 0,.int .i64 0] 24
 replace C:=C.alloc (.cells #[.string ⟨#[]⟩,.int .i64 c.k,.int .i64 c.d,.int .i64 c.m,.int .i64 c.s,.int .i64 c.sh,.int .i64 c.p0,.int .i64 c.p1,.int .i64 c.p2,.int .i64 c.cy,.int .i64 c.ex,.int .i64 0,.int .i64 0,.int .i64 0] 24)
 replace B:=balloc B (.cells #[.string ⟨#[]⟩,.int .i64 c.k,.int .i64 c.d,.int .i64 c.m,.int .i64 c.s,.int .i64 c.sh,.int .i64 c.p0,.int .i64 c.p1,.int .i64 c.p2,.int .i64 c.cy,.int .i64 c.ex,.int .i64 0,.int .i64 0,.int .i64 0] 24)
 generalize w1.alloc (.cells #[.string ⟨#[]⟩,.int .i64 c.k,.int .i64 c.d,.int .i64 c.m,.int .i64 c.s,.int .i64 c.sh,.int .i64 c.p0,.int .i64 c.p1,.int .i64 c.p2,.int .i64 c.cy,.int .i64 c.ex,.int .i64 0,.int .i64 0,.int .i64 0] 24)=W2 at *
 clear c0 c1 c2 c3 c4 c5 c6 c7 c8 c9 c10 c11 c12 c13
 obtain ⟨_,c0,c1,c2,c3,c4,c5,c6,c7,c8,c9,c10,c11,c12,c13⟩:=id C
 have k100:=cell_regrown c0
 have k101:=cell_regrown c1
 have k102:=cell_regrown c2
 have k103:=cell_regrown c3
 have k104:=cell_regrown c4
 have k105:=cell_regrown c5
 have k106:=cell_regrown c6
 have k107:=cell_regrown c7
 have k108:=cell_regrown c8
 have k109:=cell_regrown c9
 have k110:=cell_regrown c10
 have k111:=cell_regrown c11
 have k112:=cell_regrown c12
 have k113:=cell_regrown c13
 have qS:∀ d os,Calls Tryz.prog 60 #[.agg #[.string c.nm,.int .i64 c.k,.int .i64 c.d,.int .i64 c.m,.int .i64 c.s,.int .i64 c.sh,.int .i64 c.p0,.int .i64 c.p1,.int .i64 c.p2,.int .i64 c.cy,.int .i64 c.ex,.int .i64 c.fi,.int .i64 c.la,.int .i64 c.po]] (grow (redrawn W2 d) os) fun e w''=>e= .returned (.bool sb)∧∃ p:Regrown,w''=grow (redrawn W2 p.d) p.os:=fun d os=>Calls.regrown_of (cS _)
 have qM:∀ d os,Calls Tryz.prog 61 #[.agg #[.string c.nm,.int .i64 c.k,.int .i64 c.d,.int .i64 c.m,.int .i64 c.s,.int .i64 c.sh,.int .i64 c.p0,.int .i64 c.p1,.int .i64 c.p2,.int .i64 c.cy,.int .i64 c.ex,.int .i64 c.fi,.int .i64 c.la,.int .i64 c.po]] (grow (redrawn W2 d) os) fun e w''=>e= .returned (.int .i64 mv)∧∃ p:Regrown,w''=grow (redrawn W2 p.d) p.os:=fun d os=>Calls.regrown_of (cM _)
 rcases O with ⟨rfl,rfl⟩|⟨rfl,x0,rfl⟩
 all_goals
  go_wp2
  refine wp_region_quiet_below (by kernel_rfl) (by kernel_rfl) ?_
  repeat (quiet_step (first|exact qS _ _|exact qM _ _))
  refine wpQuiet_nil ?_
  intro _ hw'
  obtain ⟨⟨dq,osq⟩,hw''⟩:=hw'
  subst hw''
  go_wp2
  go_ret
  exact ⟨rfl,bthen B (below_regrown W2 dq osq)⟩

set_option maxRecDepth 100000 in
theorem rk1_s0b (c:CalZ)(sb:Bool)(mv er:Int)(w:World)(k1:(c.k==1)=true)
  (h1:1602≤c.fi) (h2:c.la≤9996) (h3:c.fi≤c.la) (h4:decide (400≤c.la - c.fi)=false) (g1:1≤c.po) (g2:c.po≤4) (g3:(c.po==4)=false) (g4:(c.k==6)=false)
  (cS:∀ w,Calls Tryz.prog 60 #[.agg #[.string c.nm,.int .i64 c.k,.int .i64 c.d,.int .i64 c.m,.int .i64 c.s,.int .i64 c.sh,.int .i64 c.p0,.int .i64 c.p1,.int .i64 c.p2,.int .i64 c.cy,.int .i64 c.ex,.int .i64 c.fi,.int .i64 c.la,.int .i64 c.po]] w fun e w'=>e= .returned (.bool sb)∧Below w.heap.size w w')
  (cM:∀ w,Calls Tryz.prog 61 #[.agg #[.string c.nm,.int .i64 c.k,.int .i64 c.d,.int .i64 c.m,.int .i64 c.s,.int .i64 c.sh,.int .i64 c.p0,.int .i64 c.p1,.int .i64 c.p2,.int .i64 c.cy,.int .i64 c.ex,.int .i64 c.fi,.int .i64 c.la,.int .i64 c.po]] w fun e w'=>e= .returned (.int .i64 mv)∧Below w.heap.size w w')
  (d0:decide (1≤c.d)=true) (d1:decide (c.d≤7)=true) (m0:decide (1≤c.m)=true) (m1:decide (c.m≤12)=true) (s0:(c.s==0)=true) (O:(sb=true∧decide (1≤c.ex)=true∧decide (c.ex≤mv)=false∧er=1)∨(sb=true∧decide (1≤c.ex)=true∧decide (c.ex≤mv)=true∧er=0))
  (cN:∀ w,Calls Tryz.prog 59 #[.string c.nm] w fun e w'=>e= .returned (.bool true)∧Below w.heap.size w w') :
  Calls Tryz.prog 30 #[.agg #[.string c.nm,.int .i64 c.k,.int .i64 c.d,.int .i64 c.m,.int .i64 c.s,.int .i64 c.sh,.int .i64 c.p0,.int .i64 c.p1,.int .i64 c.p2,.int .i64 c.cy,.int .i64 c.ex,.int .i64 c.fi,.int .i64 c.la,.int .i64 c.po]] w fun e w'=>e= .returned (.int .i64 er)∧Below w.heap.size w w':=by
 have C:=CalIn.new w c 24
 have B:=balloc (Below.refl _ w) (.cells #[.string c.nm,.int .i64 c.k,.int .i64 c.d,.int .i64 c.m,.int .i64 c.s,.int .i64 c.sh,.int .i64 c.p0,.int .i64 c.p1,.int .i64 c.p2,.int .i64 c.cy,.int .i64 c.ex,.int .i64 c.fi,.int .i64 c.la,.int .i64 c.po] 24)
 go_enter Tryz.func30,Tryz.ntmps30
 go_upto_region 1 with fail
 generalize w.alloc (.cells #[.string c.nm,.int .i64 c.k,.int .i64 c.d,.int .i64 c.m,.int .i64 c.s,.int .i64 c.sh,.int .i64 c.p0,.int .i64 c.p1,.int .i64 c.p2,.int .i64 c.cy,.int .i64 c.ex,.int .i64 c.fi,.int .i64 c.la,.int .i64 c.po] 24)=W0 at *
 obtain ⟨_,c0,c1,c2,c3,c4,c5,c6,c7,c8,c9,c10,c11,c12,c13⟩:=id C
 go_wp2_with fail
 refine (cN _).mono ?_
 rintro e w1 ⟨rfl,hb⟩
 replace C:=C.kept hb
 replace B:=bthen B hb
 clear hb c0 c1 c2 c3 c4 c5 c6 c7 c8 c9 c10 c11 c12 c13
 obtain ⟨_,c0,c1,c2,c3,c4,c5,c6,c7,c8,c9,c10,c11,c12,c13⟩:=id C
 go_upto_region 11 with fail
 have K:=Box.new w1 #[.string ⟨#[]⟩,.int .i64 c.k,.int .i64 c.d,.int .i64 c.m,.int .i64 c.s,.int .i64 c.sh,.int .i64 c.p0,.int .i64 c.p1,.int .i64 c.p2,.int .i64 c.cy,.int .i64 c.ex,.int .i64 0,.int .i64 0,.int .i64 0] 24
 replace C:=C.alloc (.cells #[.string ⟨#[]⟩,.int .i64 c.k,.int .i64 c.d,.int .i64 c.m,.int .i64 c.s,.int .i64 c.sh,.int .i64 c.p0,.int .i64 c.p1,.int .i64 c.p2,.int .i64 c.cy,.int .i64 c.ex,.int .i64 0,.int .i64 0,.int .i64 0] 24)
 replace B:=balloc B (.cells #[.string ⟨#[]⟩,.int .i64 c.k,.int .i64 c.d,.int .i64 c.m,.int .i64 c.s,.int .i64 c.sh,.int .i64 c.p0,.int .i64 c.p1,.int .i64 c.p2,.int .i64 c.cy,.int .i64 c.ex,.int .i64 0,.int .i64 0,.int .i64 0] 24)
 generalize w1.alloc (.cells #[.string ⟨#[]⟩,.int .i64 c.k,.int .i64 c.d,.int .i64 c.m,.int .i64 c.s,.int .i64 c.sh,.int .i64 c.p0,.int .i64 c.p1,.int .i64 c.p2,.int .i64 c.cy,.int .i64 c.ex,.int .i64 0,.int .i64 0,.int .i64 0] 24)=W2 at *
 clear c0 c1 c2 c3 c4 c5 c6 c7 c8 c9 c10 c11 c12 c13
 obtain ⟨_,c0,c1,c2,c3,c4,c5,c6,c7,c8,c9,c10,c11,c12,c13⟩:=id C
 have k100:=cell_regrown c0
 have k101:=cell_regrown c1
 have k102:=cell_regrown c2
 have k103:=cell_regrown c3
 have k104:=cell_regrown c4
 have k105:=cell_regrown c5
 have k106:=cell_regrown c6
 have k107:=cell_regrown c7
 have k108:=cell_regrown c8
 have k109:=cell_regrown c9
 have k110:=cell_regrown c10
 have k111:=cell_regrown c11
 have k112:=cell_regrown c12
 have k113:=cell_regrown c13
 have qS:∀ d os,Calls Tryz.prog 60 #[.agg #[.string c.nm,.int .i64 c.k,.int .i64 c.d,.int .i64 c.m,.int .i64 c.s,.int .i64 c.sh,.int .i64 c.p0,.int .i64 c.p1,.int .i64 c.p2,.int .i64 c.cy,.int .i64 c.ex,.int .i64 c.fi,.int .i64 c.la,.int .i64 c.po]] (grow (redrawn W2 d) os) fun e w''=>e= .returned (.bool sb)∧∃ p:Regrown,w''=grow (redrawn W2 p.d) p.os:=fun d os=>Calls.regrown_of (cS _)
 have qM:∀ d os,Calls Tryz.prog 61 #[.agg #[.string c.nm,.int .i64 c.k,.int .i64 c.d,.int .i64 c.m,.int .i64 c.s,.int .i64 c.sh,.int .i64 c.p0,.int .i64 c.p1,.int .i64 c.p2,.int .i64 c.cy,.int .i64 c.ex,.int .i64 c.fi,.int .i64 c.la,.int .i64 c.po]] (grow (redrawn W2 d) os) fun e w''=>e= .returned (.int .i64 mv)∧∃ p:Regrown,w''=grow (redrawn W2 p.d) p.os:=fun d os=>Calls.regrown_of (cM _)
 rcases O with ⟨rfl,x0,x1,rfl⟩|⟨rfl,x0,x1,rfl⟩
 all_goals
  go_wp2
  refine wp_region_quiet_below (by kernel_rfl) (by kernel_rfl) ?_
  repeat (quiet_step (first|exact qS _ _|exact qM _ _))
  refine wpQuiet_nil ?_
  intro _ hw'
  obtain ⟨⟨dq,osq⟩,hw''⟩:=hw'
  subst hw''
  go_wp2
  go_ret
  exact ⟨rfl,bthen B (below_regrown W2 dq osq)⟩

set_option maxRecDepth 100000 in
theorem rk1_s1a (c:CalZ)(sb:Bool)(mv er:Int)(w:World)(k1:(c.k==1)=true)
  (h1:1602≤c.fi) (h2:c.la≤9996) (h3:c.fi≤c.la) (h4:decide (400≤c.la - c.fi)=false) (g1:1≤c.po) (g2:c.po≤4) (g3:(c.po==4)=false) (g4:(c.k==6)=false)
  (cS:∀ w,Calls Tryz.prog 60 #[.agg #[.string c.nm,.int .i64 c.k,.int .i64 c.d,.int .i64 c.m,.int .i64 c.s,.int .i64 c.sh,.int .i64 c.p0,.int .i64 c.p1,.int .i64 c.p2,.int .i64 c.cy,.int .i64 c.ex,.int .i64 c.fi,.int .i64 c.la,.int .i64 c.po]] w fun e w'=>e= .returned (.bool sb)∧Below w.heap.size w w')
  (cM:∀ w,Calls Tryz.prog 61 #[.agg #[.string c.nm,.int .i64 c.k,.int .i64 c.d,.int .i64 c.m,.int .i64 c.s,.int .i64 c.sh,.int .i64 c.p0,.int .i64 c.p1,.int .i64 c.p2,.int .i64 c.cy,.int .i64 c.ex,.int .i64 c.fi,.int .i64 c.la,.int .i64 c.po]] w fun e w'=>e= .returned (.int .i64 mv)∧Below w.heap.size w w')
  (d0:decide (1≤c.d)=true) (d1:decide (c.d≤7)=true) (m0:decide (1≤c.m)=true) (m1:decide (c.m≤12)=true) (s0:(c.s==0)=false) (s1:(c.s==1)=true) (O:(sb=false∧er=1)∨(sb=true∧decide (1≤c.ex)=false∧er=1))
  (cN:∀ w,Calls Tryz.prog 59 #[.string c.nm] w fun e w'=>e= .returned (.bool true)∧Below w.heap.size w w') :
  Calls Tryz.prog 30 #[.agg #[.string c.nm,.int .i64 c.k,.int .i64 c.d,.int .i64 c.m,.int .i64 c.s,.int .i64 c.sh,.int .i64 c.p0,.int .i64 c.p1,.int .i64 c.p2,.int .i64 c.cy,.int .i64 c.ex,.int .i64 c.fi,.int .i64 c.la,.int .i64 c.po]] w fun e w'=>e= .returned (.int .i64 er)∧Below w.heap.size w w':=by
 have C:=CalIn.new w c 24
 have B:=balloc (Below.refl _ w) (.cells #[.string c.nm,.int .i64 c.k,.int .i64 c.d,.int .i64 c.m,.int .i64 c.s,.int .i64 c.sh,.int .i64 c.p0,.int .i64 c.p1,.int .i64 c.p2,.int .i64 c.cy,.int .i64 c.ex,.int .i64 c.fi,.int .i64 c.la,.int .i64 c.po] 24)
 go_enter Tryz.func30,Tryz.ntmps30
 go_upto_region 1 with fail
 generalize w.alloc (.cells #[.string c.nm,.int .i64 c.k,.int .i64 c.d,.int .i64 c.m,.int .i64 c.s,.int .i64 c.sh,.int .i64 c.p0,.int .i64 c.p1,.int .i64 c.p2,.int .i64 c.cy,.int .i64 c.ex,.int .i64 c.fi,.int .i64 c.la,.int .i64 c.po] 24)=W0 at *
 obtain ⟨_,c0,c1,c2,c3,c4,c5,c6,c7,c8,c9,c10,c11,c12,c13⟩:=id C
 go_wp2_with fail
 refine (cN _).mono ?_
 rintro e w1 ⟨rfl,hb⟩
 replace C:=C.kept hb
 replace B:=bthen B hb
 clear hb c0 c1 c2 c3 c4 c5 c6 c7 c8 c9 c10 c11 c12 c13
 obtain ⟨_,c0,c1,c2,c3,c4,c5,c6,c7,c8,c9,c10,c11,c12,c13⟩:=id C
 go_upto_region 11 with fail
 have K:=Box.new w1 #[.string ⟨#[]⟩,.int .i64 c.k,.int .i64 c.d,.int .i64 c.m,.int .i64 c.s,.int .i64 c.sh,.int .i64 c.p0,.int .i64 c.p1,.int .i64 c.p2,.int .i64 c.cy,.int .i64 c.ex,.int .i64 0,.int .i64 0,.int .i64 0] 24
 replace C:=C.alloc (.cells #[.string ⟨#[]⟩,.int .i64 c.k,.int .i64 c.d,.int .i64 c.m,.int .i64 c.s,.int .i64 c.sh,.int .i64 c.p0,.int .i64 c.p1,.int .i64 c.p2,.int .i64 c.cy,.int .i64 c.ex,.int .i64 0,.int .i64 0,.int .i64 0] 24)
 replace B:=balloc B (.cells #[.string ⟨#[]⟩,.int .i64 c.k,.int .i64 c.d,.int .i64 c.m,.int .i64 c.s,.int .i64 c.sh,.int .i64 c.p0,.int .i64 c.p1,.int .i64 c.p2,.int .i64 c.cy,.int .i64 c.ex,.int .i64 0,.int .i64 0,.int .i64 0] 24)
 generalize w1.alloc (.cells #[.string ⟨#[]⟩,.int .i64 c.k,.int .i64 c.d,.int .i64 c.m,.int .i64 c.s,.int .i64 c.sh,.int .i64 c.p0,.int .i64 c.p1,.int .i64 c.p2,.int .i64 c.cy,.int .i64 c.ex,.int .i64 0,.int .i64 0,.int .i64 0] 24)=W2 at *
 clear c0 c1 c2 c3 c4 c5 c6 c7 c8 c9 c10 c11 c12 c13
 obtain ⟨_,c0,c1,c2,c3,c4,c5,c6,c7,c8,c9,c10,c11,c12,c13⟩:=id C
 have k100:=cell_regrown c0
 have k101:=cell_regrown c1
 have k102:=cell_regrown c2
 have k103:=cell_regrown c3
 have k104:=cell_regrown c4
 have k105:=cell_regrown c5
 have k106:=cell_regrown c6
 have k107:=cell_regrown c7
 have k108:=cell_regrown c8
 have k109:=cell_regrown c9
 have k110:=cell_regrown c10
 have k111:=cell_regrown c11
 have k112:=cell_regrown c12
 have k113:=cell_regrown c13
 have qS:∀ d os,Calls Tryz.prog 60 #[.agg #[.string c.nm,.int .i64 c.k,.int .i64 c.d,.int .i64 c.m,.int .i64 c.s,.int .i64 c.sh,.int .i64 c.p0,.int .i64 c.p1,.int .i64 c.p2,.int .i64 c.cy,.int .i64 c.ex,.int .i64 c.fi,.int .i64 c.la,.int .i64 c.po]] (grow (redrawn W2 d) os) fun e w''=>e= .returned (.bool sb)∧∃ p:Regrown,w''=grow (redrawn W2 p.d) p.os:=fun d os=>Calls.regrown_of (cS _)
 have qM:∀ d os,Calls Tryz.prog 61 #[.agg #[.string c.nm,.int .i64 c.k,.int .i64 c.d,.int .i64 c.m,.int .i64 c.s,.int .i64 c.sh,.int .i64 c.p0,.int .i64 c.p1,.int .i64 c.p2,.int .i64 c.cy,.int .i64 c.ex,.int .i64 c.fi,.int .i64 c.la,.int .i64 c.po]] (grow (redrawn W2 d) os) fun e w''=>e= .returned (.int .i64 mv)∧∃ p:Regrown,w''=grow (redrawn W2 p.d) p.os:=fun d os=>Calls.regrown_of (cM _)
 rcases O with ⟨rfl,rfl⟩|⟨rfl,x0,rfl⟩
 all_goals
  go_wp2
  refine wp_region_quiet_below (by kernel_rfl) (by kernel_rfl) ?_
  repeat (quiet_step (first|exact qS _ _|exact qM _ _))
  refine wpQuiet_nil ?_
  intro _ hw'
  obtain ⟨⟨dq,osq⟩,hw''⟩:=hw'
  subst hw''
  go_wp2
  go_ret
  exact ⟨rfl,bthen B (below_regrown W2 dq osq)⟩

set_option maxRecDepth 100000 in
theorem rk1_s1b (c:CalZ)(sb:Bool)(mv er:Int)(w:World)(k1:(c.k==1)=true)
  (h1:1602≤c.fi) (h2:c.la≤9996) (h3:c.fi≤c.la) (h4:decide (400≤c.la - c.fi)=false) (g1:1≤c.po) (g2:c.po≤4) (g3:(c.po==4)=false) (g4:(c.k==6)=false)
  (cS:∀ w,Calls Tryz.prog 60 #[.agg #[.string c.nm,.int .i64 c.k,.int .i64 c.d,.int .i64 c.m,.int .i64 c.s,.int .i64 c.sh,.int .i64 c.p0,.int .i64 c.p1,.int .i64 c.p2,.int .i64 c.cy,.int .i64 c.ex,.int .i64 c.fi,.int .i64 c.la,.int .i64 c.po]] w fun e w'=>e= .returned (.bool sb)∧Below w.heap.size w w')
  (cM:∀ w,Calls Tryz.prog 61 #[.agg #[.string c.nm,.int .i64 c.k,.int .i64 c.d,.int .i64 c.m,.int .i64 c.s,.int .i64 c.sh,.int .i64 c.p0,.int .i64 c.p1,.int .i64 c.p2,.int .i64 c.cy,.int .i64 c.ex,.int .i64 c.fi,.int .i64 c.la,.int .i64 c.po]] w fun e w'=>e= .returned (.int .i64 mv)∧Below w.heap.size w w')
  (d0:decide (1≤c.d)=true) (d1:decide (c.d≤7)=true) (m0:decide (1≤c.m)=true) (m1:decide (c.m≤12)=true) (s0:(c.s==0)=false) (s1:(c.s==1)=true) (O:(sb=true∧decide (1≤c.ex)=true∧decide (c.ex≤mv)=false∧er=1)∨(sb=true∧decide (1≤c.ex)=true∧decide (c.ex≤mv)=true∧er=0))
  (cN:∀ w,Calls Tryz.prog 59 #[.string c.nm] w fun e w'=>e= .returned (.bool true)∧Below w.heap.size w w') :
  Calls Tryz.prog 30 #[.agg #[.string c.nm,.int .i64 c.k,.int .i64 c.d,.int .i64 c.m,.int .i64 c.s,.int .i64 c.sh,.int .i64 c.p0,.int .i64 c.p1,.int .i64 c.p2,.int .i64 c.cy,.int .i64 c.ex,.int .i64 c.fi,.int .i64 c.la,.int .i64 c.po]] w fun e w'=>e= .returned (.int .i64 er)∧Below w.heap.size w w':=by
 have C:=CalIn.new w c 24
 have B:=balloc (Below.refl _ w) (.cells #[.string c.nm,.int .i64 c.k,.int .i64 c.d,.int .i64 c.m,.int .i64 c.s,.int .i64 c.sh,.int .i64 c.p0,.int .i64 c.p1,.int .i64 c.p2,.int .i64 c.cy,.int .i64 c.ex,.int .i64 c.fi,.int .i64 c.la,.int .i64 c.po] 24)
 go_enter Tryz.func30,Tryz.ntmps30
 go_upto_region 1 with fail
 generalize w.alloc (.cells #[.string c.nm,.int .i64 c.k,.int .i64 c.d,.int .i64 c.m,.int .i64 c.s,.int .i64 c.sh,.int .i64 c.p0,.int .i64 c.p1,.int .i64 c.p2,.int .i64 c.cy,.int .i64 c.ex,.int .i64 c.fi,.int .i64 c.la,.int .i64 c.po] 24)=W0 at *
 obtain ⟨_,c0,c1,c2,c3,c4,c5,c6,c7,c8,c9,c10,c11,c12,c13⟩:=id C
 go_wp2_with fail
 refine (cN _).mono ?_
 rintro e w1 ⟨rfl,hb⟩
 replace C:=C.kept hb
 replace B:=bthen B hb
 clear hb c0 c1 c2 c3 c4 c5 c6 c7 c8 c9 c10 c11 c12 c13
 obtain ⟨_,c0,c1,c2,c3,c4,c5,c6,c7,c8,c9,c10,c11,c12,c13⟩:=id C
 go_upto_region 11 with fail
 have K:=Box.new w1 #[.string ⟨#[]⟩,.int .i64 c.k,.int .i64 c.d,.int .i64 c.m,.int .i64 c.s,.int .i64 c.sh,.int .i64 c.p0,.int .i64 c.p1,.int .i64 c.p2,.int .i64 c.cy,.int .i64 c.ex,.int .i64 0,.int .i64 0,.int .i64 0] 24
 replace C:=C.alloc (.cells #[.string ⟨#[]⟩,.int .i64 c.k,.int .i64 c.d,.int .i64 c.m,.int .i64 c.s,.int .i64 c.sh,.int .i64 c.p0,.int .i64 c.p1,.int .i64 c.p2,.int .i64 c.cy,.int .i64 c.ex,.int .i64 0,.int .i64 0,.int .i64 0] 24)
 replace B:=balloc B (.cells #[.string ⟨#[]⟩,.int .i64 c.k,.int .i64 c.d,.int .i64 c.m,.int .i64 c.s,.int .i64 c.sh,.int .i64 c.p0,.int .i64 c.p1,.int .i64 c.p2,.int .i64 c.cy,.int .i64 c.ex,.int .i64 0,.int .i64 0,.int .i64 0] 24)
 generalize w1.alloc (.cells #[.string ⟨#[]⟩,.int .i64 c.k,.int .i64 c.d,.int .i64 c.m,.int .i64 c.s,.int .i64 c.sh,.int .i64 c.p0,.int .i64 c.p1,.int .i64 c.p2,.int .i64 c.cy,.int .i64 c.ex,.int .i64 0,.int .i64 0,.int .i64 0] 24)=W2 at *
 clear c0 c1 c2 c3 c4 c5 c6 c7 c8 c9 c10 c11 c12 c13
 obtain ⟨_,c0,c1,c2,c3,c4,c5,c6,c7,c8,c9,c10,c11,c12,c13⟩:=id C
 have k100:=cell_regrown c0
 have k101:=cell_regrown c1
 have k102:=cell_regrown c2
 have k103:=cell_regrown c3
 have k104:=cell_regrown c4
 have k105:=cell_regrown c5
 have k106:=cell_regrown c6
 have k107:=cell_regrown c7
 have k108:=cell_regrown c8
 have k109:=cell_regrown c9
 have k110:=cell_regrown c10
 have k111:=cell_regrown c11
 have k112:=cell_regrown c12
 have k113:=cell_regrown c13
 have qS:∀ d os,Calls Tryz.prog 60 #[.agg #[.string c.nm,.int .i64 c.k,.int .i64 c.d,.int .i64 c.m,.int .i64 c.s,.int .i64 c.sh,.int .i64 c.p0,.int .i64 c.p1,.int .i64 c.p2,.int .i64 c.cy,.int .i64 c.ex,.int .i64 c.fi,.int .i64 c.la,.int .i64 c.po]] (grow (redrawn W2 d) os) fun e w''=>e= .returned (.bool sb)∧∃ p:Regrown,w''=grow (redrawn W2 p.d) p.os:=fun d os=>Calls.regrown_of (cS _)
 have qM:∀ d os,Calls Tryz.prog 61 #[.agg #[.string c.nm,.int .i64 c.k,.int .i64 c.d,.int .i64 c.m,.int .i64 c.s,.int .i64 c.sh,.int .i64 c.p0,.int .i64 c.p1,.int .i64 c.p2,.int .i64 c.cy,.int .i64 c.ex,.int .i64 c.fi,.int .i64 c.la,.int .i64 c.po]] (grow (redrawn W2 d) os) fun e w''=>e= .returned (.int .i64 mv)∧∃ p:Regrown,w''=grow (redrawn W2 p.d) p.os:=fun d os=>Calls.regrown_of (cM _)
 rcases O with ⟨rfl,x0,x1,rfl⟩|⟨rfl,x0,x1,rfl⟩
 all_goals
  go_wp2
  refine wp_region_quiet_below (by kernel_rfl) (by kernel_rfl) ?_
  repeat (quiet_step (first|exact qS _ _|exact qM _ _))
  refine wpQuiet_nil ?_
  intro _ hw'
  obtain ⟨⟨dq,osq⟩,hw''⟩:=hw'
  subst hw''
  go_wp2
  go_ret
  exact ⟨rfl,bthen B (below_regrown W2 dq osq)⟩

theorem rkind_k1 (c:CalZ)(sb:Bool)(mv er:Int)(w:World)(k1:(c.k==1)=true)
  (h1:1602≤c.fi) (h2:c.la≤9996) (h3:c.fi≤c.la) (h4:decide (400≤c.la - c.fi)=false) (g1:1≤c.po) (g2:c.po≤4) (g3:(c.po==4)=false) (g4:(c.k==6)=false)
  (cS:∀ w,Calls Tryz.prog 60 #[.agg #[.string c.nm,.int .i64 c.k,.int .i64 c.d,.int .i64 c.m,.int .i64 c.s,.int .i64 c.sh,.int .i64 c.p0,.int .i64 c.p1,.int .i64 c.p2,.int .i64 c.cy,.int .i64 c.ex,.int .i64 c.fi,.int .i64 c.la,.int .i64 c.po]] w fun e w'=>e= .returned (.bool sb)∧Below w.heap.size w w')
  (cM:∀ w,Calls Tryz.prog 61 #[.agg #[.string c.nm,.int .i64 c.k,.int .i64 c.d,.int .i64 c.m,.int .i64 c.s,.int .i64 c.sh,.int .i64 c.p0,.int .i64 c.p1,.int .i64 c.p2,.int .i64 c.cy,.int .i64 c.ex,.int .i64 c.fi,.int .i64 c.la,.int .i64 c.po]] w fun e w'=>e= .returned (.int .i64 mv)∧Below w.heap.size w w')
  (hr:er=if (decide (1≤c.d)&&(decide (c.d≤7)&&(decide (1≤c.m)&&(decide (c.m≤12)&&((decide (c.s=0)||decide (c.s=1))&&(sb&&(decide (1≤c.ex)&&decide (c.ex≤mv))))))))=true then 0 else 1)
  (cN:∀ w,Calls Tryz.prog 59 #[.string c.nm] w fun e w'=>e= .returned (.bool true)∧Below w.heap.size w w') :
  Calls Tryz.prog 30 #[.agg #[.string c.nm,.int .i64 c.k,.int .i64 c.d,.int .i64 c.m,.int .i64 c.s,.int .i64 c.sh,.int .i64 c.p0,.int .i64 c.p1,.int .i64 c.p2,.int .i64 c.cy,.int .i64 c.ex,.int .i64 c.fi,.int .i64 c.la,.int .i64 c.po]] w fun e w'=>e= .returned (.int .i64 er)∧Below w.heap.size w w':=by
 by_cases q0:1≤c.d
 case neg =>
  obtain rfl:er=1:=by rw [hr];simp [q0]
  exact rk1_bad c sb mv w k1 h1 h2 h3 h4 g1 g2 g3 g4 cS cM (.inl (decide_eq_false q0)) cN
 by_cases q1:c.d≤7
 case neg =>
  obtain rfl:er=1:=by rw [hr];simp [q1]
  exact rk1_bad c sb mv w k1 h1 h2 h3 h4 g1 g2 g3 g4 cS cM (.inr (.inl ⟨decide_eq_true q0,decide_eq_false q1⟩)) cN
 by_cases q2:1≤c.m
 case neg =>
  obtain rfl:er=1:=by rw [hr];simp [q2]
  exact rk1_bad c sb mv w k1 h1 h2 h3 h4 g1 g2 g3 g4 cS cM (.inr (.inr (.inl ⟨decide_eq_true q0,decide_eq_true q1,decide_eq_false q2⟩))) cN
 by_cases q3:c.m≤12
 case neg =>
  obtain rfl:er=1:=by rw [hr];simp [q3]
  exact rk1_bad c sb mv w k1 h1 h2 h3 h4 g1 g2 g3 g4 cS cM (.inr (.inr (.inr (.inl ⟨decide_eq_true q0,decide_eq_true q1,decide_eq_true q2,decide_eq_false q3⟩)))) cN
 by_cases q:c.s=0∨c.s=1
 case neg =>
  have e0:¬ c.s=0:=fun h=>q (.inl h)
  have e1:¬ c.s=1:=fun h=>q (.inr h)
  obtain rfl:er=1:=by rw [hr];simp [e0,e1]
  exact rk1_bad c sb mv w k1 h1 h2 h3 h4 g1 g2 g3 g4 cS cM (.inr (.inr (.inr (.inr ⟨decide_eq_true q0,decide_eq_true q1,decide_eq_true q2,decide_eq_true q3,beq_eq_false_iff_ne.2 e0,beq_eq_false_iff_ne.2 e1⟩)))) cN
 have hr2:er=if (sb&&(decide (1≤c.ex)&&decide (c.ex≤mv)))=true then 0 else 1:=by
  rw [hr];rcases q with q|q<;>simp [q,q0,q1,q2,q3]
 have O:(sb=false∧er=1)∨(sb=true∧decide (1≤c.ex)=false∧er=1)∨(sb=true∧decide (1≤c.ex)=true∧decide (c.ex≤mv)=false∧er=1)∨(sb=true∧decide (1≤c.ex)=true∧decide (c.ex≤mv)=true∧er=0):=by
  cases sb with
  | false=>exact .inl ⟨rfl,by rw [hr2];rfl⟩
  | true =>
    by_cases x1:1≤c.ex
    ·by_cases x2:c.ex≤mv
     ·exact .inr (.inr (.inr ⟨rfl,decide_eq_true x1,decide_eq_true x2,by rw [hr2];simp [x1,x2]⟩))
     ·exact .inr (.inr (.inl ⟨rfl,decide_eq_true x1,decide_eq_false x2,by rw [hr2];simp [x2]⟩))
    ·exact .inr (.inl ⟨rfl,decide_eq_false x1,by rw [hr2];simp [x1]⟩)
 have O':((sb=false∧er=1)∨(sb=true∧decide (1≤c.ex)=false∧er=1))∨((sb=true∧decide (1≤c.ex)=true∧decide (c.ex≤mv)=false∧er=1)∨(sb=true∧decide (1≤c.ex)=true∧decide (c.ex≤mv)=true∧er=0)):=by
  rcases O with o|o|o|o
  ·exact .inl (.inl o)
  ·exact .inl (.inr o)
  ·exact .inr (.inl o)
  ·exact .inr (.inr o)
 by_cases e0:c.s=0
 ·rcases O' with o|o
  ·exact rk1_s0a c sb mv er w k1 h1 h2 h3 h4 g1 g2 g3 g4 cS cM (decide_eq_true q0) (decide_eq_true q1) (decide_eq_true q2) (decide_eq_true q3) (by rw [e0];rfl) o cN
  ·exact rk1_s0b c sb mv er w k1 h1 h2 h3 h4 g1 g2 g3 g4 cS cM (decide_eq_true q0) (decide_eq_true q1) (decide_eq_true q2) (decide_eq_true q3) (by rw [e0];rfl) o cN
 ·rcases O' with o|o
  ·exact rk1_s1a c sb mv er w k1 h1 h2 h3 h4 g1 g2 g3 g4 cS cM (decide_eq_true q0) (decide_eq_true q1) (decide_eq_true q2) (decide_eq_true q3) (beq_eq_false_iff_ne.2 e0) (by rw [q.resolve_left e0];rfl) o cN
  ·exact rk1_s1b c sb mv er w k1 h1 h2 h3 h4 g1 g2 g3 g4 cS cM (decide_eq_true q0) (decide_eq_true q1) (decide_eq_true q2) (decide_eq_true q3) (beq_eq_false_iff_ne.2 e0) (by rw [q.resolve_left e0];rfl) o cN

end Go.Proofs.YtoilomigceijaaaGreatDoor.Fr

