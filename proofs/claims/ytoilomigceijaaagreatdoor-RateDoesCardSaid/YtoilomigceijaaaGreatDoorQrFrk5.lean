/- What Check of the reference of layer 11 comes to for ISO years. -/
import Derived.Test.YtoilomigceijaaaGreatDoorQrJY
import Derived.Lib.QuietBelow
set_option linter.unusedSimpArgs false
set_option linter.unusedVariables false
namespace Go.Proofs.YtoilomigceijaaaGreatDoor.Fr
open Go.Sort (grow)
open Go.RowKit Bn Am Fp
open Zm (name)
open Zr (by_)

set_option maxHeartbeats 4000000

set_option maxRecDepth 100000 in
theorem rkind_k5 (c:CalZ)(sb:Bool)(mv er:Int)(w:World)(k1:(c.k==1)=false)(k2:(c.k==2)=false)(k5:(c.k==5)=true)
  (h1:1602≤c.fi) (h2:c.la≤9996) (h3:c.fi≤c.la) (h4:decide (400≤c.la - c.fi)=false) (g1:1≤c.po) (g2:c.po≤4) (g3:(c.po==4)=false) (g4:(c.k==6)=false)
  (cS:∀ w,Calls Tryz.prog 60 #[.agg #[.string c.nm,.int .i64 c.k,.int .i64 c.d,.int .i64 c.m,.int .i64 c.s,.int .i64 c.sh,.int .i64 c.p0,.int .i64 c.p1,.int .i64 c.p2,.int .i64 c.cy,.int .i64 c.ex,.int .i64 c.fi,.int .i64 c.la,.int .i64 c.po]] w fun e w'=>e= .returned (.bool sb)∧Below w.heap.size w w')
  (cM:∀ w,Calls Tryz.prog 61 #[.agg #[.string c.nm,.int .i64 c.k,.int .i64 c.d,.int .i64 c.m,.int .i64 c.s,.int .i64 c.sh,.int .i64 c.p0,.int .i64 c.p1,.int .i64 c.p2,.int .i64 c.cy,.int .i64 c.ex,.int .i64 c.fi,.int .i64 c.la,.int .i64 c.po]] w fun e w'=>e= .returned (.int .i64 mv)∧Below w.heap.size w w')
  (hr:er=if ((c.d==7)&&((c.m==12)&&((c.s==0)&&(sb&&(decide (1≤c.ex)&&decide (c.ex≤mv))))))=true then 0 else 1)
  (cN:∀ w,Calls Tryz.prog 59 #[.string c.nm] w fun e w'=>e= .returned (.bool true)∧Below w.heap.size w w') :
  Calls Tryz.prog 30 #[.agg #[.string c.nm,.int .i64 c.k,.int .i64 c.d,.int .i64 c.m,.int .i64 c.s,.int .i64 c.sh,.int .i64 c.p0,.int .i64 c.p1,.int .i64 c.p2,.int .i64 c.cy,.int .i64 c.ex,.int .i64 c.fi,.int .i64 c.la,.int .i64 c.po]] w fun e w'=>e= .returned (.int .i64 er)∧Below w.heap.size w w':=by
 have C:=CalIn.new w c 24
 have B:=balloc (Below.refl _ w) (.cells #[.string c.nm,.int .i64 c.k,.int .i64 c.d,.int .i64 c.m,.int .i64 c.s,.int .i64 c.sh,.int .i64 c.p0,.int .i64 c.p1,.int .i64 c.p2,.int .i64 c.cy,.int .i64 c.ex,.int .i64 c.fi,.int .i64 c.la,.int .i64 c.po] 24)
 go_enter Tryz.func30,Tryz.ntmps30
 go_upto_region 1 with fail
 generalize w.alloc (.cells #[.string c.nm,.int .i64 c.k,.int .i64 c.d,.int .i64 c.m,.int .i64 c.s,.int .i64 c.sh,.int .i64 c.p0,.int .i64 c.p1,.int .i64 c.p2,.int .i64 c.cy,.int .i64 c.ex,.int .i64 c.fi,.int .i64 c.la,.int .i64 c.po] 24)=W0 at *
 obtain ⟨_,c0,c1,c2,c3,c4,c5,c6,c7,c8,c9,c10,c11,c12,c13⟩:=id C
 go_wp2_with fail
 refine (cN _).mono ?_
 rintro e w1 ⟨rfl,hb⟩
 replace C:=C.kept hb
 replace B:=bthen B hb
 clear hb c0 c1 c2 c3 c4 c5 c6 c7 c8 c9 c10 c11 c12 c13
 obtain ⟨_,c0,c1,c2,c3,c4,c5,c6,c7,c8,c9,c10,c11,c12,c13⟩:=id C
 go_upto_region 11 with fail
 have K:=Box.new w1 #[.string ⟨#[]⟩,.int .i64 c.k,.int .i64 c.d,.int .i64 c.m,.int .i64 c.s,.int .i64 c.sh,.int .i64 c.p0,.int .i64 c.p1,.int .i64 c.p2,.int .i64 c.cy,.int .i64 c.ex,.int .i64 0,.int .i64 0,.int .i64 0] 24
 replace C:=C.alloc (.cells #[.string ⟨#[]⟩,.int .i64 c.k,.int .i64 c.d,.int .i64 c.m,.int .i64 c.s,.int .i64 c.sh,.int .i64 c.p0,.int .i64 c.p1,.int .i64 c.p2,.int .i64 c.cy,.int .i64 c.ex,.int .i64 0,.int .i64 0,.int .i64 0] 24)
 replace B:=balloc B (.cells #[.string ⟨#[]⟩,.int .i64 c.k,.int .i64 c.d,.int .i64 c.m,.int .i64 c.s,.int .i64 c.sh,.int .i64 c.p0,.int .i64 c.p1,.int .i64 c.p2,.int .i64 c.cy,.int .i64 c.ex,.int .i64 0,.int .i64 0,.int .i64 0] 24)
 generalize w1.alloc (.cells #[.string ⟨#[]⟩,.int .i64 c.k,.int .i64 c.d,.int .i64 c.m,.int .i64 c.s,.int .i64 c.sh,.int .i64 c.p0,.int .i64 c.p1,.int .i64 c.p2,.int .i64 c.cy,.int .i64 c.ex,.int .i64 0,.int .i64 0,.int .i64 0] 24)=W2 at *
 clear c0 c1 c2 c3 c4 c5 c6 c7 c8 c9 c10 c11 c12 c13
 obtain ⟨_,c0,c1,c2,c3,c4,c5,c6,c7,c8,c9,c10,c11,c12,c13⟩:=id C
 have k100:=cell_regrown c0
 have k101:=cell_regrown c1
 have k102:=cell_regrown c2
 have k103:=cell_regrown c3
 have k104:=cell_regrown c4
 have k105:=cell_regrown c5
 have k106:=cell_regrown c6
 have k107:=cell_regrown c7
 have k108:=cell_regrown c8
 have k109:=cell_regrown c9
 have k110:=cell_regrown c10
 have k111:=cell_regrown c11
 have k112:=cell_regrown c12
 have k113:=cell_regrown c13
 have qS:∀ d os,Calls Tryz.prog 60 #[.agg #[.string c.nm,.int .i64 c.k,.int .i64 c.d,.int .i64 c.m,.int .i64 c.s,.int .i64 c.sh,.int .i64 c.p0,.int .i64 c.p1,.int .i64 c.p2,.int .i64 c.cy,.int .i64 c.ex,.int .i64 c.fi,.int .i64 c.la,.int .i64 c.po]] (grow (redrawn W2 d) os) fun e w''=>e= .returned (.bool sb)∧∃ p:Regrown,w''=grow (redrawn W2 p.d) p.os:=fun d os=>Calls.regrown_of (cS _)
 have qM:∀ d os,Calls Tryz.prog 61 #[.agg #[.string c.nm,.int .i64 c.k,.int .i64 c.d,.int .i64 c.m,.int .i64 c.s,.int .i64 c.sh,.int .i64 c.p0,.int .i64 c.p1,.int .i64 c.p2,.int .i64 c.cy,.int .i64 c.ex,.int .i64 c.fi,.int .i64 c.la,.int .i64 c.po]] (grow (redrawn W2 d) os) fun e w''=>e= .returned (.int .i64 mv)∧∃ p:Regrown,w''=grow (redrawn W2 p.d) p.os:=fun d os=>Calls.regrown_of (cM _)
 cases d0:(c.d==7)
 case false =>
  rw [d0] at hr
  simp at hr
  subst hr
  go_wp2
  go_quiet (fail)
  go_wp2
  go_ret
  exact ⟨rfl,bdrewN B _⟩
 rw [d0] at hr
 cases m0:(c.m==12)
 case false =>
  rw [m0] at hr
  simp at hr
  subst hr
  go_wp2
  go_quiet (fail)
  go_wp2
  go_ret
  exact ⟨rfl,bdrewN B _⟩
 rw [m0] at hr
 cases s0:(c.s==0)
 case false =>
  rw [s0] at hr
  simp at hr
  subst hr
  go_wp2
  go_quiet (fail)
  go_wp2
  go_ret
  exact ⟨rfl,bdrewN B _⟩
 rw [s0] at hr
 have O:(sb=false∧er=1)∨(sb=true∧decide (1≤c.ex)=false∧er=1)∨(sb=true∧decide (1≤c.ex)=true∧decide (c.ex≤mv)=false∧er=1)∨(sb=true∧decide (1≤c.ex)=true∧decide (c.ex≤mv)=true∧er=0):=by
  cases sb with
  | false=>exact .inl ⟨rfl,by rw [hr];rfl⟩
  | true =>
    by_cases h1:1≤c.ex
    ·by_cases h2:c.ex≤mv
     ·exact .inr (.inr (.inr ⟨rfl,decide_eq_true h1,decide_eq_true h2,by rw [hr];simp [h1,h2]⟩))
     ·exact .inr (.inr (.inl ⟨rfl,decide_eq_true h1,decide_eq_false h2,by rw [hr];simp [h2]⟩))
    ·exact .inr (.inl ⟨rfl,decide_eq_false h1,by rw [hr];simp [h1]⟩)
 clear hr
 rcases O with ⟨rfl,rfl⟩|⟨rfl,x0,rfl⟩|⟨rfl,x0,x1,rfl⟩|⟨rfl,x0,x1,rfl⟩
 all_goals
  go_wp2
  refine wp_region_quiet_below (by kernel_rfl) (by kernel_rfl) ?_
  repeat (quiet_step (first|exact qS _ _|exact qM _ _))
  refine wpQuiet_nil ?_
  intro _ hw'
  obtain ⟨⟨dq,osq⟩,hw''⟩:=hw'
  subst hw''
  go_wp2
  go_ret
  exact ⟨rfl,bthen B (below_regrown W2 dq osq)⟩

end Go.Proofs.YtoilomigceijaaaGreatDoor.Fr

