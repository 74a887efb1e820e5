/- What check, count, Day, Next and Back of package find come to. -/
import Derived.Test.YtoilomigceijaaaGreatDoorQrJI
import Derived.Test.YtoilomigceijaaaGreatDoorQrIsearch
import Derived.Test.YtoilomigceijaaaGreatDoorQrJL
import Derived.Test.YtoilomigceijaaaGreatDoorQrJP
set_option linter.unusedSimpArgs false
set_option linter.unusedVariables false
namespace Go.Proofs.YtoilomigceijaaaGreatDoor.Dp
open Go.RowKit Bn Bx Cp Am Fp Ap Cm Em Ep Rk Hp Ip Jp

set_option maxHeartbeats 2000000

theorem cellA {w:World}{a:Addr}{v:Value}(o:Obj)(h:w.cell? a=some v):(w.alloc o).cell? a=some v :=
 (((Below.refl _ w).alloc (Nat.le_refl _) o).cell (p:=a) (World.block_lt_of_cell? _ _ h)).trans h
theorem cellK {w w1:World}{a:Addr}{v:Value}(hb:Below w.heap.size w w1)(h:w.cell? a=some v):w1.cell? a=some v :=
 (hb.cell (p:=a) (World.block_lt_of_cell? _ _ h)).trans h
structure Cel (W:World) (b:Nat) (v:Value):Prop where
 lt:b<W.heap.size
 c:W.cell? ⟨b,0,none⟩=some v
 fz:W.frozen? ⟨b,0,none⟩=false
theorem Cel.kept {W w1:World}{b:Nat}{v:Value}(p:Cel W b v)(hb:Below W.heap.size W w1):Cel w1 b v :=
 ⟨Nat.lt_of_lt_of_le p.lt hb.size,(hb.cell (p:=⟨b,0,none⟩) p.lt).trans p.c,(hb.frozen (p:=⟨b,0,none⟩) p.lt).trans p.fz⟩
theorem Cel.alloc {W:World}{b:Nat}{v:Value}(p:Cel W b v)(o:Obj):Cel (W.alloc o) b v:=p.kept ((Below.refl _ _).alloc (Nat.le_refl _) o)
theorem Cel.new (W:World)(v:Value)(t:TypeId):Cel (W.alloc (.cells #[v] t)) W.heap.size v:=⟨by simp,by simp [go_sem],by simp [go_sem]⟩
set_option maxRecDepth 100000 in
theorem fcheck_any (c:CalZ)(L er:Int)(w:World)(R:(CalOk c∧LevOk L∧er=0)∨(CalOk c∧¬ LevOk L∧er=1)∨(¬ CalOk c∧er=1))(hm:c.nm.size≤maxLen)(T:FTab w) :
  Calls Tryz.prog 52 #[.agg #[.string c.nm,.int .i64 c.k,.int .i64 c.d,.int .i64 c.m,.int .i64 c.s,.int .i64 c.sh,.int .i64 c.p0,.int .i64 c.p1,.int .i64 c.p2,.int .i64 c.cy,.int .i64 c.ex,.int .i64 c.fi,.int .i64 c.la,.int .i64 c.po],.int .i64 L] w fun e w'=>e= .returned (.int .i64 er)∧Below w.heap.size w w':=by
 have C:=CalIn.new w c 24
 have B:=balloc (Below.refl _ w) (.cells #[.string c.nm,.int .i64 c.k,.int .i64 c.d,.int .i64 c.m,.int .i64 c.s,.int .i64 c.sh,.int .i64 c.p0,.int .i64 c.p1,.int .i64 c.p2,.int .i64 c.cy,.int .i64 c.ex,.int .i64 c.fi,.int .i64 c.la,.int .i64 c.po] 24)
 replace T:=T.alloc (.cells #[.string c.nm,.int .i64 c.k,.int .i64 c.d,.int .i64 c.m,.int .i64 c.s,.int .i64 c.sh,.int .i64 c.p0,.int .i64 c.p1,.int .i64 c.p2,.int .i64 c.cy,.int .i64 c.ex,.int .i64 c.fi,.int .i64 c.la,.int .i64 c.po] 24)
 rcases R with ⟨ok,l,rfl⟩|⟨ok,l,rfl⟩|⟨no,rfl⟩
 ·have ck:=fun w T=>Check_any c 0 w (.inl ⟨ok,rfl⟩) hm T
  obtain ⟨l0,l1⟩:=l
  have d0:decide (L<1)=false:=decide_eq_false (by omega)
  have d1:decide (5<L)=false:=decide_eq_false (by omega)
  clear ok l0 l1
  go_enter Tryz.func52,Tryz.ntmps52
  go_upto_region 1 with fail
  generalize w.alloc (.cells #[.string c.nm,.int .i64 c.k,.int .i64 c.d,.int .i64 c.m,.int .i64 c.s,.int .i64 c.sh,.int .i64 c.p0,.int .i64 c.p1,.int .i64 c.p2,.int .i64 c.cy,.int .i64 c.ex,.int .i64 c.fi,.int .i64 c.la,.int .i64 c.po] 24)=W0 at *
  obtain ⟨_,c0,c1,c2,c3,c4,c5,c6,c7,c8,c9,c10,c11,c12,c13⟩:=id C
  go_wp2_with fail
  refine (ck _ T).mono ?_
  rintro e w1 ⟨rfl,hb⟩
  replace C:=C.kept hb
  replace B:=bthen B hb
  replace T:=T.kept hb
  clear hb c0 c1 c2 c3 c4 c5 c6 c7 c8 c9 c10 c11 c12 c13
  obtain ⟨_,c0,c1,c2,c3,c4,c5,c6,c7,c8,c9,c10,c11,c12,c13⟩:=id C
  go_wp2
  go_ret
  exact ⟨rfl,B⟩
 ·have ck:=fun w T=>Check_any c 0 w (.inl ⟨ok,rfl⟩) hm T
  have O:decide (L<1)=true∨(decide (L<1)=false∧decide (5<L)=true):=by
   unfold LevOk at l
   by_cases h:L<1
   ·exact .inl (decide_eq_true h)
   ·exact .inr ⟨decide_eq_false h,decide_eq_true (by omega)⟩
  clear ok l
  rcases O with d0|⟨d0,d1⟩
  all_goals
   go_enter Tryz.func52,Tryz.ntmps52
   go_upto_region 1 with fail
   generalize w.alloc (.cells #[.string c.nm,.int .i64 c.k,.int .i64 c.d,.int .i64 c.m,.int .i64 c.s,.int .i64 c.sh,.int .i64 c.p0,.int .i64 c.p1,.int .i64 c.p2,.int .i64 c.cy,.int .i64 c.ex,.int .i64 c.fi,.int .i64 c.la,.int .i64 c.po] 24)=W0 at *
   obtain ⟨_,c0,c1,c2,c3,c4,c5,c6,c7,c8,c9,c10,c11,c12,c13⟩:=id C
   go_wp2_with fail
   refine (ck _ T).mono ?_
   rintro e w2 ⟨rfl,hb⟩
   replace C:=C.kept hb
   replace B:=bthen B hb
   replace T:=T.kept hb
   clear hb c0 c1 c2 c3 c4 c5 c6 c7 c8 c9 c10 c11 c12 c13
   obtain ⟨_,c0,c1,c2,c3,c4,c5,c6,c7,c8,c9,c10,c11,c12,c13⟩:=id C
   go_wp2
   go_ret
   exact ⟨rfl,B⟩
 ·have ck:=fun w T=>Check_any c 1 w (.inr ⟨no,rfl⟩) hm T
  clear no
  go_enter Tryz.func52,Tryz.ntmps52
  go_upto_region 1 with fail
  generalize w.alloc (.cells #[.string c.nm,.int .i64 c.k,.int .i64 c.d,.int .i64 c.m,.int .i64 c.s,.int .i64 c.sh,.int .i64 c.p0,.int .i64 c.p1,.int .i64 c.p2,.int .i64 c.cy,.int .i64 c.ex,.int .i64 c.fi,.int .i64 c.la,.int .i64 c.po] 24)=W0 at *
  obtain ⟨_,c0,c1,c2,c3,c4,c5,c6,c7,c8,c9,c10,c11,c12,c13⟩:=id C
  go_wp2_with fail
  refine (ck _ T).mono ?_
  rintro e w3 ⟨rfl,hb⟩
  replace C:=C.kept hb
  replace B:=bthen B hb
  replace T:=T.kept hb
  clear hb c0 c1 c2 c3 c4 c5 c6 c7 c8 c9 c10 c11 c12 c13
  obtain ⟨_,c0,c1,c2,c3,c4,c5,c6,c7,c8,c9,c10,c11,c12,c13⟩:=id C
  go_wp2
  go_ret
  exact ⟨rfl,B⟩

set_option maxRecDepth 100000 in
theorem dcount_any (c:CalZ)(L y v:Int)(w:World)(ok:CalOk c)(l:LevOk L)(s:Served c y)(hv:v=ucount c y L)(hm:c.nm.size≤maxLen)(T:FTab w) :
  Calls Tryz.prog 103 #[.agg #[.string c.nm,.int .i64 c.k,.int .i64 c.d,.int .i64 c.m,.int .i64 c.s,.int .i64 c.sh,.int .i64 c.p0,.int .i64 c.p1,.int .i64 c.p2,.int .i64 c.cy,.int .i64 c.ex,.int .i64 c.fi,.int .i64 c.la,.int .i64 c.po],.int .i64 L,.int .i64 y] w fun e w'=>e= .returned (.int .i64 v)∧Below w.heap.size w w':=by
 have C:=CalIn.new w c 24
 have B:=balloc (Below.refl _ w) (.cells #[.string c.nm,.int .i64 c.k,.int .i64 c.d,.int .i64 c.m,.int .i64 c.s,.int .i64 c.sh,.int .i64 c.p0,.int .i64 c.p1,.int .i64 c.p2,.int .i64 c.cy,.int .i64 c.ex,.int .i64 c.fi,.int .i64 c.la,.int .i64 c.po] 24)
 replace T:=T.alloc (.cells #[.string c.nm,.int .i64 c.k,.int .i64 c.d,.int .i64 c.m,.int .i64 c.s,.int .i64 c.sh,.int .i64 c.p0,.int .i64 c.p1,.int .i64 c.p2,.int .i64 c.cy,.int .i64 c.ex,.int .i64 c.fi,.int .i64 c.la,.int .i64 c.po] 24)
 have cc:=fun w T=>Count_any c L y v 0 w (.inl ⟨ok,l,s,hv,rfl⟩) hm T
 clear ok l s hv
 go_enter Tryz.func103,Tryz.ntmps103
 go_upto_region 1 with fail
 generalize w.alloc (.cells #[.string c.nm,.int .i64 c.k,.int .i64 c.d,.int .i64 c.m,.int .i64 c.s,.int .i64 c.sh,.int .i64 c.p0,.int .i64 c.p1,.int .i64 c.p2,.int .i64 c.cy,.int .i64 c.ex,.int .i64 c.fi,.int .i64 c.la,.int .i64 c.po] 24)=W0 at *
 obtain ⟨_,c0,c1,c2,c3,c4,c5,c6,c7,c8,c9,c10,c11,c12,c13⟩:=id C
 go_wp2_with fail
 refine (cc _ T).mono ?_
 rintro e w1 ⟨rfl,hb⟩
 replace C:=C.kept hb
 replace B:=bthen B hb
 replace T:=T.kept hb
 clear hb c0 c1 c2 c3 c4 c5 c6 c7 c8 c9 c10 c11 c12 c13
 obtain ⟨_,c0,c1,c2,c3,c4,c5,c6,c7,c8,c9,c10,c11,c12,c13⟩:=id C
 go_wp2
 go_ret
 exact ⟨rfl,B⟩

set_option maxRecDepth 100000 in
theorem day1_any (c:CalZ)(y L d:Int)(i b1 b2 b3 b4:Nat)(r:Bool)(w:World)(ok:CalOk c)(s:Served c y)(hL:LevOk L)(hi:(i:Int)<ucount c y L)(hr:r=decide (d≤uend c y L ((i:Int)+1)))(C:CalIn w b1 c)
  (h2:w.cell? ⟨b2,0,none⟩=some (.int .i64 L)) (h3:w.cell? ⟨b3,0,none⟩=some (.int .i64 y)) (h4:w.cell? ⟨b4,0,none⟩=some (.int .i64 d)) (hm:c.nm.size≤maxLen) (T:FTab w) :
  Calls Tryz.prog 104 #[.int .i64 (i:Int),.pointer (some ⟨b1,0,none⟩),.pointer (some ⟨b2,0,none⟩),.pointer (some ⟨b3,0,none⟩),.pointer (some ⟨b4,0,none⟩)] w fun e w'=>e= .returned (.bool r)∧Below w.heap.size w w':=by
 have st:=served_told ok s
 have ub:=ucount_bd (L:=L) (y:=y) ok.1 (by omega) (by omega)
 obtain ⟨a,ha⟩:∃ a,a=uend c y L (i:Int)+1:=⟨_,rfl⟩
 obtain ⟨b,hb'⟩:∃ b,b=uend c y L ((i:Int)+1):=⟨_,rfl⟩
 have cs:=fun w T=>Span_any c L y ((i:Int)+1) a b 0 w (.inl ⟨⟨ok,hL,s,by omega,by omega⟩,by rw [ha,show (i:Int)+1 - 1=i by omega],hb',rfl⟩) hm T
 rw [← hb'] at hr
 have i0:(0:Int)≤(i:Int):=by omega
 have i1:(i:Int)≤60:=by omega
 clear ok hi hb' ha ub hL st s
 obtain ⟨_,c0,c1,c2,c3,c4,c5,c6,c7,c8,c9,c10,c11,c12,c13⟩:=id C
 go_enter Tryz.func104,Tryz.ntmps104
 go_wp2_with fail
 refine (cs _ T).mono ?_
 rintro e w1 ⟨rfl,hb⟩
 have K:=Pr.Two.new w1 (.int .i64 a) (.int .i64 b) 26
 have k4:=cellA (.cells #[.int .i64 a,.int .i64 b] 26) (cellK hb h4)
 clear h2 h3 h4 c0 c1 c2 c3 c4 c5 c6 c7 c8 c9 c10 c11 c12 c13 cs
 obtain ⟨_,r0,r1,g0,g1⟩:=id K
 go_wp2
 go_ret
 exact ⟨by rw [hr];simp,balloc hb _⟩

set_option maxRecDepth 100000 in
theorem Day_any (c:CalZ)(d L p q r er:Int)(w:World)(R:DayA c d L p q r er)(hm:c.nm.size≤maxLen)(T:FTab w) :
  Calls Tryz.prog 53 #[.agg #[.string c.nm,.int .i64 c.k,.int .i64 c.d,.int .i64 c.m,.int .i64 c.s,.int .i64 c.sh,.int .i64 c.p0,.int .i64 c.p1,.int .i64 c.p2,.int .i64 c.cy,.int .i64 c.ex,.int .i64 c.fi,.int .i64 c.la,.int .i64 c.po],.int .i64 d,.int .i64 L] w fun e w'=>e= .returned (.tuple #[.agg #[.int .i64 p,.int .i64 q,.int .i64 r],.int .i64 er])∧Below w.heap.size w w':=by
 have C:=CalIn.new w c 24
 have B:=balloc (Below.refl _ w) (.cells #[.string c.nm,.int .i64 c.k,.int .i64 c.d,.int .i64 c.m,.int .i64 c.s,.int .i64 c.sh,.int .i64 c.p0,.int .i64 c.p1,.int .i64 c.p2,.int .i64 c.cy,.int .i64 c.ex,.int .i64 c.fi,.int .i64 c.la,.int .i64 c.po] 24)
 replace T:=T.alloc (.cells #[.string c.nm,.int .i64 c.k,.int .i64 c.d,.int .i64 c.m,.int .i64 c.s,.int .i64 c.sh,.int .i64 c.p0,.int .i64 c.p1,.int .i64 c.p2,.int .i64 c.cy,.int .i64 c.ex,.int .i64 c.fi,.int .i64 c.la,.int .i64 c.po] 24)
 have D:=Cel.new (w.alloc (.cells #[.string c.nm,.int .i64 c.k,.int .i64 c.d,.int .i64 c.m,.int .i64 c.s,.int .i64 c.sh,.int .i64 c.p0,.int .i64 c.p1,.int .i64 c.p2,.int .i64 c.cy,.int .i64 c.ex,.int .i64 c.fi,.int .i64 c.la,.int .i64 c.po] 24)) (.int .i64 d) 3
 have E:=Cel.new ((w.alloc (.cells #[.string c.nm,.int .i64 c.k,.int .i64 c.d,.int .i64 c.m,.int .i64 c.s,.int .i64 c.sh,.int .i64 c.p0,.int .i64 c.p1,.int .i64 c.p2,.int .i64 c.cy,.int .i64 c.ex,.int .i64 c.fi,.int .i64 c.la,.int .i64 c.po] 24)).alloc (.cells #[.int .i64 d] 3)) (.int .i64 L) 3
 have U:=Bx.Tri.new (((w.alloc (.cells #[.string c.nm,.int .i64 c.k,.int .i64 c.d,.int .i64 c.m,.int .i64 c.s,.int .i64 c.sh,.int .i64 c.p0,.int .i64 c.p1,.int .i64 c.p2,.int .i64 c.cy,.int .i64 c.ex,.int .i64 c.fi,.int .i64 c.la,.int .i64 c.po] 24)).alloc (.cells #[.int .i64 d] 3)).alloc (.cells #[.int .i64 L] 3)) (.int .i64 0) (.int .i64 0) (.int .i64 0) 46
 have z1:(w.alloc (.cells #[.string c.nm,.int .i64 c.k,.int .i64 c.d,.int .i64 c.m,.int .i64 c.s,.int .i64 c.sh,.int .i64 c.p0,.int .i64 c.p1,.int .i64 c.p2,.int .i64 c.cy,.int .i64 c.ex,.int .i64 c.fi,.int .i64 c.la,.int .i64 c.po] 24)).heap.size=w.heap.size+1:=by simp
 have z2:((w.alloc (.cells #[.string c.nm,.int .i64 c.k,.int .i64 c.d,.int .i64 c.m,.int .i64 c.s,.int .i64 c.sh,.int .i64 c.p0,.int .i64 c.p1,.int .i64 c.p2,.int .i64 c.cy,.int .i64 c.ex,.int .i64 c.fi,.int .i64 c.la,.int .i64 c.po] 24)).alloc (.cells #[.int .i64 d] 3)).heap.size=w.heap.size+2:=by simp
 have z3:(((w.alloc (.cells #[.string c.nm,.int .i64 c.k,.int .i64 c.d,.int .i64 c.m,.int .i64 c.s,.int .i64 c.sh,.int .i64 c.p0,.int .i64 c.p1,.int .i64 c.p2,.int .i64 c.cy,.int .i64 c.ex,.int .i64 c.fi,.int .i64 c.la,.int .i64 c.po] 24)).alloc (.cells #[.int .i64 d] 3)).alloc (.cells #[.int .i64 L] 3)).heap.size=w.heap.size+3:=by simp
 rw [z1] at D
 rw [z2] at E
 rw [z3] at U
 replace D:=(D.alloc (.cells #[.int .i64 L] 3)).alloc (.cells #[.int .i64 0,.int .i64 0,.int .i64 0] 46)
 replace E:=E.alloc (.cells #[.int .i64 0,.int .i64 0,.int .i64 0] 46)
 replace C:=((C.alloc (.cells #[.int .i64 d] 3)).alloc (.cells #[.int .i64 L] 3)).alloc (.cells #[.int .i64 0,.int .i64 0,.int .i64 0] 46)
 replace B:=balloc (balloc (balloc B (.cells #[.int .i64 d] 3)) (.cells #[.int .i64 L] 3)) (.cells #[.int .i64 0,.int .i64 0,.int .i64 0] 46)
 replace T:=((T.alloc (.cells #[.int .i64 d] 3)).alloc (.cells #[.int .i64 L] 3)).alloc (.cells #[.int .i64 0,.int .i64 0,.int .i64 0] 46)
 clear z1 z2 z3
 rcases R with ⟨ok,l,S,hu,rfl,rfl⟩|⟨ok,l,S,h,rfl,rfl,rfl⟩|⟨ok,l,rfl,rfl,rfl,rfl⟩|⟨no,rfl,rfl,rfl,rfl⟩
 ·obtain ⟨_,s,_,_⟩:=served_to S
  have st:=served_told ok s
  have ub:=ucount_bd (L:=p) (y:=q) ok.1 (by omega) (by omega)
  obtain ⟨n,hn⟩:∃ n:Nat,(n:Int)=ucount c q p:=⟨(ucount c q p).toNat,by omega⟩
  obtain ⟨r0,hr0⟩:∃ r0:Nat,(r0:Int)=r - 1:=⟨(r - 1).toNat,by have:=hu.1;omega⟩
  have j0:=hu.1
  have j1:=hu.2.1
  have ck:=fun w T=>fcheck_any c p 0 w (.inl ⟨ok,l,rfl⟩) hm T
  have cs:=fun w T=>Served_any c d q 0 w S hm T
  have cc:=fun w T=>dcount_any c p q (n:Int) w ok l s hn hm T
  have CS:Hid (∀ (W:World) (b9:Nat),CalIn W w.heap.size c→Cel W (w.heap.size+1) (.int .i64 d)→Cel W (w.heap.size+2) (.int .i64 p)→Cel W b9 (.int .i64 q)→FTab W→
    Calls Tryz.prog 102 #[.int .i64 (n:Int),.func (.func 104) #[] #[.pointer (some ⟨w.heap.size,0,none⟩),.pointer (some ⟨w.heap.size+2,0,none⟩),.pointer (some ⟨b9,0,none⟩),.pointer (some ⟨w.heap.size+1,0,none⟩)]] W fun e w'=>e= .returned (.int .i64 (r0:Int))∧Below W.heap.size W w') :=
   Lib.hid (fun W b9 C D E Y T=>by
    refine search_any n r0 _ _ W (by omega) (by omega) (fun _ _=>by rfl) (fun W5 i hb hi=>?_)
    have e:=inu_lt (j:=(i:Int)+1) ok.1 (by omega) (by omega) l hu (by omega) (by omega)
    rw [show decide (r0≤i)=decide (d≤uend c q p ((i:Int)+1)) from decide_eq_decide.2 (by omega)]
    exact day1_any c q p d i w.heap.size (w.heap.size+2) b9 (w.heap.size+1) _ W5 ok s l (by omega) rfl (C.kept hb) (E.kept hb).c (Y.kept hb).c (D.kept hb).c hm (T.kept hb))
  have r1:(0:Int)≤r0:=by omega
  have r2:(r0:Int)≤60:=by omega
  have ej:(r0:Int)+1=r:=by omega
  clear ok l S hu s st ub hn hr0 j0 j1
  go_enter Tryz.func53,Tryz.ntmps53
  go_upto_region 1 with fail
  generalize ((((w.alloc (.cells #[.string c.nm,.int .i64 c.k,.int .i64 c.d,.int .i64 c.m,.int .i64 c.s,.int .i64 c.sh,.int .i64 c.p0,.int .i64 c.p1,.int .i64 c.p2,.int .i64 c.cy,.int .i64 c.ex,.int .i64 c.fi,.int .i64 c.la,.int .i64 c.po] 24)).alloc (.cells #[.int .i64 d] 3)).alloc (.cells #[.int .i64 p] 3)).alloc (.cells #[.int .i64 0,.int .i64 0,.int .i64 0] 46))=W0 at *
  obtain ⟨_,c0,c1,c2,c3,c4,c5,c6,c7,c8,c9,c10,c11,c12,c13⟩:=id C
  obtain ⟨_,d0,fd0⟩:=id D
  obtain ⟨_,e0,fe0⟩:=id E
  obtain ⟨_,u0,u1,u2,fu0,fu1,fu2⟩:=id U
  go_wp2_with fail
  refine (ck _ T).mono ?_
  rintro e w1 ⟨rfl,hb⟩
  replace C:=C.kept hb
  replace B:=bthen B hb
  replace T:=T.kept hb
  replace D:=D.kept hb
  replace E:=E.kept hb
  replace U:=U.kept hb
  clear hb c0 c1 c2 c3 c4 c5 c6 c7 c8 c9 c10 c11 c12 c13 d0 fd0 e0 fe0 u0 u1 u2 fu0 fu1 fu2
  obtain ⟨_,c0,c1,c2,c3,c4,c5,c6,c7,c8,c9,c10,c11,c12,c13⟩:=id C
  obtain ⟨_,d0,fd0⟩:=id D
  obtain ⟨_,e0,fe0⟩:=id E
  obtain ⟨_,u0,u1,u2,fu0,fu1,fu2⟩:=id U
  go_wp2_with fail
  refine (cs _ T).mono ?_
  rintro e w2 ⟨rfl,hb⟩
  replace C:=C.kept hb
  replace B:=bthen B hb
  replace T:=T.kept hb
  replace D:=D.kept hb
  replace E:=E.kept hb
  replace U:=U.kept hb
  clear hb c0 c1 c2 c3 c4 c5 c6 c7 c8 c9 c10 c11 c12 c13 d0 fd0 e0 fe0 u0 u1 u2 fu0 fu1 fu2
  obtain ⟨_,c0,c1,c2,c3,c4,c5,c6,c7,c8,c9,c10,c11,c12,c13⟩:=id C
  obtain ⟨_,d0,fd0⟩:=id D
  obtain ⟨_,e0,fe0⟩:=id E
  obtain ⟨_,u0,u1,u2,fu0,fu1,fu2⟩:=id U
  have Y:=Cel.new w2 (.int .i64 q) 3
  replace C:=C.alloc (.cells #[.int .i64 q] 3)
  replace T:=T.alloc (.cells #[.int .i64 q] 3)
  replace D:=D.alloc (.cells #[.int .i64 q] 3)
  replace E:=E.alloc (.cells #[.int .i64 q] 3)
  replace U:=U.alloc (.cells #[.int .i64 q] 3)
  replace B:=balloc B (.cells #[.int .i64 q] 3)
  clear c0 c1 c2 c3 c4 c5 c6 c7 c8 c9 c10 c11 c12 c13 d0 fd0 e0 fe0 u0 u1 u2 fu0 fu1 fu2
  obtain ⟨_,c0,c1,c2,c3,c4,c5,c6,c7,c8,c9,c10,c11,c12,c13⟩:=id C
  obtain ⟨_,d0,fd0⟩:=id D
  obtain ⟨_,e0,fe0⟩:=id E
  obtain ⟨_,u0,u1,u2,fu0,fu1,fu2⟩:=id U
  obtain ⟨_,y0,fy0⟩:=id Y
  go_wp2_with fail
  refine (cc _ T).mono ?_
  rintro e w3 ⟨rfl,hb⟩
  replace C:=C.kept hb
  replace B:=bthen B hb
  replace T:=T.kept hb
  replace D:=D.kept hb
  replace E:=E.kept hb
  replace U:=U.kept hb
  replace Y:=Y.kept hb
  clear hb c0 c1 c2 c3 c4 c5 c6 c7 c8 c9 c10 c11 c12 c13 d0 fd0 e0 fe0 u0 u1 u2 fu0 fu1 fu2 y0 fy0
  obtain ⟨_,c0,c1,c2,c3,c4,c5,c6,c7,c8,c9,c10,c11,c12,c13⟩:=id C
  obtain ⟨_,d0,fd0⟩:=id D
  obtain ⟨_,e0,fe0⟩:=id E
  obtain ⟨_,u0,u1,u2,fu0,fu1,fu2⟩:=id U
  obtain ⟨_,y0,fy0⟩:=id Y
  have cz:=CS.out w3 _ C D E Y T
  clear ck cs cc CS
  go_wp2_with fail
  refine (cz).mono ?_
  rintro e w4 ⟨rfl,hb⟩
  replace C:=C.kept hb
  replace B:=bthen B hb
  replace T:=T.kept hb
  replace D:=D.kept hb
  replace E:=E.kept hb
  replace U:=U.kept hb
  replace Y:=Y.kept hb
  clear hb c0 c1 c2 c3 c4 c5 c6 c7 c8 c9 c10 c11 c12 c13 d0 fd0 e0 fe0 u0 u1 u2 fu0 fu1 fu2 y0 fy0
  obtain ⟨_,c0,c1,c2,c3,c4,c5,c6,c7,c8,c9,c10,c11,c12,c13⟩:=id C
  obtain ⟨_,d0,fd0⟩:=id D
  obtain ⟨_,e0,fe0⟩:=id E
  obtain ⟨_,u0,u1,u2,fu0,fu1,fu2⟩:=id U
  obtain ⟨_,y0,fy0⟩:=id Y
  clear cz
  go_wp2
  refine bodyPost_ret (v:=.tuple #[.agg #[.int .i64 p,.int .i64 q,.int .i64 r],.int .i64 0]) (by simp [results,Tryz.results53,go_sem, *]) rfl ⟨rfl,?_⟩
  exact bset (bset (bset B (by omega) _ _) (by omega) _ _) (by omega) _ _
 ·have O:=served_er S h
  have O2:er=4∨er=11:=by have:=O.2.1;have:=O.2.2 ok;omega
  have ck:=fun w T=>fcheck_any c L 0 w (.inl ⟨ok,l,rfl⟩) hm T
  have cs:=fun w T=>Served_any c d 0 er w S hm T
  clear ok l S h O
  rcases O2 with rfl|rfl
  all_goals
   go_enter Tryz.func53,Tryz.ntmps53
   go_upto_region 1 with fail
   generalize ((((w.alloc (.cells #[.string c.nm,.int .i64 c.k,.int .i64 c.d,.int .i64 c.m,.int .i64 c.s,.int .i64 c.sh,.int .i64 c.p0,.int .i64 c.p1,.int .i64 c.p2,.int .i64 c.cy,.int .i64 c.ex,.int .i64 c.fi,.int .i64 c.la,.int .i64 c.po] 24)).alloc (.cells #[.int .i64 d] 3)).alloc (.cells #[.int .i64 L] 3)).alloc (.cells #[.int .i64 0,.int .i64 0,.int .i64 0] 46))=W0 at *
   obtain ⟨_,c0,c1,c2,c3,c4,c5,c6,c7,c8,c9,c10,c11,c12,c13⟩:=id C
   obtain ⟨_,d0,fd0⟩:=id D
   obtain ⟨_,e0,fe0⟩:=id E
   obtain ⟨_,u0,u1,u2,fu0,fu1,fu2⟩:=id U
   go_wp2_with fail
   refine (ck _ T).mono ?_
   rintro e w5 ⟨rfl,hb⟩
   replace C:=C.kept hb
   replace B:=bthen B hb
   replace T:=T.kept hb
   replace D:=D.kept hb
   replace E:=E.kept hb
   replace U:=U.kept hb
   clear hb c0 c1 c2 c3 c4 c5 c6 c7 c8 c9 c10 c11 c12 c13 d0 fd0 e0 fe0 u0 u1 u2 fu0 fu1 fu2
   obtain ⟨_,c0,c1,c2,c3,c4,c5,c6,c7,c8,c9,c10,c11,c12,c13⟩:=id C
   obtain ⟨_,d0,fd0⟩:=id D
   obtain ⟨_,e0,fe0⟩:=id E
   obtain ⟨_,u0,u1,u2,fu0,fu1,fu2⟩:=id U
   go_wp2_with fail
   refine (cs _ T).mono ?_
   rintro e w6 ⟨rfl,hb⟩
   replace C:=C.kept hb
   replace B:=bthen B hb
   replace T:=T.kept hb
   replace D:=D.kept hb
   replace E:=E.kept hb
   replace U:=U.kept hb
   clear hb c0 c1 c2 c3 c4 c5 c6 c7 c8 c9 c10 c11 c12 c13 d0 fd0 e0 fe0 u0 u1 u2 fu0 fu1 fu2
   obtain ⟨_,c0,c1,c2,c3,c4,c5,c6,c7,c8,c9,c10,c11,c12,c13⟩:=id C
   obtain ⟨_,d0,fd0⟩:=id D
   obtain ⟨_,e0,fe0⟩:=id E
   obtain ⟨_,u0,u1,u2,fu0,fu1,fu2⟩:=id U
   obtain ⟨_,x0,x1,x2,fx0,fx1,fx2⟩:=id U
   have B6:=B
   have Y:=Cel.new w6 (.int .i64 0) 3
   replace C:=C.alloc (.cells #[.int .i64 0] 3)
   replace T:=T.alloc (.cells #[.int .i64 0] 3)
   replace D:=D.alloc (.cells #[.int .i64 0] 3)
   replace E:=E.alloc (.cells #[.int .i64 0] 3)
   replace U:=U.alloc (.cells #[.int .i64 0] 3)
   replace B:=balloc B (.cells #[.int .i64 0] 3)
   clear c0 c1 c2 c3 c4 c5 c6 c7 c8 c9 c10 c11 c12 c13 d0 fd0 e0 fe0 u0 u1 u2 fu0 fu1 fu2
   obtain ⟨_,c0,c1,c2,c3,c4,c5,c6,c7,c8,c9,c10,c11,c12,c13⟩:=id C
   obtain ⟨_,d0,fd0⟩:=id D
   obtain ⟨_,e0,fe0⟩:=id E
   obtain ⟨_,u0,u1,u2,fu0,fu1,fu2⟩:=id U
   clear ck cs
   go_wp2
   refine bodyPost_ret (v:=.tuple #[.agg #[.int .i64 0,.int .i64 0,.int .i64 0],.int .i64 _]) (by simp [results,Tryz.results53,go_sem, *]) rfl ⟨rfl,?_⟩
   exact balloc (bset (bset (bset B6 (by omega) _ _) (by omega) _ _) (by omega) _ _) _
 ·have ck:=fun w T=>fcheck_any c L 1 w (.inr (.inl ⟨ok,l,rfl⟩)) hm T
  clear ok l
  go_enter Tryz.func53,Tryz.ntmps53
  go_upto_region 1 with fail
  generalize ((((w.alloc (.cells #[.string c.nm,.int .i64 c.k,.int .i64 c.d,.int .i64 c.m,.int .i64 c.s,.int .i64 c.sh,.int .i64 c.p0,.int .i64 c.p1,.int .i64 c.p2,.int .i64 c.cy,.int .i64 c.ex,.int .i64 c.fi,.int .i64 c.la,.int .i64 c.po] 24)).alloc (.cells #[.int .i64 d] 3)).alloc (.cells #[.int .i64 L] 3)).alloc (.cells #[.int .i64 0,.int .i64 0,.int .i64 0] 46))=W0 at *
  obtain ⟨_,c0,c1,c2,c3,c4,c5,c6,c7,c8,c9,c10,c11,c12,c13⟩:=id C
  obtain ⟨_,d0,fd0⟩:=id D
  obtain ⟨_,e0,fe0⟩:=id E
  obtain ⟨_,u0,u1,u2,fu0,fu1,fu2⟩:=id U
  go_wp2_with fail
  refine (ck _ T).mono ?_
  rintro e w7 ⟨rfl,hb⟩
  replace C:=C.kept hb
  replace B:=bthen B hb
  replace T:=T.kept hb
  replace D:=D.kept hb
  replace E:=E.kept hb
  replace U:=U.kept hb
  clear hb c0 c1 c2 c3 c4 c5 c6 c7 c8 c9 c10 c11 c12 c13 d0 fd0 e0 fe0 u0 u1 u2 fu0 fu1 fu2
  obtain ⟨_,c0,c1,c2,c3,c4,c5,c6,c7,c8,c9,c10,c11,c12,c13⟩:=id C
  obtain ⟨_,d0,fd0⟩:=id D
  obtain ⟨_,e0,fe0⟩:=id E
  obtain ⟨_,u0,u1,u2,fu0,fu1,fu2⟩:=id U
  clear ck
  go_wp2
  refine bodyPost_ret (v:=.tuple #[.agg #[.int .i64 0,.int .i64 0,.int .i64 0],.int .i64 _]) (by simp [results,Tryz.results53,go_sem, *]) rfl ⟨rfl,?_⟩
  exact bset (bset (bset B (by omega) _ _) (by omega) _ _) (by omega) _ _
 ·have ck:=fun w T=>fcheck_any c L 1 w (.inr (.inr ⟨no,rfl⟩)) hm T
  clear no
  go_enter Tryz.func53,Tryz.ntmps53
  go_upto_region 1 with fail
  generalize ((((w.alloc (.cells #[.string c.nm,.int .i64 c.k,.int .i64 c.d,.int .i64 c.m,.int .i64 c.s,.int .i64 c.sh,.int .i64 c.p0,.int .i64 c.p1,.int .i64 c.p2,.int .i64 c.cy,.int .i64 c.ex,.int .i64 c.fi,.int .i64 c.la,.int .i64 c.po] 24)).alloc (.cells #[.int .i64 d] 3)).alloc (.cells #[.int .i64 L] 3)).alloc (.cells #[.int .i64 0,.int .i64 0,.int .i64 0] 46))=W0 at *
  obtain ⟨_,c0,c1,c2,c3,c4,c5,c6,c7,c8,c9,c10,c11,c12,c13⟩:=id C
  obtain ⟨_,d0,fd0⟩:=id D
  obtain ⟨_,e0,fe0⟩:=id E
  obtain ⟨_,u0,u1,u2,fu0,fu1,fu2⟩:=id U
  go_wp2_with fail
  refine (ck _ T).mono ?_
  rintro e w8 ⟨rfl,hb⟩
  replace C:=C.kept hb
  replace B:=bthen B hb
  replace T:=T.kept hb
  replace D:=D.kept hb
  replace E:=E.kept hb
  replace U:=U.kept hb
  clear hb c0 c1 c2 c3 c4 c5 c6 c7 c8 c9 c10 c11 c12 c13 d0 fd0 e0 fe0 u0 u1 u2 fu0 fu1 fu2
  obtain ⟨_,c0,c1,c2,c3,c4,c5,c6,c7,c8,c9,c10,c11,c12,c13⟩:=id C
  obtain ⟨_,d0,fd0⟩:=id D
  obtain ⟨_,e0,fe0⟩:=id E
  obtain ⟨_,u0,u1,u2,fu0,fu1,fu2⟩:=id U
  clear ck
  go_wp2
  refine bodyPost_ret (v:=.tuple #[.agg #[.int .i64 0,.int .i64 0,.int .i64 0],.int .i64 _]) (by simp [results,Tryz.results53,go_sem, *]) rfl ⟨rfl,?_⟩
  exact bset (bset (bset B (by omega) _ _) (by omega) _ _) (by omega) _ _

end Go.Proofs.YtoilomigceijaaaGreatDoor.Dp

