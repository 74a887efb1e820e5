/- Texts that are joined: Icode, Icode2, Icode3, Icode4, Icode5, Icode6. -/
import Derived.Test.YtoilomigceijaaaGreatDoorQrJW
import Derived.Test.YtoilomigceijaaaGreatDoorQrJP
import Derived.Test.YtoilomigceijaaaGreatDoorQrIsearch
import Derived.Test.YtoilomigceijaaaGreatDoorQrJK
set_option linter.unusedSimpArgs false
set_option linter.unusedVariables false
namespace Go.Proofs.YtoilomigceijaaaGreatDoor.Ip
open Go.RowKit Bn Bx Cp Am Fp Ap Cm Em Ep Rk Hp

set_option maxHeartbeats 2000000

structure FisIn (W:World) (b:Nat) (c:CalZ) (y:Int):Prop where
 cal:CalIn W b c
 c14:W.cell? ⟨b,14,none⟩=some (.int .i64 y)
theorem FisIn.kept {W w1:World}{b:Nat}{c:CalZ}{y:Int}(p:FisIn W b c y)(hb:Below W.heap.size W w1):FisIn w1 b c y:=⟨p.cal.kept hb,(hb.cell (p:=⟨b,14,none⟩) p.cal.lt).trans p.c14⟩
theorem FisIn.alloc {W:World}{b:Nat}{c:CalZ}{y:Int}(p:FisIn W b c y)(o:Obj):FisIn (W.alloc o) b c y:=p.kept ((Below.refl _ _).alloc (Nat.le_refl _) o)
theorem FisIn.new (W:World)(c:CalZ)(y:Int)(t:TypeId):FisIn (W.alloc (.cells #[.string c.nm,.int .i64 c.k,.int .i64 c.d,.int .i64 c.m,.int .i64 c.s,.int .i64 c.sh,.int .i64 c.p0,.int .i64 c.p1,.int .i64 c.p2,.int .i64 c.cy,.int .i64 c.ex,.int .i64 c.fi,.int .i64 c.la,.int .i64 c.po,.int .i64 y] t)) W.heap.size c y :=
 ⟨⟨by simp,by simp [go_sem],by simp [go_sem],by simp [go_sem],by simp [go_sem],by simp [go_sem],by simp [go_sem],by simp [go_sem],by simp [go_sem],by simp [go_sem],by simp [go_sem],by simp [go_sem],by simp [go_sem],by simp [go_sem],by simp [go_sem]⟩,by simp [go_sem]⟩

theorem sh5 {c:CalZ}(h:KindOk c):(c.k=6→c.sh=5∧per c=12)∧(c.k≠6→c.sh≠5):=by
 rcases shape_cases h with h|h|⟨_,_,h⟩
 ·omega
 ·omega
 ·refine ⟨fun _=>by omega,fun _=>?_⟩
  rcases cut_cases h with h|h|h|h|h<;>omega

set_option maxRecDepth 100000 in
theorem byMonths_any (c:CalZ)(y:Int)(r:Bool)(w:World)(hr:r=(c.sh==5))(T:FTab w) :
  Calls Tryz.prog 99 #[.agg #[.string c.nm,.int .i64 c.k,.int .i64 c.d,.int .i64 c.m,.int .i64 c.s,.int .i64 c.sh,.int .i64 c.p0,.int .i64 c.p1,.int .i64 c.p2,.int .i64 c.cy,.int .i64 c.ex,.int .i64 c.fi,.int .i64 c.la,.int .i64 c.po,.int .i64 y]] w fun e w'=>e= .returned (.bool r)∧Below w.heap.size w w':=by
 have C:=FisIn.new w c y 67
 have B:=balloc (Below.refl _ w) (.cells #[.string c.nm,.int .i64 c.k,.int .i64 c.d,.int .i64 c.m,.int .i64 c.s,.int .i64 c.sh,.int .i64 c.p0,.int .i64 c.p1,.int .i64 c.p2,.int .i64 c.cy,.int .i64 c.ex,.int .i64 c.fi,.int .i64 c.la,.int .i64 c.po,.int .i64 y] 67)
 replace T:=T.alloc (.cells #[.string c.nm,.int .i64 c.k,.int .i64 c.d,.int .i64 c.m,.int .i64 c.s,.int .i64 c.sh,.int .i64 c.p0,.int .i64 c.p1,.int .i64 c.p2,.int .i64 c.cy,.int .i64 c.ex,.int .i64 c.fi,.int .i64 c.la,.int .i64 c.po,.int .i64 y] 67)
 subst hr
 go_enter Tryz.func99,Tryz.ntmps99
 go_upto_region 1 with fail
 generalize w.alloc (.cells #[.string c.nm,.int .i64 c.k,.int .i64 c.d,.int .i64 c.m,.int .i64 c.s,.int .i64 c.sh,.int .i64 c.p0,.int .i64 c.p1,.int .i64 c.p2,.int .i64 c.cy,.int .i64 c.ex,.int .i64 c.fi,.int .i64 c.la,.int .i64 c.po,.int .i64 y] 67)=W0 at *
 obtain ⟨⟨_,c0,c1,c2,c3,c4,c5,c6,c7,c8,c9,c10,c11,c12,c13⟩,c14⟩:=id C
 go_wp2
 go_ret
 exact ⟨rfl,B⟩

set_option maxRecDepth 100000 in
theorem fyear_any (c:CalZ)(y n a b:Int)(w:World)(ok:CalOk c)(y0:1601≤y)(y1:y≤9997)(ha:a=pend c y 0+1)(hb':b=pend c y (per c))(hm:c.nm.size≤maxLen)(T:FTab w) :
  Calls Tryz.prog 47 #[.agg #[.string c.nm,.int .i64 c.k,.int .i64 c.d,.int .i64 c.m,.int .i64 c.s,.int .i64 c.sh,.int .i64 c.p0,.int .i64 c.p1,.int .i64 c.p2,.int .i64 c.cy,.int .i64 c.ex,.int .i64 c.fi,.int .i64 c.la,.int .i64 c.po,.int .i64 y],.int .i64 n] w fun e w'=>e= .returned (.agg #[.int .i64 a,.int .i64 b])∧Below w.heap.size w w':=by
 have C:=FisIn.new w c y 67
 have B:=balloc (Below.refl _ w) (.cells #[.string c.nm,.int .i64 c.k,.int .i64 c.d,.int .i64 c.m,.int .i64 c.s,.int .i64 c.sh,.int .i64 c.p0,.int .i64 c.p1,.int .i64 c.p2,.int .i64 c.cy,.int .i64 c.ex,.int .i64 c.fi,.int .i64 c.la,.int .i64 c.po,.int .i64 y] 67)
 replace T:=T.alloc (.cells #[.string c.nm,.int .i64 c.k,.int .i64 c.d,.int .i64 c.m,.int .i64 c.s,.int .i64 c.sh,.int .i64 c.p0,.int .i64 c.p1,.int .i64 c.p2,.int .i64 c.cy,.int .i64 c.ex,.int .i64 c.fi,.int .i64 c.la,.int .i64 c.po,.int .i64 y] 67)
 have cs:=fun w T=>Start_any c y a 0 w (.inl ⟨ok,y0,y1,by rw [ha,pend_zero],rfl⟩) hm T
 have ce:=fun w T=>End_any c y b 0 w (.inl ⟨ok,by omega,y1,by rw [hb',pend_last ok.1 y0 y1],rfl⟩) hm T
 clear ok ha hb'
 have K:=Pr.Two.new (w.alloc (.cells #[.string c.nm,.int .i64 c.k,.int .i64 c.d,.int .i64 c.m,.int .i64 c.s,.int .i64 c.sh,.int .i64 c.p0,.int .i64 c.p1,.int .i64 c.p2,.int .i64 c.cy,.int .i64 c.ex,.int .i64 c.fi,.int .i64 c.la,.int .i64 c.po,.int .i64 y] 67)) (.int .i64 0) (.int .i64 0) 26
 replace C:=C.alloc (.cells #[.int .i64 0,.int .i64 0] 26)
 replace B:=balloc B (.cells #[.int .i64 0,.int .i64 0] 26)
 replace T:=T.alloc (.cells #[.int .i64 0,.int .i64 0] 26)
 have zz:((w.alloc (.cells #[.string c.nm,.int .i64 c.k,.int .i64 c.d,.int .i64 c.m,.int .i64 c.s,.int .i64 c.sh,.int .i64 c.p0,.int .i64 c.p1,.int .i64 c.p2,.int .i64 c.cy,.int .i64 c.ex,.int .i64 c.fi,.int .i64 c.la,.int .i64 c.po,.int .i64 y] 67)).alloc (.cells #[.int .i64 0,.int .i64 0] 26)).heap.size=w.heap.size+2:=by simp
 rw [World.size_alloc] at K
 go_enter Tryz.func47,Tryz.ntmps47
 go_upto_region 1 with fail
 generalize (w.alloc (.cells #[.string c.nm,.int .i64 c.k,.int .i64 c.d,.int .i64 c.m,.int .i64 c.s,.int .i64 c.sh,.int .i64 c.p0,.int .i64 c.p1,.int .i64 c.p2,.int .i64 c.cy,.int .i64 c.ex,.int .i64 c.fi,.int .i64 c.la,.int .i64 c.po,.int .i64 y] 67)).alloc (.cells #[.int .i64 0,.int .i64 0] 26)=W0 at *
 obtain ⟨⟨_,c0,c1,c2,c3,c4,c5,c6,c7,c8,c9,c10,c11,c12,c13⟩,c14⟩:=id C
 obtain ⟨_,r0,r1,g0,g1⟩:=id K
 go_wp2_with fail
 refine (cs _ T).mono ?_
 rintro e w1 ⟨rfl,hb⟩
 replace C:=C.kept hb
 replace B:=bthen B hb
 replace T:=T.kept hb
 replace K:=K.kept hb
 clear hb r0 r1 g0 g1 c0 c1 c2 c3 c4 c5 c6 c7 c8 c9 c10 c11 c12 c13 c14
 obtain ⟨⟨_,c0,c1,c2,c3,c4,c5,c6,c7,c8,c9,c10,c11,c12,c13⟩,c14⟩:=id C
 obtain ⟨_,r0,r1,g0,g1⟩:=id K
 go_wp2_with fail
 refine (ce _ T).mono ?_
 rintro e w2 ⟨rfl,hb⟩
 replace C:=C.kept hb
 replace B:=bthen B hb
 replace T:=T.kept hb
 replace K:=K.kept hb
 clear hb r0 r1 g0 g1 c0 c1 c2 c3 c4 c5 c6 c7 c8 c9 c10 c11 c12 c13 c14
 obtain ⟨⟨_,c0,c1,c2,c3,c4,c5,c6,c7,c8,c9,c10,c11,c12,c13⟩,c14⟩:=id C
 obtain ⟨_,r0,r1,g0,g1⟩:=id K
 go_wp2
 refine bodyPost_ret (v:=.agg #[.int .i64 a,.int .i64 b]) (by simp [results,Tryz.results47,go_sem, *]) rfl ⟨rfl,?_⟩
 exact bset (bset B (by omega) _ _) (by omega) _ _

set_option maxRecDepth 100000 in
theorem fweeks_any (c:CalZ)(y v:Int)(w:World)(ok:CalOk c)(y0:1601≤y)(y1:y≤9997)(hv:v=nwk c y)(hm:c.nm.size≤maxLen)(T:FTab w) :
  Calls Tryz.prog 138 #[.agg #[.string c.nm,.int .i64 c.k,.int .i64 c.d,.int .i64 c.m,.int .i64 c.s,.int .i64 c.sh,.int .i64 c.p0,.int .i64 c.p1,.int .i64 c.p2,.int .i64 c.cy,.int .i64 c.ex,.int .i64 c.fi,.int .i64 c.la,.int .i64 c.po,.int .i64 y]] w fun e w'=>e= .returned (.int .i64 v)∧Below w.heap.size w w':=by
 have C:=FisIn.new w c y 67
 have B:=balloc (Below.refl _ w) (.cells #[.string c.nm,.int .i64 c.k,.int .i64 c.d,.int .i64 c.m,.int .i64 c.s,.int .i64 c.sh,.int .i64 c.p0,.int .i64 c.p1,.int .i64 c.p2,.int .i64 c.cy,.int .i64 c.ex,.int .i64 c.fi,.int .i64 c.la,.int .i64 c.po,.int .i64 y] 67)
 replace T:=T.alloc (.cells #[.string c.nm,.int .i64 c.k,.int .i64 c.d,.int .i64 c.m,.int .i64 c.s,.int .i64 c.sh,.int .i64 c.p0,.int .i64 c.p1,.int .i64 c.p2,.int .i64 c.cy,.int .i64 c.ex,.int .i64 c.fi,.int .i64 c.la,.int .i64 c.po,.int .i64 y] 67)
 by_cases k6:c.k=6
 ·obtain ⟨s5,h12⟩:=(sh5 ok.1).1 k6
  have cb:=fun w T=>byMonths_any c y true w (by rw [s5];rfl) T
  have cw:=fun w T=>Weeks_ok c y 12 w ok y0 y1 (by omega) hm T
  have e12:perN c=12:=by unfold perN;rw [h12];rfl
  have V:Hid (v=wsum c y 12):=Lib.hid (by rw [hv];unfold nwk;rw [e12])
  have FA:Hid (∀ k:Nat,k<12→∃ d s:Int,d=fwk c y k∧s=wsum c y k∧s+d=wsum c y (k+1)∧0≤s∧s≤100∧1≤d∧d≤6) :=
   Lib.hid (fun k hk=>by
    have wb:=wks_bd ok.1 y0 y1 (p:=(k:Int)+1) (by omega) (by omega)
    have a:=wsum_step ok.1 y0 y1 (a:=0) (b:=k) (by omega) (by omega)
    have b:=wsum_step ok.1 y0 y1 (a:=k) (b:=perN c) (by omega) (by omega)
    have n:=nwk_bd ok.1 y0 y1
    unfold nwk at n
    rw [show wsum c y 0=0 from rfl] at a
    exact ⟨_,_,rfl,rfl,rfl,by omega,by omega,wb.1,wb.2.1⟩)
  clear ok k6 s5 h12 e12 hv
  go_enter Tryz.func138,Tryz.ntmps138
  go_upto_region 1 with fail
  generalize w.alloc (.cells #[.string c.nm,.int .i64 c.k,.int .i64 c.d,.int .i64 c.m,.int .i64 c.s,.int .i64 c.sh,.int .i64 c.p0,.int .i64 c.p1,.int .i64 c.p2,.int .i64 c.cy,.int .i64 c.ex,.int .i64 c.fi,.int .i64 c.la,.int .i64 c.po,.int .i64 y] 67)=W0 at *
  obtain ⟨⟨_,c0,c1,c2,c3,c4,c5,c6,c7,c8,c9,c10,c11,c12,c13⟩,c14⟩:=id C
  go_wp2_with fail
  refine (cb _ T).mono ?_
  rintro e w1 ⟨rfl,hb⟩
  replace C:=C.kept hb
  replace B:=bthen B hb
  replace T:=T.kept hb
  clear hb c0 c1 c2 c3 c4 c5 c6 c7 c8 c9 c10 c11 c12 c13 c14
  obtain ⟨⟨_,c0,c1,c2,c3,c4,c5,c6,c7,c8,c9,c10,c11,c12,c13⟩,c14⟩:=id C
  go_wp2_with fail
  refine (cw _ T).mono ?_
  rintro e w2 ⟨gR,capR,rfl,R,hgR,hb⟩
  replace C:=C.kept hb
  replace B:=bthen B hb
  replace T:=T.kept hb
  clear hb hgR c0 c1 c2 c3 c4 c5 c6 c7 c8 c9 c10 c11 c12 c13 c14
  obtain ⟨⟨_,c0,c1,c2,c3,c4,c5,c6,c7,c8,c9,c10,c11,c12,c13⟩,c14⟩:=id C
  clear cb cw c0 c1 c2 c3 c4 c5 c6 c7 c8 c9 c10 c11 c12 c13 c14
  go_wp2
  go_loopw [5,32] (fun Z X wr=>∃ k:Nat,k≤12∧X= .int .i64 (k:Int)∧(∃ s:Int,Z= .int .i64 s∧Hid (s=wsum c y k))∧Below w2.heap.size w2 wr) (fun _ X _=>(13 - intOf X).toNat)
  case atStart=>exact ⟨0,by omega,rfl,⟨0,rfl,Lib.hid rfl⟩,Below.refl _ _⟩
  case round =>
   obtain ⟨k,hk,rfl,⟨s,rfl,hs⟩,B2⟩:=hrel
   replace R:=R.kept B2
   by_cases hlt:k<12
   ·obtain ⟨d,s',e1,e2,e3,s0,s1,d0,d1⟩:=FA.out k hlt
    obtain rfl:s=s':=hs.out.trans e2.symm
    have rc:=R.c k hlt
    rw [← e1] at rc
    have pp:(0:Int)≤(k:Int):=by omega
    have bp:(k:Int)<12:=by omega
    have E3:=Lib.hid e3
    clear e1 e2 e3 hs R
    go_wp2
    go_roundw
    case rel=>exact ⟨k+1,by omega,by go_num,⟨_,rfl,E3⟩,B2⟩
    case measure=>simp [intOf];omega
   ·obtain rfl:k=12:=by omega
    have es:s=v:=hs.out.trans V.out.symm
    subst es
    clear hs
    go_wp2
    go_ret
    exact ⟨rfl,bthen B B2⟩
 ·have n5:=(sh5 ok.1).2 k6
  have cb:=fun w T=>byMonths_any c y false w (beq_eq_false_iff_ne.2 n5).symm T
  have cw:=fun w T=>Weeks_any c y v 0 w (.inl ⟨ok,k6,y0,y1,by rw [hv,nwk_weeks ok.1 k6 y0 y1];rfl,rfl⟩) hm T
  clear ok k6 n5 hv
  go_enter Tryz.func138,Tryz.ntmps138
  go_upto_region 1 with fail
  generalize w.alloc (.cells #[.string c.nm,.int .i64 c.k,.int .i64 c.d,.int .i64 c.m,.int .i64 c.s,.int .i64 c.sh,.int .i64 c.p0,.int .i64 c.p1,.int .i64 c.p2,.int .i64 c.cy,.int .i64 c.ex,.int .i64 c.fi,.int .i64 c.la,.int .i64 c.po,.int .i64 y] 67)=W0 at *
  obtain ⟨⟨_,c0,c1,c2,c3,c4,c5,c6,c7,c8,c9,c10,c11,c12,c13⟩,c14⟩:=id C
  go_wp2_with fail
  refine (cb _ T).mono ?_
  rintro e w3 ⟨rfl,hb⟩
  replace C:=C.kept hb
  replace B:=bthen B hb
  replace T:=T.kept hb
  clear hb c0 c1 c2 c3 c4 c5 c6 c7 c8 c9 c10 c11 c12 c13 c14
  obtain ⟨⟨_,c0,c1,c2,c3,c4,c5,c6,c7,c8,c9,c10,c11,c12,c13⟩,c14⟩:=id C
  go_wp2_with fail
  refine (cw _ T).mono ?_
  rintro e w4 ⟨rfl,hb⟩
  replace C:=C.kept hb
  replace B:=bthen B hb
  replace T:=T.kept hb
  clear hb c0 c1 c2 c3 c4 c5 c6 c7 c8 c9 c10 c11 c12 c13 c14
  obtain ⟨⟨_,c0,c1,c2,c3,c4,c5,c6,c7,c8,c9,c10,c11,c12,c13⟩,c14⟩:=id C
  go_wp2
  go_ret
  exact ⟨rfl,B⟩

set_option maxRecDepth 100000 in
theorem fcount_any (c:CalZ)(y L v:Int)(w:World)(ok:CalOk c)(y0:1601≤y)(y1:y≤9997)(hL:LevOk L)(hv:v=ucount c y L)(hm:c.nm.size≤maxLen)(T:FTab w) :
  Calls Tryz.prog 94 #[.agg #[.string c.nm,.int .i64 c.k,.int .i64 c.d,.int .i64 c.m,.int .i64 c.s,.int .i64 c.sh,.int .i64 c.p0,.int .i64 c.p1,.int .i64 c.p2,.int .i64 c.cy,.int .i64 c.ex,.int .i64 c.fi,.int .i64 c.la,.int .i64 c.po,.int .i64 y],.int .i64 L] w fun e w'=>e= .returned (.int .i64 v)∧Below w.heap.size w w':=by
 have C:=FisIn.new w c y 67
 have B:=balloc (Below.refl _ w) (.cells #[.string c.nm,.int .i64 c.k,.int .i64 c.d,.int .i64 c.m,.int .i64 c.s,.int .i64 c.sh,.int .i64 c.p0,.int .i64 c.p1,.int .i64 c.p2,.int .i64 c.cy,.int .i64 c.ex,.int .i64 c.fi,.int .i64 c.la,.int .i64 c.po,.int .i64 y] 67)
 replace T:=T.alloc (.cells #[.string c.nm,.int .i64 c.k,.int .i64 c.d,.int .i64 c.m,.int .i64 c.s,.int .i64 c.sh,.int .i64 c.p0,.int .i64 c.p1,.int .i64 c.p2,.int .i64 c.cy,.int .i64 c.ex,.int .i64 c.fi,.int .i64 c.la,.int .i64 c.po,.int .i64 y] 67)
 have O:L=1∨L=2∨L=3∨L=4∨L=5:=by unfold LevOk at hL;omega
 rcases O with rfl|rfl|rfl|rfl|rfl
 ·obtain rfl:v=1:=by rw [hv];simp [ucount]
  clear hv ok hL
  go_enter Tryz.func94,Tryz.ntmps94
  go_upto_region 1 with fail
  generalize w.alloc (.cells #[.string c.nm,.int .i64 c.k,.int .i64 c.d,.int .i64 c.m,.int .i64 c.s,.int .i64 c.sh,.int .i64 c.p0,.int .i64 c.p1,.int .i64 c.p2,.int .i64 c.cy,.int .i64 c.ex,.int .i64 c.fi,.int .i64 c.la,.int .i64 c.po,.int .i64 y] 67)=W0 at *
  obtain ⟨⟨_,c0,c1,c2,c3,c4,c5,c6,c7,c8,c9,c10,c11,c12,c13⟩,c14⟩:=id C
  go_wp2
  go_ret
  exact ⟨rfl,B⟩
 ·obtain rfl:v=2:=by rw [hv];simp [ucount]
  clear hv ok hL
  go_enter Tryz.func94,Tryz.ntmps94
  go_upto_region 1 with fail
  generalize w.alloc (.cells #[.string c.nm,.int .i64 c.k,.int .i64 c.d,.int .i64 c.m,.int .i64 c.s,.int .i64 c.sh,.int .i64 c.p0,.int .i64 c.p1,.int .i64 c.p2,.int .i64 c.cy,.int .i64 c.ex,.int .i64 c.fi,.int .i64 c.la,.int .i64 c.po,.int .i64 y] 67)=W0 at *
  obtain ⟨⟨_,c0,c1,c2,c3,c4,c5,c6,c7,c8,c9,c10,c11,c12,c13⟩,c14⟩:=id C
  go_wp2
  go_ret
  exact ⟨rfl,B⟩
 ·obtain rfl:v=4:=by rw [hv];simp [ucount]
  clear hv ok hL
  go_enter Tryz.func94,Tryz.ntmps94
  go_upto_region 1 with fail
  generalize w.alloc (.cells #[.string c.nm,.int .i64 c.k,.int .i64 c.d,.int .i64 c.m,.int .i64 c.s,.int .i64 c.sh,.int .i64 c.p0,.int .i64 c.p1,.int .i64 c.p2,.int .i64 c.cy,.int .i64 c.ex,.int .i64 c.fi,.int .i64 c.la,.int .i64 c.po,.int .i64 y] 67)=W0 at *
  obtain ⟨⟨_,c0,c1,c2,c3,c4,c5,c6,c7,c8,c9,c10,c11,c12,c13⟩,c14⟩:=id C
  go_wp2
  go_ret
  exact ⟨rfl,B⟩
 ·have cp:=fun w T=>Periods_any c v 0 w (.inl ⟨ok,by rw [hv];simp [ucount],rfl⟩) hm T
  clear ok hv
  go_enter Tryz.func94,Tryz.ntmps94
  go_upto_region 1 with fail
  generalize w.alloc (.cells #[.string c.nm,.int .i64 c.k,.int .i64 c.d,.int .i64 c.m,.int .i64 c.s,.int .i64 c.sh,.int .i64 c.p0,.int .i64 c.p1,.int .i64 c.p2,.int .i64 c.cy,.int .i64 c.ex,.int .i64 c.fi,.int .i64 c.la,.int .i64 c.po,.int .i64 y] 67)=W0 at *
  obtain ⟨⟨_,c0,c1,c2,c3,c4,c5,c6,c7,c8,c9,c10,c11,c12,c13⟩,c14⟩:=id C
  go_wp2_with fail
  refine (cp _ T).mono ?_
  rintro e w1 ⟨rfl,hb⟩
  replace C:=C.kept hb
  replace B:=bthen B hb
  replace T:=T.kept hb
  clear hb c0 c1 c2 c3 c4 c5 c6 c7 c8 c9 c10 c11 c12 c13 c14
  obtain ⟨⟨_,c0,c1,c2,c3,c4,c5,c6,c7,c8,c9,c10,c11,c12,c13⟩,c14⟩:=id C
  go_wp2
  go_ret
  exact ⟨rfl,B⟩
 ·have cw:=fun w T=>fweeks_any c y v w ok y0 y1 (by rw [hv];simp [ucount]) hm T
  clear ok hv
  go_enter Tryz.func94,Tryz.ntmps94
  go_upto_region 1 with fail
  generalize w.alloc (.cells #[.string c.nm,.int .i64 c.k,.int .i64 c.d,.int .i64 c.m,.int .i64 c.s,.int .i64 c.sh,.int .i64 c.p0,.int .i64 c.p1,.int .i64 c.p2,.int .i64 c.cy,.int .i64 c.ex,.int .i64 c.fi,.int .i64 c.la,.int .i64 c.po,.int .i64 y] 67)=W0 at *
  obtain ⟨⟨_,c0,c1,c2,c3,c4,c5,c6,c7,c8,c9,c10,c11,c12,c13⟩,c14⟩:=id C
  go_wp2_with fail
  refine (cw _ T).mono ?_
  rintro e w2 ⟨rfl,hb⟩
  replace C:=C.kept hb
  replace B:=bthen B hb
  replace T:=T.kept hb
  clear hb c0 c1 c2 c3 c4 c5 c6 c7 c8 c9 c10 c11 c12 c13 c14
  obtain ⟨⟨_,c0,c1,c2,c3,c4,c5,c6,c7,c8,c9,c10,c11,c12,c13⟩,c14⟩:=id C
  go_wp2
  go_ret
  exact ⟨rfl,B⟩

theorem quar_gt {c:CalZ}(h:KindOk c){p q:Int}(p0:1≤p)(p1:p≤per c)(q0:0≤q)(q1:q≤4):q<quar (per c) p↔per c*q / 4<p:=by
 have qq:q=0∨q=1∨q=2∨q=3∨q=4:=by omega
 unfold quar
 rcases per_is h with e|e|e|e<;>rw [e] at p1 ⊢<;>rcases qq with rfl|rfl|rfl|rfl|rfl<;>(repeat' split)<;>omega

set_option maxRecDepth 100000 in
theorem periodsTo1_any (c:CalZ)(y q:Int)(i b1 b2:Nat)(v:Int)(w:World)(ok:CalOk c)(hi:(i:Int)<per c)(hv:v=quar (per c) ((i:Int)+1))(C:FisIn w b1 c y)(hq:w.cell? ⟨b2,0,none⟩=some (.int .i64 q))(lq:b2<w.heap.size)(hm:c.nm.size≤maxLen)(T:FTab w) :
  Calls Tryz.prog 141 #[.int .i64 (i:Int),.pointer (some ⟨b1,0,none⟩),.pointer (some ⟨b2,0,none⟩)] w fun e w'=>e= .returned (.bool (decide (q<v)))∧Below w.heap.size w w':=by
 have pb:=per_bd ok.1
 have cq:=fun w T=>Quarter_any c ((i:Int)+1) v 0 w (.inl ⟨ok,by omega,by omega,hv,rfl⟩) hm T
 have i0:(0:Int)≤(i:Int):=by omega
 have i1:(i:Int)≤52:=by omega
 clear ok hi hv pb
 obtain ⟨⟨_,c0,c1,c2,c3,c4,c5,c6,c7,c8,c9,c10,c11,c12,c13⟩,c14⟩:=id C
 go_enter Tryz.func141,Tryz.ntmps141
 go_wp2_with fail
 refine (cq _ T).mono ?_
 rintro e w1 ⟨rfl,hb⟩
 replace hq:=(hb.cell (p:=⟨b2,0,none⟩) lq).trans hq
 clear c0 c1 c2 c3 c4 c5 c6 c7 c8 c9 c10 c11 c12 c13 c14
 go_wp2
 go_ret
 exact ⟨by simp,hb⟩

set_option maxRecDepth 100000 in
theorem periodsTo_any (c:CalZ)(y q v:Int)(w:World)(ok:CalOk c)(y0:1601≤y)(y1:y≤9997)(q0:0≤q)(q1:q≤4)(hv:v=per c*q / 4)(hm:c.nm.size≤maxLen)(T:FTab w) :
  Calls Tryz.prog 97 #[.agg #[.string c.nm,.int .i64 c.k,.int .i64 c.d,.int .i64 c.m,.int .i64 c.s,.int .i64 c.sh,.int .i64 c.p0,.int .i64 c.p1,.int .i64 c.p2,.int .i64 c.cy,.int .i64 c.ex,.int .i64 c.fi,.int .i64 c.la,.int .i64 c.po,.int .i64 y],.int .i64 q] w fun e w'=>e= .returned (.int .i64 v)∧Below w.heap.size w w':=by
 have C:=FisIn.new w c y 67
 have B:=balloc (Below.refl _ w) (.cells #[.string c.nm,.int .i64 c.k,.int .i64 c.d,.int .i64 c.m,.int .i64 c.s,.int .i64 c.sh,.int .i64 c.p0,.int .i64 c.p1,.int .i64 c.p2,.int .i64 c.cy,.int .i64 c.ex,.int .i64 c.fi,.int .i64 c.la,.int .i64 c.po,.int .i64 y] 67)
 replace T:=T.alloc (.cells #[.string c.nm,.int .i64 c.k,.int .i64 c.d,.int .i64 c.m,.int .i64 c.s,.int .i64 c.sh,.int .i64 c.p0,.int .i64 c.p1,.int .i64 c.p2,.int .i64 c.cy,.int .i64 c.ex,.int .i64 c.fi,.int .i64 c.la,.int .i64 c.po,.int .i64 y] 67)
 have pb:=per_bd ok.1
 have qa:=quarter_at ok.1 q q0 q1
 obtain ⟨n,hn⟩:∃ n:Nat,(n:Int)=per c:=⟨(per c).toNat,by omega⟩
 obtain ⟨r,hr⟩:∃ r:Nat,(r:Int)=v:=⟨v.toNat,by omega⟩
 have cc:=fun w T=>fcount_any c y 4 (n:Int) w ok y0 y1 ⟨by omega,by omega⟩ (by rw [hn];simp [ucount]) hm T
 have K:=(FisIn.new w c y 67)
 have CS:Hid (∀ W,Below (w.heap.size+2) ((w.alloc (.cells #[.string c.nm,.int .i64 c.k,.int .i64 c.d,.int .i64 c.m,.int .i64 c.s,.int .i64 c.sh,.int .i64 c.p0,.int .i64 c.p1,.int .i64 c.p2,.int .i64 c.cy,.int .i64 c.ex,.int .i64 c.fi,.int .i64 c.la,.int .i64 c.po,.int .i64 y] 67)).alloc (.cells #[.int .i64 q] 3)) W→Calls Tryz.prog 102 #[.int .i64 (n:Int),.func (.func 141) #[] #[.pointer (some ⟨w.heap.size,0,none⟩),.pointer (some ⟨w.heap.size+1,0,none⟩)]] W fun e w'=>e= .returned (.int .i64 v)∧Below W.heap.size W w') :=
  Lib.hid (fun W hW=>by
   rw [← hr]
   refine search_any n r _ _ W (by omega) (by omega) (fun _ _=>by rfl) (fun W2 i hb hi=>?_)
   have hz:((w.alloc (.cells #[.string c.nm,.int .i64 c.k,.int .i64 c.d,.int .i64 c.m,.int .i64 c.s,.int .i64 c.sh,.int .i64 c.p0,.int .i64 c.p1,.int .i64 c.p2,.int .i64 c.cy,.int .i64 c.ex,.int .i64 c.fi,.int .i64 c.la,.int .i64 c.po,.int .i64 y] 67)).alloc (.cells #[.int .i64 q] 3)).heap.size=w.heap.size+2:=by simp
   have B3:Below ((w.alloc (.cells #[.string c.nm,.int .i64 c.k,.int .i64 c.d,.int .i64 c.m,.int .i64 c.s,.int .i64 c.sh,.int .i64 c.p0,.int .i64 c.p1,.int .i64 c.p2,.int .i64 c.cy,.int .i64 c.ex,.int .i64 c.fi,.int .i64 c.la,.int .i64 c.po,.int .i64 y] 67)).alloc (.cells #[.int .i64 q] 3)).heap.size ((w.alloc (.cells #[.string c.nm,.int .i64 c.k,.int .i64 c.d,.int .i64 c.m,.int .i64 c.s,.int .i64 c.sh,.int .i64 c.p0,.int .i64 c.p1,.int .i64 c.p2,.int .i64 c.cy,.int .i64 c.ex,.int .i64 c.fi,.int .i64 c.la,.int .i64 c.po,.int .i64 y] 67)).alloc (.cells #[.int .i64 q] 3)) W2:=by rw [hz];exact hW.trans (hb.mono (by have:=hW.size;rw [hz] at this;exact this))
   have e:=quar_gt ok.1 (p:=(i:Int)+1) (q:=q) (by omega) (by omega) q0 q1
   rw [← hv,← hr] at e
   rw [show decide (r≤i)=decide (q<quar (per c) ((i:Int)+1)) from decide_eq_decide.2 (by rw [e];omega)]
   have lt2:w.heap.size+1<W2.heap.size:=by have:=B3.size;rw [hz] at this;omega
   exact periodsTo1_any c y q i w.heap.size (w.heap.size+1) _ W2 ok (by omega) rfl ((K.alloc _).kept B3) ((B3.cell (p:=⟨w.heap.size+1,0,none⟩) (by rw [hz];show w.heap.size+1 < _;omega)).trans (by simp [go_sem])) lt2 hm ((T.alloc _).kept B3))
 replace C:=C.alloc (.cells #[.int .i64 q] 3)
 replace B:=balloc B (.cells #[.int .i64 q] 3)
 replace T:=T.alloc (.cells #[.int .i64 q] 3)
 have hz:((w.alloc (.cells #[.string c.nm,.int .i64 c.k,.int .i64 c.d,.int .i64 c.m,.int .i64 c.s,.int .i64 c.sh,.int .i64 c.p0,.int .i64 c.p1,.int .i64 c.p2,.int .i64 c.cy,.int .i64 c.ex,.int .i64 c.fi,.int .i64 c.la,.int .i64 c.po,.int .i64 y] 67)).alloc (.cells #[.int .i64 q] 3)).heap.size=w.heap.size+2:=by simp
 have v0:0≤v∧v≤52:=by omega
 clear ok pb qa hn hv hr K
 go_enter Tryz.func97,Tryz.ntmps97
 go_upto_region 1 with fail
 generalize (w.alloc (.cells #[.string c.nm,.int .i64 c.k,.int .i64 c.d,.int .i64 c.m,.int .i64 c.s,.int .i64 c.sh,.int .i64 c.p0,.int .i64 c.p1,.int .i64 c.p2,.int .i64 c.cy,.int .i64 c.ex,.int .i64 c.fi,.int .i64 c.la,.int .i64 c.po,.int .i64 y] 67)).alloc (.cells #[.int .i64 q] 3)=W0 at *
 obtain ⟨⟨_,c0,c1,c2,c3,c4,c5,c6,c7,c8,c9,c10,c11,c12,c13⟩,c14⟩:=id C
 go_wp2_with fail
 refine (cc _ T).mono ?_
 rintro e w1 ⟨rfl,hb⟩
 have cs:=CS.out w1 (by rw [← hz];exact hb)
 replace B:=bthen B hb
 clear cc CS c0 c1 c2 c3 c4 c5 c6 c7 c8 c9 c10 c11 c12 c13 c14
 go_wp2_with fail
 refine cs.mono ?_
 rintro e w2 ⟨rfl,hb2⟩
 replace B:=bthen B hb2
 go_wp2
 go_ret
 exact ⟨rfl,B⟩

end Go.Proofs.YtoilomigceijaaaGreatDoor.Ip

namespace Go.Proofs.YtoilomigceijaaaGreatDoor.Ip
open Go.RowKit Bn Bx Cp Am Fp Ap Cm Em Ep Rk Hp

set_option maxHeartbeats 2000000

@[go_sem] theorem span_f0 (a b:Int) (w:World):Sem.run Tryz.prog (Instr.field 26 (.agg #[.int .i64 a,.int .i64 b]) 0) w= .ok (.int .i64 a) w:=by kernel_rfl
@[go_sem] theorem span_f1 (a b:Int) (w:World):Sem.run Tryz.prog (Instr.field 26 (.agg #[.int .i64 a,.int .i64 b]) 1) w= .ok (.int .i64 b) w:=by kernel_rfl

set_option maxRecDepth 100000 in
theorem fperiod_any (c:CalZ)(y p a b:Int)(w:World)(ok:CalOk c)(y0:1601≤y)(y1:y≤9997)(p0:1≤p)(p1:p≤per c)(ha:a=pend c y (p - 1)+1)(hb':b=pend c y p)(hm:c.nm.size≤maxLen)(T:FTab w) :
  Calls Tryz.prog 50 #[.agg #[.string c.nm,.int .i64 c.k,.int .i64 c.d,.int .i64 c.m,.int .i64 c.s,.int .i64 c.sh,.int .i64 c.p0,.int .i64 c.p1,.int .i64 c.p2,.int .i64 c.cy,.int .i64 c.ex,.int .i64 c.fi,.int .i64 c.la,.int .i64 c.po,.int .i64 y],.int .i64 p] w fun e w'=>e= .returned (.agg #[.int .i64 a,.int .i64 b])∧Below w.heap.size w w':=by
 have C:=FisIn.new w c y 67
 have B:=balloc (Below.refl _ w) (.cells #[.string c.nm,.int .i64 c.k,.int .i64 c.d,.int .i64 c.m,.int .i64 c.s,.int .i64 c.sh,.int .i64 c.p0,.int .i64 c.p1,.int .i64 c.p2,.int .i64 c.cy,.int .i64 c.ex,.int .i64 c.fi,.int .i64 c.la,.int .i64 c.po,.int .i64 y] 67)
 replace T:=T.alloc (.cells #[.string c.nm,.int .i64 c.k,.int .i64 c.d,.int .i64 c.m,.int .i64 c.s,.int .i64 c.sh,.int .i64 c.p0,.int .i64 c.p1,.int .i64 c.p2,.int .i64 c.cy,.int .i64 c.ex,.int .i64 c.fi,.int .i64 c.la,.int .i64 c.po,.int .i64 y] 67)
 have pb:=per_bd ok.1
 obtain ⟨n,hn⟩:∃ n:Nat,(n:Int)=per c:=⟨(per c).toNat,by omega⟩
 have n1:n≤52:=by omega
 have n0:12≤n:=by omega
 have ce:=fun w T=>Ends_ok c y n w ok y0 y1 hn hm T
 have bd:=pend_bd ok.1 y0 y1 (p:=p - 1) (by omega) (by omega)
 by_cases q:p=1
 ·subst q
  obtain ⟨z,hz⟩:∃ z,z=pend c y (per c):=⟨_,rfl⟩
  have cy:=fun w T=>fyear_any c y 1 a z w ok y0 y1 ha hz hm T
  have hu:some (Value.int .i64 (fend c y 0))=some (Value.int .i64 b):=by rw [hb'];unfold fend;simp
  have n2:0<n:=by omega
  clear ok pb hn bd ha hb' hz p0 p1
  have K:=Pr.Two.new (w.alloc (.cells #[.string c.nm,.int .i64 c.k,.int .i64 c.d,.int .i64 c.m,.int .i64 c.s,.int .i64 c.sh,.int .i64 c.p0,.int .i64 c.p1,.int .i64 c.p2,.int .i64 c.cy,.int .i64 c.ex,.int .i64 c.fi,.int .i64 c.la,.int .i64 c.po,.int .i64 y] 67)) (.int .i64 0) (.int .i64 0) 26
  replace C:=C.alloc (.cells #[.int .i64 0,.int .i64 0] 26)
  replace B:=balloc B (.cells #[.int .i64 0,.int .i64 0] 26)
  replace T:=T.alloc (.cells #[.int .i64 0,.int .i64 0] 26)
  have zz:((w.alloc (.cells #[.string c.nm,.int .i64 c.k,.int .i64 c.d,.int .i64 c.m,.int .i64 c.s,.int .i64 c.sh,.int .i64 c.p0,.int .i64 c.p1,.int .i64 c.p2,.int .i64 c.cy,.int .i64 c.ex,.int .i64 c.fi,.int .i64 c.la,.int .i64 c.po,.int .i64 y] 67)).alloc (.cells #[.int .i64 0,.int .i64 0] 26)).heap.size=w.heap.size+2:=by simp
  rw [World.size_alloc] at K
  go_enter Tryz.func50,Tryz.ntmps50
  go_upto_region 1 with fail
  generalize (w.alloc (.cells #[.string c.nm,.int .i64 c.k,.int .i64 c.d,.int .i64 c.m,.int .i64 c.s,.int .i64 c.sh,.int .i64 c.p0,.int .i64 c.p1,.int .i64 c.p2,.int .i64 c.cy,.int .i64 c.ex,.int .i64 c.fi,.int .i64 c.la,.int .i64 c.po,.int .i64 y] 67)).alloc (.cells #[.int .i64 0,.int .i64 0] 26)=W0 at *
  obtain ⟨⟨_,c0,c1,c2,c3,c4,c5,c6,c7,c8,c9,c10,c11,c12,c13⟩,c14⟩:=id C
  obtain ⟨_,r0,r1,g0,g1⟩:=id K
  go_wp2_with fail
  refine (ce _ T).mono ?_
  rintro e w1 ⟨gR,capR,rfl,R,hgR,hb⟩
  replace C:=C.kept hb
  replace B:=bthen B hb
  replace T:=T.kept hb
  replace K:=K.kept hb
  clear hb hgR r0 r1 g0 g1 c0 c1 c2 c3 c4 c5 c6 c7 c8 c9 c10 c11 c12 c13 c14
  obtain ⟨⟨_,c0,c1,c2,c3,c4,c5,c6,c7,c8,c9,c10,c11,c12,c13⟩,c14⟩:=id C
  obtain ⟨_,r0,r1,g0,g1⟩:=id K
  have rc:=(R.c 0 (by omega)).trans hu
  have qY:=fun d os=>Calls.regrown_of (cy (Go.Sort.grow (redrawn w1 d) os) (T.kept (below_regrown w1 d os)))
  have k0:=cell_regrown c0
  have k1:=cell_regrown c1
  have k2:=cell_regrown c2
  have k3:=cell_regrown c3
  have k4:=cell_regrown c4
  have k5:=cell_regrown c5
  have k6:=cell_regrown c6
  have k7:=cell_regrown c7
  have k8:=cell_regrown c8
  have k9:=cell_regrown c9
  have k10:=cell_regrown c10
  have k11:=cell_regrown c11
  have k12:=cell_regrown c12
  have k13:=cell_regrown c13
  have k14:=cell_regrown c14
  have kr:=cell_regrown rc
  clear ce cy R hu
  go_wp2
  refine Qt.wp_region_below_tail 7 (by kernel_rfl) (by kernel_rfl) ?_
  simp only [List.take_succ_cons,List.take_zero,List.drop_succ_cons,List.drop_zero]
  repeat (quiet_step (exact qY _ _))
  refine wpQuiet_nil ?_
  intro _ hw'
  obtain ⟨⟨dq,osq⟩,hw''⟩:=hw'
  subst hw''
  have hb:=below_regrown w1 dq osq
  generalize Go.Sort.grow (redrawn w1 dq) osq=w9 at hb ⊢
  replace K:=K.kept hb
  replace B:=bthen B hb
  obtain ⟨_,r0,r1,g0,g1⟩:=id K
  go_wp2
  refine bodyPost_ret (v:=.agg #[.int .i64 a,.int .i64 b]) (by simp [results,Tryz.results50,go_sem, *]) rfl ⟨rfl,?_⟩
  exact bset (bset B (by omega) _ _) (by omega) _ _
 ·obtain ⟨x,hx⟩:∃ x:Nat,(x:Int)=p - 2:=⟨(p - 2).toNat,by omega⟩
  obtain ⟨f,hf⟩:∃ f,f=a - 1:=⟨_,rfl⟩
  have hu:some (Value.int .i64 (fend c y x))=some (Value.int .i64 f):=by rw [hf,ha];unfold fend;rw [hx,show p - 2+1=p - 1 by omega];simp
  have hv:some (Value.int .i64 (fend c y (x+1)))=some (Value.int .i64 b):=by rw [hb'];unfold fend;rw [show ((x+1:Nat):Int)=p - 1 by omega,show p - 1+1=p by omega]
  have dq:(p==1)=false:=beq_eq_false_iff_ne.2 q
  have hw1:IntKind.i64.wrap (p - 2)=(x:Int):=by rw [IntWalk.i64_in _ (by omega)];omega
  have hw2:IntKind.i64.wrap (p - 1)=((x+1:Nat):Int):=by rw [IntWalk.i64_in _ (by omega)];omega
  have hw3:IntKind.i64.wrap (f+1)=a:=by rw [IntWalk.i64_in _ (by omega)];omega
  have xn:x+1<n:=by omega
  have xn1:x<n:=by omega
  have b0:(0:Int)≤(x:Int):=by omega
  have b1:(x:Int)<(n:Int):=by omega
  have b2:(0:Int)≤(x:Int)+1:=by omega
  have b3:(x:Int)+1<(n:Int):=by omega
  clear ok pb hn bd ha hb' hx hf q
  have K:=Pr.Two.new (w.alloc (.cells #[.string c.nm,.int .i64 c.k,.int .i64 c.d,.int .i64 c.m,.int .i64 c.s,.int .i64 c.sh,.int .i64 c.p0,.int .i64 c.p1,.int .i64 c.p2,.int .i64 c.cy,.int .i64 c.ex,.int .i64 c.fi,.int .i64 c.la,.int .i64 c.po,.int .i64 y] 67)) (.int .i64 0) (.int .i64 0) 26
  replace C:=C.alloc (.cells #[.int .i64 0,.int .i64 0] 26)
  replace B:=balloc B (.cells #[.int .i64 0,.int .i64 0] 26)
  replace T:=T.alloc (.cells #[.int .i64 0,.int .i64 0] 26)
  have zz:((w.alloc (.cells #[.string c.nm,.int .i64 c.k,.int .i64 c.d,.int .i64 c.m,.int .i64 c.s,.int .i64 c.sh,.int .i64 c.p0,.int .i64 c.p1,.int .i64 c.p2,.int .i64 c.cy,.int .i64 c.ex,.int .i64 c.fi,.int .i64 c.la,.int .i64 c.po,.int .i64 y] 67)).alloc (.cells #[.int .i64 0,.int .i64 0] 26)).heap.size=w.heap.size+2:=by simp
  rw [World.size_alloc] at K
  go_enter Tryz.func50,Tryz.ntmps50
  go_upto_region 1 with fail
  generalize (w.alloc (.cells #[.string c.nm,.int .i64 c.k,.int .i64 c.d,.int .i64 c.m,.int .i64 c.s,.int .i64 c.sh,.int .i64 c.p0,.int .i64 c.p1,.int .i64 c.p2,.int .i64 c.cy,.int .i64 c.ex,.int .i64 c.fi,.int .i64 c.la,.int .i64 c.po,.int .i64 y] 67)).alloc (.cells #[.int .i64 0,.int .i64 0] 26)=W0 at *
  obtain ⟨⟨_,c0,c1,c2,c3,c4,c5,c6,c7,c8,c9,c10,c11,c12,c13⟩,c14⟩:=id C
  obtain ⟨_,r0,r1,g0,g1⟩:=id K
  go_wp2_with fail
  refine (ce _ T).mono ?_
  rintro e w2 ⟨gR,capR,rfl,R,hgR,hb⟩
  replace C:=C.kept hb
  replace B:=bthen B hb
  replace T:=T.kept hb
  replace K:=K.kept hb
  clear hb hgR r0 r1 g0 g1 c0 c1 c2 c3 c4 c5 c6 c7 c8 c9 c10 c11 c12 c13 c14
  obtain ⟨⟨_,c0,c1,c2,c3,c4,c5,c6,c7,c8,c9,c10,c11,c12,c13⟩,c14⟩:=id C
  obtain ⟨_,r0,r1,g0,g1⟩:=id K
  have rc:=(R.c x xn1).trans hu
  have rd:=(R.c (x+1) xn).trans hv
  have k0:=cell_regrown c0
  have k1:=cell_regrown c1
  have k2:=cell_regrown c2
  have k3:=cell_regrown c3
  have k4:=cell_regrown c4
  have k5:=cell_regrown c5
  have k6:=cell_regrown c6
  have k7:=cell_regrown c7
  have k8:=cell_regrown c8
  have k9:=cell_regrown c9
  have k10:=cell_regrown c10
  have k11:=cell_regrown c11
  have k12:=cell_regrown c12
  have k13:=cell_regrown c13
  have k14:=cell_regrown c14
  have kr:=cell_regrown rc
  have ks:=cell_regrown rd
  clear ce R hu hv
  go_wp2
  refine Qt.wp_region_below_tail 12 (by kernel_rfl) (by kernel_rfl) ?_
  simp only [List.take_succ_cons,List.take_zero,List.drop_succ_cons,List.drop_zero]
  repeat (quiet_step (fail))
  refine wpQuiet_nil ?_
  intro _ hw'
  obtain ⟨⟨dq,osq⟩,hw''⟩:=hw'
  subst hw''
  have hb:=below_regrown w2 dq osq
  generalize Go.Sort.grow (redrawn w2 dq) osq=w9 at hb ⊢
  replace K:=K.kept hb
  replace B:=bthen B hb
  obtain ⟨_,r0,r1,g0,g1⟩:=id K
  go_wp2
  refine bodyPost_ret (v:=.agg #[.int .i64 a,.int .i64 b]) (by simp [results,Tryz.results50,go_sem, *]) rfl ⟨rfl,?_⟩
  exact bset (bset B (by omega) _ _) (by omega) _ _

end Go.Proofs.YtoilomigceijaaaGreatDoor.Ip

namespace Go.Proofs.YtoilomigceijaaaGreatDoor.Ip
open Go.RowKit Bn Bx Cp Am Fp Ap Cm Em Ep Rk Hp

set_option maxHeartbeats 2000000

set_option maxRecDepth 100000 in
theorem fquarter_any (c:CalZ)(y q a b:Int)(w:World)(ok:CalOk c)(y0:1601≤y)(y1:y≤9997)(q0:1≤q)(q1:q≤4)(ha:a=pend c y (per c*(q - 1) / 4)+1)(hb':b=pend c y (per c*q / 4))(hm:c.nm.size≤maxLen)(T:FTab w) :
  Calls Tryz.prog 49 #[.agg #[.string c.nm,.int .i64 c.k,.int .i64 c.d,.int .i64 c.m,.int .i64 c.s,.int .i64 c.sh,.int .i64 c.p0,.int .i64 c.p1,.int .i64 c.p2,.int .i64 c.cy,.int .i64 c.ex,.int .i64 c.fi,.int .i64 c.la,.int .i64 c.po,.int .i64 y],.int .i64 q] w fun e w'=>e= .returned (.agg #[.int .i64 a,.int .i64 b])∧Below w.heap.size w w':=by
 have C:=FisIn.new w c y 67
 have B:=balloc (Below.refl _ w) (.cells #[.string c.nm,.int .i64 c.k,.int .i64 c.d,.int .i64 c.m,.int .i64 c.s,.int .i64 c.sh,.int .i64 c.p0,.int .i64 c.p1,.int .i64 c.p2,.int .i64 c.cy,.int .i64 c.ex,.int .i64 c.fi,.int .i64 c.la,.int .i64 c.po,.int .i64 y] 67)
 replace T:=T.alloc (.cells #[.string c.nm,.int .i64 c.k,.int .i64 c.d,.int .i64 c.m,.int .i64 c.s,.int .i64 c.sh,.int .i64 c.p0,.int .i64 c.p1,.int .i64 c.p2,.int .i64 c.cy,.int .i64 c.ex,.int .i64 c.fi,.int .i64 c.la,.int .i64 c.po,.int .i64 y] 67)
 have qa:=quarter_at ok.1 (q - 1) (by omega) (by omega)
 have qb:=quarter_at ok.1 q (by omega) (by omega)
 have qs:=qa.2.2.2.2 (by omega)
 rw [show q - 1+1=q by omega] at qs
 have pb:=per_bd ok.1
 obtain ⟨u,hu⟩:∃ u,u=per c*(q - 1) / 4:=⟨_,rfl⟩
 obtain ⟨v,hv⟩:∃ v,v=per c*q / 4:=⟨_,rfl⟩
 rw [← hu] at ha qa qs
 rw [← hv] at hb' qb qs
 obtain ⟨x,hx⟩:∃ x,x=pend c y (u+1):=⟨_,rfl⟩
 obtain ⟨z,hz⟩:∃ z,z=pend c y (v - 1)+1:=⟨_,rfl⟩
 have ct1:=fun w T=>periodsTo_any c y (q - 1) u w ok y0 y1 (by omega) (by omega) hu hm T
 have ct2:=fun w T=>fperiod_any c y (u+1) a x w ok y0 y1 (by omega) (by omega) (by rw [ha,show u+1 - 1=u by omega]) hx hm T
 have ct3:=fun w T=>periodsTo_any c y q v w ok y0 y1 (by omega) (by omega) hv hm T
 have ct4:=fun w T=>fperiod_any c y v z b w ok y0 y1 (by omega) (by omega) hz hb' hm T
 have u0:0≤u∧u≤52:=by omega
 have v0:0≤v∧v≤52:=by omega
 obtain ⟨u0,u1⟩:=u0
 obtain ⟨v0,v1⟩:=v0
 clear ok ha hb' qa qb qs pb hu hv hx hz
 have hw1:IntKind.i64.wrap (q - 1)=q - 1:=by rw [IntWalk.i64_in _ (by omega)]
 have hw2:IntKind.i64.wrap (u+1)=u+1:=by rw [IntWalk.i64_in _ (by omega)]
 have K:=Pr.Two.new (w.alloc (.cells #[.string c.nm,.int .i64 c.k,.int .i64 c.d,.int .i64 c.m,.int .i64 c.s,.int .i64 c.sh,.int .i64 c.p0,.int .i64 c.p1,.int .i64 c.p2,.int .i64 c.cy,.int .i64 c.ex,.int .i64 c.fi,.int .i64 c.la,.int .i64 c.po,.int .i64 y] 67)) (.int .i64 0) (.int .i64 0) 26
 replace C:=C.alloc (.cells #[.int .i64 0,.int .i64 0] 26)
 replace B:=balloc B (.cells #[.int .i64 0,.int .i64 0] 26)
 replace T:=T.alloc (.cells #[.int .i64 0,.int .i64 0] 26)
 have zz:((w.alloc (.cells #[.string c.nm,.int .i64 c.k,.int .i64 c.d,.int .i64 c.m,.int .i64 c.s,.int .i64 c.sh,.int .i64 c.p0,.int .i64 c.p1,.int .i64 c.p2,.int .i64 c.cy,.int .i64 c.ex,.int .i64 c.fi,.int .i64 c.la,.int .i64 c.po,.int .i64 y] 67)).alloc (.cells #[.int .i64 0,.int .i64 0] 26)).heap.size=w.heap.size+2:=by simp
 rw [World.size_alloc] at K
 go_enter Tryz.func49,Tryz.ntmps49
 go_upto_region 1 with fail
 generalize (w.alloc (.cells #[.string c.nm,.int .i64 c.k,.int .i64 c.d,.int .i64 c.m,.int .i64 c.s,.int .i64 c.sh,.int .i64 c.p0,.int .i64 c.p1,.int .i64 c.p2,.int .i64 c.cy,.int .i64 c.ex,.int .i64 c.fi,.int .i64 c.la,.int .i64 c.po,.int .i64 y] 67)).alloc (.cells #[.int .i64 0,.int .i64 0] 26)=W0 at *
 obtain ⟨⟨_,c0,c1,c2,c3,c4,c5,c6,c7,c8,c9,c10,c11,c12,c13⟩,c14⟩:=id C
 obtain ⟨_,r0,r1,g0,g1⟩:=id K
 have qA:=fun d os=>Calls.regrown_of (ct1 (Go.Sort.grow (redrawn W0 d) os) (T.kept (below_regrown W0 d os)))
 have qB:=fun d os=>Calls.regrown_of (ct2 (Go.Sort.grow (redrawn W0 d) os) (T.kept (below_regrown W0 d os)))
 have qC:=fun d os=>Calls.regrown_of (ct3 (Go.Sort.grow (redrawn W0 d) os) (T.kept (below_regrown W0 d os)))
 have qD:=fun d os=>Calls.regrown_of (ct4 (Go.Sort.grow (redrawn W0 d) os) (T.kept (below_regrown W0 d os)))
 have k0:=cell_regrown c0
 have k1:=cell_regrown c1
 have k2:=cell_regrown c2
 have k3:=cell_regrown c3
 have k4:=cell_regrown c4
 have k5:=cell_regrown c5
 have k6:=cell_regrown c6
 have k7:=cell_regrown c7
 have k8:=cell_regrown c8
 have k9:=cell_regrown c9
 have k10:=cell_regrown c10
 have k11:=cell_regrown c11
 have k12:=cell_regrown c12
 have k13:=cell_regrown c13
 have k14:=cell_regrown c14
 go_wp2
 refine Qt.wp_region_below_tail 15 (by kernel_rfl) (by kernel_rfl) ?_
 simp only [List.take_succ_cons,List.take_zero,List.drop_succ_cons,List.drop_zero]
 repeat (quiet_step (first|(with_reducible exact qA _ _)|(with_reducible exact qB _ _)|(with_reducible exact qC _ _)|(with_reducible exact qD _ _)))
 refine wpQuiet_nil ?_
 intro _ hw'
 obtain ⟨⟨dq,osq⟩,hw''⟩:=hw'
 subst hw''
 have hb:=below_regrown W0 dq osq
 generalize Go.Sort.grow (redrawn W0 dq) osq=w9 at hb ⊢
 replace K:=K.kept hb
 replace B:=bthen B hb
 obtain ⟨_,r0,r1,g0,g1⟩:=id K
 go_wp2
 refine bodyPost_ret (v:=.agg #[.int .i64 a,.int .i64 b]) (by simp [results,Tryz.results49,go_sem, *]) rfl ⟨rfl,?_⟩
 exact bset (bset B (by omega) _ _) (by omega) _ _

set_option maxRecDepth 100000 in
theorem fhalf_any (c:CalZ)(y q a b:Int)(w:World)(ok:CalOk c)(y0:1601≤y)(y1:y≤9997)(q0:1≤q)(q1:q≤2)(ha:a=pend c y (per c*(2*(q - 1)) / 4)+1)(hb':b=pend c y (per c*(2*q) / 4))(hm:c.nm.size≤maxLen)(T:FTab w) :
  Calls Tryz.prog 48 #[.agg #[.string c.nm,.int .i64 c.k,.int .i64 c.d,.int .i64 c.m,.int .i64 c.s,.int .i64 c.sh,.int .i64 c.p0,.int .i64 c.p1,.int .i64 c.p2,.int .i64 c.cy,.int .i64 c.ex,.int .i64 c.fi,.int .i64 c.la,.int .i64 c.po,.int .i64 y],.int .i64 q] w fun e w'=>e= .returned (.agg #[.int .i64 a,.int .i64 b])∧Below w.heap.size w w':=by
 have C:=FisIn.new w c y 67
 have B:=balloc (Below.refl _ w) (.cells #[.string c.nm,.int .i64 c.k,.int .i64 c.d,.int .i64 c.m,.int .i64 c.s,.int .i64 c.sh,.int .i64 c.p0,.int .i64 c.p1,.int .i64 c.p2,.int .i64 c.cy,.int .i64 c.ex,.int .i64 c.fi,.int .i64 c.la,.int .i64 c.po,.int .i64 y] 67)
 replace T:=T.alloc (.cells #[.string c.nm,.int .i64 c.k,.int .i64 c.d,.int .i64 c.m,.int .i64 c.s,.int .i64 c.sh,.int .i64 c.p0,.int .i64 c.p1,.int .i64 c.p2,.int .i64 c.cy,.int .i64 c.ex,.int .i64 c.fi,.int .i64 c.la,.int .i64 c.po,.int .i64 y] 67)
 obtain ⟨x,hx⟩:∃ x,x=pend c y (per c*(q*2 - 2+1) / 4):=⟨_,rfl⟩
 obtain ⟨z,hz⟩:∃ z,z=pend c y (per c*(q*2 - 1) / 4)+1:=⟨_,rfl⟩
 have ct1:=fun w T=>fquarter_any c y (q*2 - 2+1) a x w ok y0 y1 (by omega) (by omega) (by rw [ha,show q*2 - 2+1 - 1=2*(q - 1) by omega]) hx hm T
 have ct2:=fun w T=>fquarter_any c y (q*2) z b w ok y0 y1 (by omega) (by omega) hz (by rw [hb',show q*2=2*q by omega]) hm T
 clear ok ha hb' hx hz
 have hw1:IntKind.i64.wrap (q*2 - 2)=q*2 - 2:=by rw [IntWalk.i64_in _ (by omega)]
 have hw2:IntKind.i64.wrap (q*2 - 2+1)=q*2 - 2+1:=by rw [IntWalk.i64_in _ (by omega)]
 have K:=Pr.Two.new (w.alloc (.cells #[.string c.nm,.int .i64 c.k,.int .i64 c.d,.int .i64 c.m,.int .i64 c.s,.int .i64 c.sh,.int .i64 c.p0,.int .i64 c.p1,.int .i64 c.p2,.int .i64 c.cy,.int .i64 c.ex,.int .i64 c.fi,.int .i64 c.la,.int .i64 c.po,.int .i64 y] 67)) (.int .i64 0) (.int .i64 0) 26
 replace C:=C.alloc (.cells #[.int .i64 0,.int .i64 0] 26)
 replace B:=balloc B (.cells #[.int .i64 0,.int .i64 0] 26)
 replace T:=T.alloc (.cells #[.int .i64 0,.int .i64 0] 26)
 have zz:((w.alloc (.cells #[.string c.nm,.int .i64 c.k,.int .i64 c.d,.int .i64 c.m,.int .i64 c.s,.int .i64 c.sh,.int .i64 c.p0,.int .i64 c.p1,.int .i64 c.p2,.int .i64 c.cy,.int .i64 c.ex,.int .i64 c.fi,.int .i64 c.la,.int .i64 c.po,.int .i64 y] 67)).alloc (.cells #[.int .i64 0,.int .i64 0] 26)).heap.size=w.heap.size+2:=by simp
 rw [World.size_alloc] at K
 go_enter Tryz.func48,Tryz.ntmps48
 go_upto_region 1 with fail
 generalize (w.alloc (.cells #[.string c.nm,.int .i64 c.k,.int .i64 c.d,.int .i64 c.m,.int .i64 c.s,.int .i64 c.sh,.int .i64 c.p0,.int .i64 c.p1,.int .i64 c.p2,.int .i64 c.cy,.int .i64 c.ex,.int .i64 c.fi,.int .i64 c.la,.int .i64 c.po,.int .i64 y] 67)).alloc (.cells #[.int .i64 0,.int .i64 0] 26)=W0 at *
 obtain ⟨⟨_,c0,c1,c2,c3,c4,c5,c6,c7,c8,c9,c10,c11,c12,c13⟩,c14⟩:=id C
 obtain ⟨_,r0,r1,g0,g1⟩:=id K
 have qA:=fun d os=>Calls.regrown_of (ct1 (Go.Sort.grow (redrawn W0 d) os) (T.kept (below_regrown W0 d os)))
 have qB:=fun d os=>Calls.regrown_of (ct2 (Go.Sort.grow (redrawn W0 d) os) (T.kept (below_regrown W0 d os)))
 have k0:=cell_regrown c0
 have k1:=cell_regrown c1
 have k2:=cell_regrown c2
 have k3:=cell_regrown c3
 have k4:=cell_regrown c4
 have k5:=cell_regrown c5
 have k6:=cell_regrown c6
 have k7:=cell_regrown c7
 have k8:=cell_regrown c8
 have k9:=cell_regrown c9
 have k10:=cell_regrown c10
 have k11:=cell_regrown c11
 have k12:=cell_regrown c12
 have k13:=cell_regrown c13
 have k14:=cell_regrown c14
 go_wp2
 refine Qt.wp_region_below_tail 11 (by kernel_rfl) (by kernel_rfl) ?_
 simp only [List.take_succ_cons,List.take_zero,List.drop_succ_cons,List.drop_zero]
 repeat (quiet_step (first|(with_reducible exact qA _ _)|(with_reducible exact qB _ _)))
 refine wpQuiet_nil ?_
 intro _ hw'
 obtain ⟨⟨dq,osq⟩,hw''⟩:=hw'
 subst hw''
 have hb:=below_regrown W0 dq osq
 generalize Go.Sort.grow (redrawn W0 dq) osq=w9 at hb ⊢
 replace K:=K.kept hb
 replace B:=bthen B hb
 obtain ⟨_,r0,r1,g0,g1⟩:=id K
 go_wp2
 refine bodyPost_ret (v:=.agg #[.int .i64 a,.int .i64 b]) (by simp [results,Tryz.results48,go_sem, *]) rfl ⟨rfl,?_⟩
 exact bset (bset B (by omega) _ _) (by omega) _ _

end Go.Proofs.YtoilomigceijaaaGreatDoor.Ip

namespace Go.Proofs.YtoilomigceijaaaGreatDoor.Ip
open Go.RowKit Bn Bx Cp Am Fp Ap Cm Em Ep Rk Hp

set_option maxHeartbeats 2000000

set_option maxRecDepth 100000 in
theorem fmonthOf_any (c:CalZ)(y i j a b:Int)(P:Nat)(w:World)(ok:CalOk c)(y0:1601≤y)(y1:y≤9997)(k6:c.k=6)(hP:P+1≤perN c)(i0:wsum c y P<i)(i1:i≤wsum c y (P+1))(hj:j=i - wsum c y P)
  (ha:a=pend c y (P:Int)+1) (hb':b=pend c y ((P:Int)+1)) (hm:c.nm.size≤maxLen) (T:FTab w) :
  Calls Tryz.prog 100 #[.agg #[.string c.nm,.int .i64 c.k,.int .i64 c.d,.int .i64 c.m,.int .i64 c.s,.int .i64 c.sh,.int .i64 c.p0,.int .i64 c.p1,.int .i64 c.p2,.int .i64 c.cy,.int .i64 c.ex,.int .i64 c.fi,.int .i64 c.la,.int .i64 c.po,.int .i64 y],.int .i64 i] w fun e w'=>e= .returned (.tuple #[.agg #[.int .i64 a,.int .i64 b],.int .i64 j])∧Below w.heap.size w w':=by
 have C:=FisIn.new w c y 67
 have B:=balloc (Below.refl _ w) (.cells #[.string c.nm,.int .i64 c.k,.int .i64 c.d,.int .i64 c.m,.int .i64 c.s,.int .i64 c.sh,.int .i64 c.p0,.int .i64 c.p1,.int .i64 c.p2,.int .i64 c.cy,.int .i64 c.ex,.int .i64 c.fi,.int .i64 c.la,.int .i64 c.po,.int .i64 y] 67)
 replace T:=T.alloc (.cells #[.string c.nm,.int .i64 c.k,.int .i64 c.d,.int .i64 c.m,.int .i64 c.s,.int .i64 c.sh,.int .i64 c.p0,.int .i64 c.p1,.int .i64 c.p2,.int .i64 c.cy,.int .i64 c.ex,.int .i64 c.fi,.int .i64 c.la,.int .i64 c.po,.int .i64 y] 67)
 obtain ⟨s5,h12⟩:=(sh5 ok.1).1 k6
 have e12:perN c=12:=by unfold perN;rw [h12];rfl
 have P12:P<12:=by omega
 have cw:=fun w T=>Weeks_ok c y 12 w ok y0 y1 (by omega) hm T
 have cp:=fun w T=>fperiod_any c y ((P:Int)+1) a b w ok y0 y1 (by omega) (by omega) (by rw [ha,show (P:Int)+1 - 1=P by omega]) hb' hm T
 have nb:=nwk_bd ok.1 y0 y1
 have i60:i≤60:=by
  have:=wsum_step ok.1 y0 y1 (a:=P+1) (b:=perN c) (by omega) (by omega)
  unfold nwk at nb;omega
 have HJ:Hid (j=i - wsum c y P):=Lib.hid hj
 have FA:Hid (∀ k:Nat,k≤P→∃ d s:Int,d=fwk c y k∧s=wsum c y k∧s+d=wsum c y (k+1)∧0≤s∧s<i∧1≤d∧d≤6∧(k<P→d<i - s)∧(k=P→i - s≤d)) :=
  Lib.hid (fun k hk=>by
   have wb:=wks_bd ok.1 y0 y1 (p:=(k:Int)+1) (by omega) (by omega)
   have b0:=wsum_step ok.1 y0 y1 (a:=0) (b:=k) (by omega) (by omega)
   have b1:=wsum_step ok.1 y0 y1 (a:=k) (b:=P) (by omega) (by omega)
   rw [show wsum c y 0=0 from rfl] at b0
   have ws:wsum c y (k+1)=wsum c y k+wks c y ((k:Int)+1):=rfl
   refine ⟨fwk c y k,wsum c y k,rfl,rfl,rfl,by omega,by omega,wb.1,wb.2.1,fun q=>?_,fun q=>?_⟩
   ·have b2:=wsum_step ok.1 y0 y1 (a:=k+1) (b:=P) (by omega) (by omega)
    show wks c y ((k:Int)+1) < _
    omega
   ·subst q
    show _≤wks c y ((k:Int)+1)
    omega)
 clear ok k6 s5 h12 e12 hP i1 hj ha hb' nb
 have K:=Pr.Two.new (w.alloc (.cells #[.string c.nm,.int .i64 c.k,.int .i64 c.d,.int .i64 c.m,.int .i64 c.s,.int .i64 c.sh,.int .i64 c.p0,.int .i64 c.p1,.int .i64 c.p2,.int .i64 c.cy,.int .i64 c.ex,.int .i64 c.fi,.int .i64 c.la,.int .i64 c.po,.int .i64 y] 67)) (.int .i64 0) (.int .i64 0) 26
 replace C:=C.alloc (.cells #[.int .i64 0,.int .i64 0] 26)
 replace B:=balloc B (.cells #[.int .i64 0,.int .i64 0] 26)
 replace T:=T.alloc (.cells #[.int .i64 0,.int .i64 0] 26)
 have zz:((w.alloc (.cells #[.string c.nm,.int .i64 c.k,.int .i64 c.d,.int .i64 c.m,.int .i64 c.s,.int .i64 c.sh,.int .i64 c.p0,.int .i64 c.p1,.int .i64 c.p2,.int .i64 c.cy,.int .i64 c.ex,.int .i64 c.fi,.int .i64 c.la,.int .i64 c.po,.int .i64 y] 67)).alloc (.cells #[.int .i64 0,.int .i64 0] 26)).heap.size=w.heap.size+2:=by simp
 rw [World.size_alloc] at K
 go_enter Tryz.func100,Tryz.ntmps100
 go_upto_region 1 with fail
 generalize (w.alloc (.cells #[.string c.nm,.int .i64 c.k,.int .i64 c.d,.int .i64 c.m,.int .i64 c.s,.int .i64 c.sh,.int .i64 c.p0,.int .i64 c.p1,.int .i64 c.p2,.int .i64 c.cy,.int .i64 c.ex,.int .i64 c.fi,.int .i64 c.la,.int .i64 c.po,.int .i64 y] 67)).alloc (.cells #[.int .i64 0,.int .i64 0] 26)=W0 at *
 obtain ⟨⟨_,c0,c1,c2,c3,c4,c5,c6,c7,c8,c9,c10,c11,c12,c13⟩,c14⟩:=id C
 obtain ⟨_,r0,r1,g0,g1⟩:=id K
 go_wp2_with fail
 refine (cw _ T).mono ?_
 rintro e w1 ⟨gR,capR,rfl,R,hgR,hb⟩
 replace C:=C.kept hb
 replace B:=bthen B hb
 replace T:=T.kept hb
 replace K:=K.kept hb
 clear hb hgR r0 r1 g0 g1 c0 c1 c2 c3 c4 c5 c6 c7 c8 c9 c10 c11 c12 c13 c14
 obtain ⟨⟨_,c0,c1,c2,c3,c4,c5,c6,c7,c8,c9,c10,c11,c12,c13⟩,c14⟩:=id C
 obtain ⟨_,r0,r1,g0,g1⟩:=id K
 clear cw
 go_wp2
 go_loop [1,8] (fun X Y=>∃ k:Nat,k≤P∧Y= .int .i64 ((k:Int)+1)∧∃ m:Int,X= .int .i64 m∧Hid (m=i - wsum c y k)) (fun _ Y=>(54 - intOf Y).toNat)
 case atStart=>exact ⟨0,by omega,rfl,i,rfl,Lib.hid (by simp [wsum])⟩
 case round =>
  obtain ⟨k,hk,rfl,m,rfl,hm'⟩:=hrel
  obtain ⟨d,s,e1,e2,e3,s0,s1,d0,d1,g1,g2⟩:=FA.out k hk
  have em:m=i - s:=by rw [hm'.out,e2]
  have rc:=R.c k (by omega)
  rw [← e1] at rc
  have pp:(0:Int)≤(k:Int):=by omega
  have bp:(k:Int)<12:=by omega
  have E3:Hid (m - d=i - wsum c y (k+1)):=Lib.hid (by rw [← e3];omega)
  by_cases hlt:k<P
  ·have g3:=g1 hlt
   rw [← em] at g3
   have m0:0≤m∧m≤60:=by omega
   obtain ⟨m0,m1⟩:=m0
   clear e1 e2 e3 g1 g2 em hm'
   go_wp2
   go_round
   case rel=>exact ⟨k+1,by omega,by go_num,_,rfl,E3⟩
   case measure=>simp [intOf];omega
  ·obtain rfl:k=P:=by omega
   have g3:=g2 rfl
   rw [← em] at g3
   have ej:m=j:=by rw [hm'.out,HJ.out]
   have dg:decide (d<m)=false:=decide_eq_false (by omega)
   clear e1 e2 e3 g1 g2 em hm' E3
   subst ej
   go_wp2_with fail
   refine (cp _ T).mono ?_
   rintro e w9 ⟨rfl,hb⟩
   replace K:=K.kept hb
   replace B:=bthen B hb
   clear hb cp r0 r1 g0 g1 c0 c1 c2 c3 c4 c5 c6 c7 c8 c9 c10 c11 c12 c13 c14
   obtain ⟨_,r0,r1,g0,g1⟩:=id K
   go_wp2
   refine bodyPost_ret (v:=.tuple #[.agg #[.int .i64 a,.int .i64 b],.int .i64 m]) (by simp [results,Tryz.results100,go_sem, *]) rfl ⟨rfl,?_⟩
   exact bset (bset B (by omega) _ _) (by omega) _ _

set_option maxRecDepth 100000 in
theorem fweek_any (c:CalZ)(y i a b:Int)(w:World)(ok:CalOk c)(y0:1601≤y)(y1:y≤9997)(i0:1≤i)(i1:i≤nwk c y)(ha:a=wend c y (i - 1)+1)(hb':b=wend c y i)(hm:c.nm.size≤maxLen)(T:FTab w) :
  Calls Tryz.prog 51 #[.agg #[.string c.nm,.int .i64 c.k,.int .i64 c.d,.int .i64 c.m,.int .i64 c.s,.int .i64 c.sh,.int .i64 c.p0,.int .i64 c.p1,.int .i64 c.p2,.int .i64 c.cy,.int .i64 c.ex,.int .i64 c.fi,.int .i64 c.la,.int .i64 c.po,.int .i64 y],.int .i64 i] w fun e w'=>e= .returned (.agg #[.int .i64 a,.int .i64 b])∧Below w.heap.size w w':=by
 have C:=FisIn.new w c y 67
 have B:=balloc (Below.refl _ w) (.cells #[.string c.nm,.int .i64 c.k,.int .i64 c.d,.int .i64 c.m,.int .i64 c.s,.int .i64 c.sh,.int .i64 c.p0,.int .i64 c.p1,.int .i64 c.p2,.int .i64 c.cy,.int .i64 c.ex,.int .i64 c.fi,.int .i64 c.la,.int .i64 c.po,.int .i64 y] 67)
 replace T:=T.alloc (.cells #[.string c.nm,.int .i64 c.k,.int .i64 c.d,.int .i64 c.m,.int .i64 c.s,.int .i64 c.sh,.int .i64 c.p0,.int .i64 c.p1,.int .i64 c.p2,.int .i64 c.cy,.int .i64 c.ex,.int .i64 c.fi,.int .i64 c.la,.int .i64 c.po,.int .i64 y] 67)
 have nb:=nwk_bd ok.1 y0 y1
 have pb:=per_bd ok.1
 obtain ⟨x,hx⟩:∃ x,x=pend c y 0+1:=⟨_,rfl⟩
 obtain ⟨z,hz⟩:∃ z,z=pend c y (per c):=⟨_,rfl⟩
 have cy:=fun w T=>fyear_any c y 1 x z w ok y0 y1 hx hz hm T
 have bd0:=pend_bd ok.1 y0 y1 (p:=0) (by omega) (by omega)
 have bd1:=pend_bd ok.1 y0 y1 (p:=per c) (by omega) (by omega)
 obtain ⟨x0,x1⟩:0≤x∧x≤3068037:=by omega
 obtain ⟨z0,z1⟩:0≤z∧z≤3068037:=by omega
 have i60:i≤60:=by omega
 by_cases k6:c.k=6
 ·obtain ⟨P,hP,w0,w1',e1,e2,e3,_⟩:=wend_step ok.1 y0 y1 i0 i1
  obtain ⟨s5,h12⟩:=(sh5 ok.1).1 k6
  obtain ⟨j,hj⟩:∃ j,j=i - wsum c y P:=⟨_,rfl⟩
  obtain ⟨p,hp⟩:∃ p,p=pend c y (P:Int)+1:=⟨_,rfl⟩
  obtain ⟨q,hq⟩:∃ q,q=pend c y ((P:Int)+1):=⟨_,rfl⟩
  have pe:=perN_is ok.1
  have bdp:=pend_bd ok.1 y0 y1 (p:=(P:Int)) (by omega) (by omega)
  have bdq:=pend_bd ok.1 y0 y1 (p:=(P:Int)+1) (by omega) (by omega)
  have wb:=wks_bd ok.1 y0 y1 (p:=(P:Int)+1) (by omega) (by omega)
  have ws:wsum c y (P+1)=wsum c y P+wks c y ((P:Int)+1):=rfl
  have cb:=fun w T=>byMonths_any c y true w (by rw [s5];rfl) T
  have co:=fun w T=>fmonthOf_any c y i j p q P w ok y0 y1 k6 hP w0 w1' hj hp hq hm T
  obtain rfl:a=p+(j - 1)*7:=by rw [ha,e1,hp,hj];omega
  have O:(p+(j - 1)*7+7 - 1≤q∧b=p+(j - 1)*7+7 - 1)∨(q<p+(j - 1)*7+7 - 1∧b=q):=by
   have:b=min (p+(j - 1)*7+7 - 1) q:=by rw [hb',e2,← hq,e1,hp,hj];omega
   omega
  obtain ⟨p0,p1⟩:0≤p∧p≤3068037:=by omega
  obtain ⟨q0,q1⟩:0≤q∧q≤3068037:=by omega
  obtain ⟨j0,j1⟩:1≤j∧j≤6:=by omega
  clear ok k6 s5 h12 ha hb' hx hz hj hp hq e1 e2 e3 nb pb bd0 bd1 bdp bdq wb ws w0 w1' i1 pe
  rcases O with ⟨hle,rfl⟩|⟨hle,rfl⟩
  all_goals
   have K:=Pr.Two.new (w.alloc (.cells #[.string c.nm,.int .i64 c.k,.int .i64 c.d,.int .i64 c.m,.int .i64 c.s,.int .i64 c.sh,.int .i64 c.p0,.int .i64 c.p1,.int .i64 c.p2,.int .i64 c.cy,.int .i64 c.ex,.int .i64 c.fi,.int .i64 c.la,.int .i64 c.po,.int .i64 y] 67)) (.int .i64 0) (.int .i64 0) 26
   replace C:=C.alloc (.cells #[.int .i64 0,.int .i64 0] 26)
   replace B:=balloc B (.cells #[.int .i64 0,.int .i64 0] 26)
   replace T:=T.alloc (.cells #[.int .i64 0,.int .i64 0] 26)
   have zz:((w.alloc (.cells #[.string c.nm,.int .i64 c.k,.int .i64 c.d,.int .i64 c.m,.int .i64 c.s,.int .i64 c.sh,.int .i64 c.p0,.int .i64 c.p1,.int .i64 c.p2,.int .i64 c.cy,.int .i64 c.ex,.int .i64 c.fi,.int .i64 c.la,.int .i64 c.po,.int .i64 y] 67)).alloc (.cells #[.int .i64 0,.int .i64 0] 26)).heap.size=w.heap.size+2:=by simp
   rw [World.size_alloc] at K
   go_enter Tryz.func51,Tryz.ntmps51
   go_upto_region 1 with fail
   generalize (w.alloc (.cells #[.string c.nm,.int .i64 c.k,.int .i64 c.d,.int .i64 c.m,.int .i64 c.s,.int .i64 c.sh,.int .i64 c.p0,.int .i64 c.p1,.int .i64 c.p2,.int .i64 c.cy,.int .i64 c.ex,.int .i64 c.fi,.int .i64 c.la,.int .i64 c.po,.int .i64 y] 67)).alloc (.cells #[.int .i64 0,.int .i64 0] 26)=W0 at *
   obtain ⟨⟨_,c0,c1,c2,c3,c4,c5,c6,c7,c8,c9,c10,c11,c12,c13⟩,c14⟩:=id C
   obtain ⟨_,r0,r1,g0,g1⟩:=id K
   go_wp2_with fail
   refine (cy _ T).mono ?_
   rintro e w1 ⟨rfl,hb⟩
   replace C:=C.kept hb
   replace B:=bthen B hb
   replace T:=T.kept hb
   replace K:=K.kept hb
   clear hb r0 r1 g0 g1 c0 c1 c2 c3 c4 c5 c6 c7 c8 c9 c10 c11 c12 c13 c14
   obtain ⟨⟨_,c0,c1,c2,c3,c4,c5,c6,c7,c8,c9,c10,c11,c12,c13⟩,c14⟩:=id C
   obtain ⟨_,r0,r1,g0,g1⟩:=id K
   have A:=Pr.Two.new w1 (.int .i64 x) (.int .i64 z) 26
   replace C:=C.alloc (.cells #[.int .i64 x,.int .i64 z] 26)
   replace K:=K.alloc (.cells #[.int .i64 x,.int .i64 z] 26)
   replace B:=balloc B (.cells #[.int .i64 x,.int .i64 z] 26)
   replace T:=T.alloc (.cells #[.int .i64 x,.int .i64 z] 26)
   clear c0 c1 c2 c3 c4 c5 c6 c7 c8 c9 c10 c11 c12 c13 c14 
   obtain ⟨⟨_,c0,c1,c2,c3,c4,c5,c6,c7,c8,c9,c10,c11,c12,c13⟩,c14⟩:=id C
   go_wp2_with fail
   refine (cb _ T).mono ?_
   rintro e w5 ⟨rfl,hb⟩
   replace C:=C.kept hb
   replace K:=K.kept hb
   replace A:=A.kept hb
   replace B:=bthen B hb
   replace T:=T.kept hb
   clear hb r0 r1 g0 g1
   clear c0 c1 c2 c3 c4 c5 c6 c7 c8 c9 c10 c11 c12 c13 c14 
   obtain ⟨⟨_,c0,c1,c2,c3,c4,c5,c6,c7,c8,c9,c10,c11,c12,c13⟩,c14⟩:=id C
   obtain ⟨_,t0,t1,f0,f1⟩:=id A
   go_wp2_with fail
   refine (co _ T).mono ?_
   rintro e w6 ⟨rfl,hb⟩
   replace K:=K.kept hb
   replace A:=A.kept hb
   replace B:=bthen B hb
   clear hb t0 t1 f0 f1 cy cb co T
   clear c0 c1 c2 c3 c4 c5 c6 c7 c8 c9 c10 c11 c12 c13 c14 
   obtain ⟨_,r0,r1,g0,g1⟩:=id K
   obtain ⟨_,t0,t1,f0,f1⟩:=id A
   go_wp2
   have l1:w.heap.size≤w1.heap.size:=by omega
   have n1:¬ w.heap.size+1=w1.heap.size:=by omega
   have n2:¬ w1.heap.size=w.heap.size+1:=by omega
   refine bodyPost_ret (v:=.agg #[.int .i64 (p+(j - 1)*7),.int .i64 _]) (by simp [results,Tryz.results51,go_sem, *]) rfl ⟨rfl,?_⟩
   exact bset (bset (bset (bset B l1 _ _) l1 _ _) (by omega) _ _) (by omega) _ _
 ·have n5:=(sh5 ok.1).2 k6
  have cb:=fun w T=>byMonths_any c y false w (beq_eq_false_iff_ne.2 n5).symm T
  have we:=wend_weeks ok.1 k6 y0 y1 (i:=i) (by omega) i1
  have we1:=wend_weeks ok.1 k6 y0 y1 (i:=i - 1) (by omega) (by omega)
  have we2:=wend_weeks ok.1 k6 y0 y1 (i:=nwk c y) (by omega) (by omega)
  rw [wend_last ok.1 y0 y1] at we2
  obtain rfl:a=x+(i - 1)*7:=by omega
  obtain rfl:b=x+(i - 1)*7+7 - 1:=by omega
  have le:x+(i - 1)*7+7 - 1≤z:=by omega
  clear ok k6 n5 ha hb' hx hz nb pb bd0 bd1 i1 we we1 we2
  have K:=Pr.Two.new (w.alloc (.cells #[.string c.nm,.int .i64 c.k,.int .i64 c.d,.int .i64 c.m,.int .i64 c.s,.int .i64 c.sh,.int .i64 c.p0,.int .i64 c.p1,.int .i64 c.p2,.int .i64 c.cy,.int .i64 c.ex,.int .i64 c.fi,.int .i64 c.la,.int .i64 c.po,.int .i64 y] 67)) (.int .i64 0) (.int .i64 0) 26
  replace C:=C.alloc (.cells #[.int .i64 0,.int .i64 0] 26)
  replace B:=balloc B (.cells #[.int .i64 0,.int .i64 0] 26)
  replace T:=T.alloc (.cells #[.int .i64 0,.int .i64 0] 26)
  have zz:((w.alloc (.cells #[.string c.nm,.int .i64 c.k,.int .i64 c.d,.int .i64 c.m,.int .i64 c.s,.int .i64 c.sh,.int .i64 c.p0,.int .i64 c.p1,.int .i64 c.p2,.int .i64 c.cy,.int .i64 c.ex,.int .i64 c.fi,.int .i64 c.la,.int .i64 c.po,.int .i64 y] 67)).alloc (.cells #[.int .i64 0,.int .i64 0] 26)).heap.size=w.heap.size+2:=by simp
  rw [World.size_alloc] at K
  go_enter Tryz.func51,Tryz.ntmps51
  go_upto_region 1 with fail
  generalize (w.alloc (.cells #[.string c.nm,.int .i64 c.k,.int .i64 c.d,.int .i64 c.m,.int .i64 c.s,.int .i64 c.sh,.int .i64 c.p0,.int .i64 c.p1,.int .i64 c.p2,.int .i64 c.cy,.int .i64 c.ex,.int .i64 c.fi,.int .i64 c.la,.int .i64 c.po,.int .i64 y] 67)).alloc (.cells #[.int .i64 0,.int .i64 0] 26)=W0 at *
  obtain ⟨⟨_,c0,c1,c2,c3,c4,c5,c6,c7,c8,c9,c10,c11,c12,c13⟩,c14⟩:=id C
  obtain ⟨_,r0,r1,g0,g1⟩:=id K
  go_wp2_with fail
  refine (cy _ T).mono ?_
  rintro e w2 ⟨rfl,hb⟩
  replace C:=C.kept hb
  replace B:=bthen B hb
  replace T:=T.kept hb
  replace K:=K.kept hb
  clear hb r0 r1 g0 g1 c0 c1 c2 c3 c4 c5 c6 c7 c8 c9 c10 c11 c12 c13 c14
  obtain ⟨⟨_,c0,c1,c2,c3,c4,c5,c6,c7,c8,c9,c10,c11,c12,c13⟩,c14⟩:=id C
  obtain ⟨_,r0,r1,g0,g1⟩:=id K
  have A:=Pr.Two.new w2 (.int .i64 x) (.int .i64 z) 26
  replace C:=C.alloc (.cells #[.int .i64 x,.int .i64 z] 26)
  replace K:=K.alloc (.cells #[.int .i64 x,.int .i64 z] 26)
  replace B:=balloc B (.cells #[.int .i64 x,.int .i64 z] 26)
  replace T:=T.alloc (.cells #[.int .i64 x,.int .i64 z] 26)
  clear c0 c1 c2 c3 c4 c5 c6 c7 c8 c9 c10 c11 c12 c13 c14 
  obtain ⟨⟨_,c0,c1,c2,c3,c4,c5,c6,c7,c8,c9,c10,c11,c12,c13⟩,c14⟩:=id C
  go_wp2_with fail
  refine (cb _ T).mono ?_
  rintro e w5 ⟨rfl,hb⟩
  replace K:=K.kept hb
  replace A:=A.kept hb
  replace B:=bthen B hb
  clear hb r0 r1 g0 g1 cb cy T
  clear c0 c1 c2 c3 c4 c5 c6 c7 c8 c9 c10 c11 c12 c13 c14 
  obtain ⟨_,r0,r1,g0,g1⟩:=id K
  obtain ⟨_,t0,t1,f0,f1⟩:=id A
  go_wp2
  refine bodyPost_ret (v:=.agg #[.int .i64 (x+(i - 1)*7),.int .i64 (x+(i - 1)*7+7 - 1)]) (by simp [results,Tryz.results51,go_sem, *]) rfl ⟨rfl,?_⟩
  exact bset (bset B (by omega) _ _) (by omega) _ _

end Go.Proofs.YtoilomigceijaaaGreatDoor.Ip

namespace Go.Proofs.YtoilomigceijaaaGreatDoor.Ip
open Go.RowKit Bn Bx Cp Am Fp Ap Cm Em Ep Rk Hp

set_option maxHeartbeats 2000000

@[go_sem] theorem store_nilFunc {a:Addr} {P:Program} {w:World} (m:Mode):(store a .nilFunc m).run P w=stored P w a .nilFunc m:=run_store P w a _ m rfl
@[go_sem] theorem store_func {a:Addr} {P:Program} {w:World} (f:Fn) (x y:Array Value) (m:Mode):(store a (.func f x y) m).run P w=stored P w a (.func f x y) m:=run_store P w a _ m rfl
theorem uend_1 {c:CalZ}{y i:Int}(i0:1≤i)(i1:i≤ucount c y 1):uend c y 1 (i - 1)=pend c y 0∧uend c y 1 i=pend c y (per c):=by
 have e:ucount c y 1=1:=by simp [ucount]
 rw [e] at i1
 obtain rfl:i=1:=by omega
 constructor<;>simp [uend]
theorem uend_2 (c:CalZ)(y i:Int):uend c y 2 i=pend c y (per c*(2*i) / 4):=by simp [uend]
theorem uend_3 (c:CalZ)(y i:Int):uend c y 3 i=pend c y (per c*i / 4):=by simp [uend]
theorem uend_4 (c:CalZ)(y i:Int):uend c y 4 i=pend c y i:=by simp [uend]
theorem uend_5 (c:CalZ)(y i:Int):uend c y 5 i=wend c y i:=by simp [uend]
theorem ucount_is (c:CalZ)(y:Int):ucount c y 1=1∧ucount c y 2=2∧ucount c y 3=4∧ucount c y 4=per c∧ucount c y 5=nwk c y:=by simp [ucount]

set_option maxRecDepth 100000 in
theorem fspan_any (c:CalZ)(y L i a b:Int)(w:World)(ok:CalOk c)(y0:1601≤y)(y1:y≤9997)(hL:LevOk L)(i0:1≤i)(i1:i≤ucount c y L)(ha:a=uend c y L (i - 1)+1)(hb':b=uend c y L i)(hm:c.nm.size≤maxLen)(T:FTab w) :
  Calls Tryz.prog 25 #[.agg #[.string c.nm,.int .i64 c.k,.int .i64 c.d,.int .i64 c.m,.int .i64 c.s,.int .i64 c.sh,.int .i64 c.p0,.int .i64 c.p1,.int .i64 c.p2,.int .i64 c.cy,.int .i64 c.ex,.int .i64 c.fi,.int .i64 c.la,.int .i64 c.po,.int .i64 y],.int .i64 L,.int .i64 i] w fun e w'=>e= .returned (.agg #[.int .i64 a,.int .i64 b])∧Below w.heap.size w w':=by
 have C:=FisIn.new w c y 67
 have B:=balloc (Below.refl _ w) (.cells #[.string c.nm,.int .i64 c.k,.int .i64 c.d,.int .i64 c.m,.int .i64 c.s,.int .i64 c.sh,.int .i64 c.p0,.int .i64 c.p1,.int .i64 c.p2,.int .i64 c.cy,.int .i64 c.ex,.int .i64 c.fi,.int .i64 c.la,.int .i64 c.po,.int .i64 y] 67)
 replace T:=T.alloc (.cells #[.string c.nm,.int .i64 c.k,.int .i64 c.d,.int .i64 c.m,.int .i64 c.s,.int .i64 c.sh,.int .i64 c.p0,.int .i64 c.p1,.int .i64 c.p2,.int .i64 c.cy,.int .i64 c.ex,.int .i64 c.fi,.int .i64 c.la,.int .i64 c.po,.int .i64 y] 67)
 have O:L=1∨L=2∨L=3∨L=4∨L=5:=by unfold LevOk at hL;omega
 have uc:=ucount_is c y
 have ub:=ucount_bd (L:=L) ok.1 y0 y1
 have i60:i≤60:=by omega
 clear ub
 rcases O with rfl|rfl|rfl|rfl|rfl
 ·have cx:=fun w T=>fyear_any c y i a b w ok y0 y1 (by rw [ha,(uend_1 i0 i1).1]) (by rw [hb',(uend_1 i0 i1).2]) hm T
  clear ok hL i1 ha hb'
  have K:=Pr.Two.new (w.alloc (.cells #[.string c.nm,.int .i64 c.k,.int .i64 c.d,.int .i64 c.m,.int .i64 c.s,.int .i64 c.sh,.int .i64 c.p0,.int .i64 c.p1,.int .i64 c.p2,.int .i64 c.cy,.int .i64 c.ex,.int .i64 c.fi,.int .i64 c.la,.int .i64 c.po,.int .i64 y] 67)) (.int .i64 0) (.int .i64 0) 26
  replace C:=C.alloc (.cells #[.int .i64 0,.int .i64 0] 26)
  replace B:=balloc B (.cells #[.int .i64 0,.int .i64 0] 26)
  replace T:=T.alloc (.cells #[.int .i64 0,.int .i64 0] 26)
  have zz:((w.alloc (.cells #[.string c.nm,.int .i64 c.k,.int .i64 c.d,.int .i64 c.m,.int .i64 c.s,.int .i64 c.sh,.int .i64 c.p0,.int .i64 c.p1,.int .i64 c.p2,.int .i64 c.cy,.int .i64 c.ex,.int .i64 c.fi,.int .i64 c.la,.int .i64 c.po,.int .i64 y] 67)).alloc (.cells #[.int .i64 0,.int .i64 0] 26)).heap.size=w.heap.size+2:=by simp
  rw [World.size_alloc] at K
  go_enter Tryz.func25,Tryz.ntmps25
  go_upto_region 1 with fail
  generalize (w.alloc (.cells #[.string c.nm,.int .i64 c.k,.int .i64 c.d,.int .i64 c.m,.int .i64 c.s,.int .i64 c.sh,.int .i64 c.p0,.int .i64 c.p1,.int .i64 c.p2,.int .i64 c.cy,.int .i64 c.ex,.int .i64 c.fi,.int .i64 c.la,.int .i64 c.po,.int .i64 y] 67)).alloc (.cells #[.int .i64 0,.int .i64 0] 26)=W0 at *
  obtain ⟨⟨_,c0,c1,c2,c3,c4,c5,c6,c7,c8,c9,c10,c11,c12,c13⟩,c14⟩:=id C
  obtain ⟨_,r0,r1,g0,g1⟩:=id K
  clear zz
  go_wp2
  have FB:=Bn.Box.new W0 #[.nilFunc,.func (.func 47) #[] #[],.func (.func 48) #[] #[],.func (.func 49) #[] #[],.func (.func 50) #[] #[],.func (.func 51) #[] #[]] 95
  replace C:=C.alloc (.cells #[.nilFunc,.func (.func 47) #[] #[],.func (.func 48) #[] #[],.func (.func 49) #[] #[],.func (.func 50) #[] #[],.func (.func 51) #[] #[]] 95)
  replace K:=K.alloc (.cells #[.nilFunc,.func (.func 47) #[] #[],.func (.func 48) #[] #[],.func (.func 49) #[] #[],.func (.func 50) #[] #[],.func (.func 51) #[] #[]] 95)
  replace B:=balloc B (.cells #[.nilFunc,.func (.func 47) #[] #[],.func (.func 48) #[] #[],.func (.func 49) #[] #[],.func (.func 50) #[] #[],.func (.func 51) #[] #[]] 95)
  replace T:=T.alloc (.cells #[.nilFunc,.func (.func 47) #[] #[],.func (.func 48) #[] #[],.func (.func 49) #[] #[],.func (.func 50) #[] #[],.func (.func 51) #[] #[]] 95)
  generalize W0.alloc (.cells #[.nilFunc,.func (.func 47) #[] #[],.func (.func 48) #[] #[],.func (.func 49) #[] #[],.func (.func 50) #[] #[],.func (.func 51) #[] #[]] 95)=W8 at *
  clear c0 c1 c2 c3 c4 c5 c6 c7 c8 c9 c10 c11 c12 c13 c14 r0 r1 g0 g1
  obtain ⟨⟨_,c0,c1,c2,c3,c4,c5,c6,c7,c8,c9,c10,c11,c12,c13⟩,c14⟩:=id C
  have v1:=FB.cell 1 _ rfl
  have kv:=cell_regrown v1
  have qX:=fun d os=>Calls.regrown_of (cx (Go.Sort.grow (redrawn W8 d) os) (T.kept (below_regrown W8 d os)))
  have k0:=cell_regrown c0
  have k1:=cell_regrown c1
  have k2:=cell_regrown c2
  have k3:=cell_regrown c3
  have k4:=cell_regrown c4
  have k5:=cell_regrown c5
  have k6:=cell_regrown c6
  have k7:=cell_regrown c7
  have k8:=cell_regrown c8
  have k9:=cell_regrown c9
  have k10:=cell_regrown c10
  have k11:=cell_regrown c11
  have k12:=cell_regrown c12
  have k13:=cell_regrown c13
  have k14:=cell_regrown c14
  refine Qt.wp_region_below_tail 6 (by kernel_rfl) (by kernel_rfl) ?_
  simp only [List.take_succ_cons,List.take_zero,List.drop_succ_cons,List.drop_zero]
  repeat (quiet_step (exact qX _ _))
  refine wpQuiet_nil ?_
  intro _ hw'
  obtain ⟨⟨dq,osq⟩,hw''⟩:=hw'
  subst hw''
  have hb:=below_regrown W8 dq osq
  generalize Go.Sort.grow (redrawn W8 dq) osq=w9 at hb ⊢
  replace K:=K.kept hb
  replace B:=bthen B hb
  obtain ⟨_,r0,r1,g0,g1⟩:=id K
  go_wp2
  refine bodyPost_ret (v:=.agg #[.int .i64 a,.int .i64 b]) (by simp [results,Tryz.results25,go_sem, *]) rfl ⟨rfl,?_⟩
  exact bset (bset B (by omega) _ _) (by omega) _ _
 ·have cx:=fun w T=>fhalf_any c y i a b w ok y0 y1 i0 (by omega) (by rw [ha,uend_2]) (by rw [hb',uend_2]) hm T
  clear ok hL i1 ha hb'
  have K:=Pr.Two.new (w.alloc (.cells #[.string c.nm,.int .i64 c.k,.int .i64 c.d,.int .i64 c.m,.int .i64 c.s,.int .i64 c.sh,.int .i64 c.p0,.int .i64 c.p1,.int .i64 c.p2,.int .i64 c.cy,.int .i64 c.ex,.int .i64 c.fi,.int .i64 c.la,.int .i64 c.po,.int .i64 y] 67)) (.int .i64 0) (.int .i64 0) 26
  replace C:=C.alloc (.cells #[.int .i64 0,.int .i64 0] 26)
  replace B:=balloc B (.cells #[.int .i64 0,.int .i64 0] 26)
  replace T:=T.alloc (.cells #[.int .i64 0,.int .i64 0] 26)
  have zz:((w.alloc (.cells #[.string c.nm,.int .i64 c.k,.int .i64 c.d,.int .i64 c.m,.int .i64 c.s,.int .i64 c.sh,.int .i64 c.p0,.int .i64 c.p1,.int .i64 c.p2,.int .i64 c.cy,.int .i64 c.ex,.int .i64 c.fi,.int .i64 c.la,.int .i64 c.po,.int .i64 y] 67)).alloc (.cells #[.int .i64 0,.int .i64 0] 26)).heap.size=w.heap.size+2:=by simp
  rw [World.size_alloc] at K
  go_enter Tryz.func25,Tryz.ntmps25
  go_upto_region 1 with fail
  generalize (w.alloc (.cells #[.string c.nm,.int .i64 c.k,.int .i64 c.d,.int .i64 c.m,.int .i64 c.s,.int .i64 c.sh,.int .i64 c.p0,.int .i64 c.p1,.int .i64 c.p2,.int .i64 c.cy,.int .i64 c.ex,.int .i64 c.fi,.int .i64 c.la,.int .i64 c.po,.int .i64 y] 67)).alloc (.cells #[.int .i64 0,.int .i64 0] 26)=W0 at *
  obtain ⟨⟨_,c0,c1,c2,c3,c4,c5,c6,c7,c8,c9,c10,c11,c12,c13⟩,c14⟩:=id C
  obtain ⟨_,r0,r1,g0,g1⟩:=id K
  clear zz
  go_wp2
  have FB:=Bn.Box.new W0 #[.nilFunc,.func (.func 47) #[] #[],.func (.func 48) #[] #[],.func (.func 49) #[] #[],.func (.func 50) #[] #[],.func (.func 51) #[] #[]] 95
  replace C:=C.alloc (.cells #[.nilFunc,.func (.func 47) #[] #[],.func (.func 48) #[] #[],.func (.func 49) #[] #[],.func (.func 50) #[] #[],.func (.func 51) #[] #[]] 95)
  replace K:=K.alloc (.cells #[.nilFunc,.func (.func 47) #[] #[],.func (.func 48) #[] #[],.func (.func 49) #[] #[],.func (.func 50) #[] #[],.func (.func 51) #[] #[]] 95)
  replace B:=balloc B (.cells #[.nilFunc,.func (.func 47) #[] #[],.func (.func 48) #[] #[],.func (.func 49) #[] #[],.func (.func 50) #[] #[],.func (.func 51) #[] #[]] 95)
  replace T:=T.alloc (.cells #[.nilFunc,.func (.func 47) #[] #[],.func (.func 48) #[] #[],.func (.func 49) #[] #[],.func (.func 50) #[] #[],.func (.func 51) #[] #[]] 95)
  generalize W0.alloc (.cells #[.nilFunc,.func (.func 47) #[] #[],.func (.func 48) #[] #[],.func (.func 49) #[] #[],.func (.func 50) #[] #[],.func (.func 51) #[] #[]] 95)=W8 at *
  clear c0 c1 c2 c3 c4 c5 c6 c7 c8 c9 c10 c11 c12 c13 c14 r0 r1 g0 g1
  obtain ⟨⟨_,c0,c1,c2,c3,c4,c5,c6,c7,c8,c9,c10,c11,c12,c13⟩,c14⟩:=id C
  have v1:=FB.cell 2 _ rfl
  have kv:=cell_regrown v1
  have qX:=fun d os=>Calls.regrown_of (cx (Go.Sort.grow (redrawn W8 d) os) (T.kept (below_regrown W8 d os)))
  have k0:=cell_regrown c0
  have k1:=cell_regrown c1
  have k2:=cell_regrown c2
  have k3:=cell_regrown c3
  have k4:=cell_regrown c4
  have k5:=cell_regrown c5
  have k6:=cell_regrown c6
  have k7:=cell_regrown c7
  have k8:=cell_regrown c8
  have k9:=cell_regrown c9
  have k10:=cell_regrown c10
  have k11:=cell_regrown c11
  have k12:=cell_regrown c12
  have k13:=cell_regrown c13
  have k14:=cell_regrown c14
  refine Qt.wp_region_below_tail 6 (by kernel_rfl) (by kernel_rfl) ?_
  simp only [List.take_succ_cons,List.take_zero,List.drop_succ_cons,List.drop_zero]
  repeat (quiet_step (exact qX _ _))
  refine wpQuiet_nil ?_
  intro _ hw'
  obtain ⟨⟨dq,osq⟩,hw''⟩:=hw'
  subst hw''
  have hb:=below_regrown W8 dq osq
  generalize Go.Sort.grow (redrawn W8 dq) osq=w9 at hb ⊢
  replace K:=K.kept hb
  replace B:=bthen B hb
  obtain ⟨_,r0,r1,g0,g1⟩:=id K
  go_wp2
  refine bodyPost_ret (v:=.agg #[.int .i64 a,.int .i64 b]) (by simp [results,Tryz.results25,go_sem, *]) rfl ⟨rfl,?_⟩
  exact bset (bset B (by omega) _ _) (by omega) _ _
 ·have cx:=fun w T=>fquarter_any c y i a b w ok y0 y1 i0 (by omega) (by rw [ha,uend_3]) (by rw [hb',uend_3]) hm T
  clear ok hL i1 ha hb'
  have K:=Pr.Two.new (w.alloc (.cells #[.string c.nm,.int .i64 c.k,.int .i64 c.d,.int .i64 c.m,.int .i64 c.s,.int .i64 c.sh,.int .i64 c.p0,.int .i64 c.p1,.int .i64 c.p2,.int .i64 c.cy,.int .i64 c.ex,.int .i64 c.fi,.int .i64 c.la,.int .i64 c.po,.int .i64 y] 67)) (.int .i64 0) (.int .i64 0) 26
  replace C:=C.alloc (.cells #[.int .i64 0,.int .i64 0] 26)
  replace B:=balloc B (.cells #[.int .i64 0,.int .i64 0] 26)
  replace T:=T.alloc (.cells #[.int .i64 0,.int .i64 0] 26)
  have zz:((w.alloc (.cells #[.string c.nm,.int .i64 c.k,.int .i64 c.d,.int .i64 c.m,.int .i64 c.s,.int .i64 c.sh,.int .i64 c.p0,.int .i64 c.p1,.int .i64 c.p2,.int .i64 c.cy,.int .i64 c.ex,.int .i64 c.fi,.int .i64 c.la,.int .i64 c.po,.int .i64 y] 67)).alloc (.cells #[.int .i64 0,.int .i64 0] 26)).heap.size=w.heap.size+2:=by simp
  rw [World.size_alloc] at K
  go_enter Tryz.func25,Tryz.ntmps25
  go_upto_region 1 with fail
  generalize (w.alloc (.cells #[.string c.nm,.int .i64 c.k,.int .i64 c.d,.int .i64 c.m,.int .i64 c.s,.int .i64 c.sh,.int .i64 c.p0,.int .i64 c.p1,.int .i64 c.p2,.int .i64 c.cy,.int .i64 c.ex,.int .i64 c.fi,.int .i64 c.la,.int .i64 c.po,.int .i64 y] 67)).alloc (.cells #[.int .i64 0,.int .i64 0] 26)=W0 at *
  obtain ⟨⟨_,c0,c1,c2,c3,c4,c5,c6,c7,c8,c9,c10,c11,c12,c13⟩,c14⟩:=id C
  obtain ⟨_,r0,r1,g0,g1⟩:=id K
  clear zz
  go_wp2
  have FB:=Bn.Box.new W0 #[.nilFunc,.func (.func 47) #[] #[],.func (.func 48) #[] #[],.func (.func 49) #[] #[],.func (.func 50) #[] #[],.func (.func 51) #[] #[]] 95
  replace C:=C.alloc (.cells #[.nilFunc,.func (.func 47) #[] #[],.func (.func 48) #[] #[],.func (.func 49) #[] #[],.func (.func 50) #[] #[],.func (.func 51) #[] #[]] 95)
  replace K:=K.alloc (.cells #[.nilFunc,.func (.func 47) #[] #[],.func (.func 48) #[] #[],.func (.func 49) #[] #[],.func (.func 50) #[] #[],.func (.func 51) #[] #[]] 95)
  replace B:=balloc B (.cells #[.nilFunc,.func (.func 47) #[] #[],.func (.func 48) #[] #[],.func (.func 49) #[] #[],.func (.func 50) #[] #[],.func (.func 51) #[] #[]] 95)
  replace T:=T.alloc (.cells #[.nilFunc,.func (.func 47) #[] #[],.func (.func 48) #[] #[],.func (.func 49) #[] #[],.func (.func 50) #[] #[],.func (.func 51) #[] #[]] 95)
  generalize W0.alloc (.cells #[.nilFunc,.func (.func 47) #[] #[],.func (.func 48) #[] #[],.func (.func 49) #[] #[],.func (.func 50) #[] #[],.func (.func 51) #[] #[]] 95)=W8 at *
  clear c0 c1 c2 c3 c4 c5 c6 c7 c8 c9 c10 c11 c12 c13 c14 r0 r1 g0 g1
  obtain ⟨⟨_,c0,c1,c2,c3,c4,c5,c6,c7,c8,c9,c10,c11,c12,c13⟩,c14⟩:=id C
  have v1:=FB.cell 3 _ rfl
  have kv:=cell_regrown v1
  have qX:=fun d os=>Calls.regrown_of (cx (Go.Sort.grow (redrawn W8 d) os) (T.kept (below_regrown W8 d os)))
  have k0:=cell_regrown c0
  have k1:=cell_regrown c1
  have k2:=cell_regrown c2
  have k3:=cell_regrown c3
  have k4:=cell_regrown c4
  have k5:=cell_regrown c5
  have k6:=cell_regrown c6
  have k7:=cell_regrown c7
  have k8:=cell_regrown c8
  have k9:=cell_regrown c9
  have k10:=cell_regrown c10
  have k11:=cell_regrown c11
  have k12:=cell_regrown c12
  have k13:=cell_regrown c13
  have k14:=cell_regrown c14
  refine Qt.wp_region_below_tail 6 (by kernel_rfl) (by kernel_rfl) ?_
  simp only [List.take_succ_cons,List.take_zero,List.drop_succ_cons,List.drop_zero]
  repeat (quiet_step (exact qX _ _))
  refine wpQuiet_nil ?_
  intro _ hw'
  obtain ⟨⟨dq,osq⟩,hw''⟩:=hw'
  subst hw''
  have hb:=below_regrown W8 dq osq
  generalize Go.Sort.grow (redrawn W8 dq) osq=w9 at hb ⊢
  replace K:=K.kept hb
  replace B:=bthen B hb
  obtain ⟨_,r0,r1,g0,g1⟩:=id K
  go_wp2
  refine bodyPost_ret (v:=.agg #[.int .i64 a,.int .i64 b]) (by simp [results,Tryz.results25,go_sem, *]) rfl ⟨rfl,?_⟩
  exact bset (bset B (by omega) _ _) (by omega) _ _
 ·have cx:=fun w T=>fperiod_any c y i a b w ok y0 y1 i0 (by omega) (by rw [ha,uend_4]) (by rw [hb',uend_4]) hm T
  clear ok hL i1 ha hb'
  have K:=Pr.Two.new (w.alloc (.cells #[.string c.nm,.int .i64 c.k,.int .i64 c.d,.int .i64 c.m,.int .i64 c.s,.int .i64 c.sh,.int .i64 c.p0,.int .i64 c.p1,.int .i64 c.p2,.int .i64 c.cy,.int .i64 c.ex,.int .i64 c.fi,.int .i64 c.la,.int .i64 c.po,.int .i64 y] 67)) (.int .i64 0) (.int .i64 0) 26
  replace C:=C.alloc (.cells #[.int .i64 0,.int .i64 0] 26)
  replace B:=balloc B (.cells #[.int .i64 0,.int .i64 0] 26)
  replace T:=T.alloc (.cells #[.int .i64 0,.int .i64 0] 26)
  have zz:((w.alloc (.cells #[.string c.nm,.int .i64 c.k,.int .i64 c.d,.int .i64 c.m,.int .i64 c.s,.int .i64 c.sh,.int .i64 c.p0,.int .i64 c.p1,.int .i64 c.p2,.int .i64 c.cy,.int .i64 c.ex,.int .i64 c.fi,.int .i64 c.la,.int .i64 c.po,.int .i64 y] 67)).alloc (.cells #[.int .i64 0,.int .i64 0] 26)).heap.size=w.heap.size+2:=by simp
  rw [World.size_alloc] at K
  go_enter Tryz.func25,Tryz.ntmps25
  go_upto_region 1 with fail
  generalize (w.alloc (.cells #[.string c.nm,.int .i64 c.k,.int .i64 c.d,.int .i64 c.m,.int .i64 c.s,.int .i64 c.sh,.int .i64 c.p0,.int .i64 c.p1,.int .i64 c.p2,.int .i64 c.cy,.int .i64 c.ex,.int .i64 c.fi,.int .i64 c.la,.int .i64 c.po,.int .i64 y] 67)).alloc (.cells #[.int .i64 0,.int .i64 0] 26)=W0 at *
  obtain ⟨⟨_,c0,c1,c2,c3,c4,c5,c6,c7,c8,c9,c10,c11,c12,c13⟩,c14⟩:=id C
  obtain ⟨_,r0,r1,g0,g1⟩:=id K
  clear zz
  go_wp2
  have FB:=Bn.Box.new W0 #[.nilFunc,.func (.func 47) #[] #[],.func (.func 48) #[] #[],.func (.func 49) #[] #[],.func (.func 50) #[] #[],.func (.func 51) #[] #[]] 95
  replace C:=C.alloc (.cells #[.nilFunc,.func (.func 47) #[] #[],.func (.func 48) #[] #[],.func (.func 49) #[] #[],.func (.func 50) #[] #[],.func (.func 51) #[] #[]] 95)
  replace K:=K.alloc (.cells #[.nilFunc,.func (.func 47) #[] #[],.func (.func 48) #[] #[],.func (.func 49) #[] #[],.func (.func 50) #[] #[],.func (.func 51) #[] #[]] 95)
  replace B:=balloc B (.cells #[.nilFunc,.func (.func 47) #[] #[],.func (.func 48) #[] #[],.func (.func 49) #[] #[],.func (.func 50) #[] #[],.func (.func 51) #[] #[]] 95)
  replace T:=T.alloc (.cells #[.nilFunc,.func (.func 47) #[] #[],.func (.func 48) #[] #[],.func (.func 49) #[] #[],.func (.func 50) #[] #[],.func (.func 51) #[] #[]] 95)
  generalize W0.alloc (.cells #[.nilFunc,.func (.func 47) #[] #[],.func (.func 48) #[] #[],.func (.func 49) #[] #[],.func (.func 50) #[] #[],.func (.func 51) #[] #[]] 95)=W8 at *
  clear c0 c1 c2 c3 c4 c5 c6 c7 c8 c9 c10 c11 c12 c13 c14 r0 r1 g0 g1
  obtain ⟨⟨_,c0,c1,c2,c3,c4,c5,c6,c7,c8,c9,c10,c11,c12,c13⟩,c14⟩:=id C
  have v1:=FB.cell 4 _ rfl
  have kv:=cell_regrown v1
  have qX:=fun d os=>Calls.regrown_of (cx (Go.Sort.grow (redrawn W8 d) os) (T.kept (below_regrown W8 d os)))
  have k0:=cell_regrown c0
  have k1:=cell_regrown c1
  have k2:=cell_regrown c2
  have k3:=cell_regrown c3
  have k4:=cell_regrown c4
  have k5:=cell_regrown c5
  have k6:=cell_regrown c6
  have k7:=cell_regrown c7
  have k8:=cell_regrown c8
  have k9:=cell_regrown c9
  have k10:=cell_regrown c10
  have k11:=cell_regrown c11
  have k12:=cell_regrown c12
  have k13:=cell_regrown c13
  have k14:=cell_regrown c14
  refine Qt.wp_region_below_tail 6 (by kernel_rfl) (by kernel_rfl) ?_
  simp only [List.take_succ_cons,List.take_zero,List.drop_succ_cons,List.drop_zero]
  repeat (quiet_step (exact qX _ _))
  refine wpQuiet_nil ?_
  intro _ hw'
  obtain ⟨⟨dq,osq⟩,hw''⟩:=hw'
  subst hw''
  have hb:=below_regrown W8 dq osq
  generalize Go.Sort.grow (redrawn W8 dq) osq=w9 at hb ⊢
  replace K:=K.kept hb
  replace B:=bthen B hb
  obtain ⟨_,r0,r1,g0,g1⟩:=id K
  go_wp2
  refine bodyPost_ret (v:=.agg #[.int .i64 a,.int .i64 b]) (by simp [results,Tryz.results25,go_sem, *]) rfl ⟨rfl,?_⟩
  exact bset (bset B (by omega) _ _) (by omega) _ _
 ·have cx:=fun w T=>fweek_any c y i a b w ok y0 y1 i0 (by omega) (by rw [ha,uend_5]) (by rw [hb',uend_5]) hm T
  clear ok hL i1 ha hb'
  have K:=Pr.Two.new (w.alloc (.cells #[.string c.nm,.int .i64 c.k,.int .i64 c.d,.int .i64 c.m,.int .i64 c.s,.int .i64 c.sh,.int .i64 c.p0,.int .i64 c.p1,.int .i64 c.p2,.int .i64 c.cy,.int .i64 c.ex,.int .i64 c.fi,.int .i64 c.la,.int .i64 c.po,.int .i64 y] 67)) (.int .i64 0) (.int .i64 0) 26
  replace C:=C.alloc (.cells #[.int .i64 0,.int .i64 0] 26)
  replace B:=balloc B (.cells #[.int .i64 0,.int .i64 0] 26)
  replace T:=T.alloc (.cells #[.int .i64 0,.int .i64 0] 26)
  have zz:((w.alloc (.cells #[.string c.nm,.int .i64 c.k,.int .i64 c.d,.int .i64 c.m,.int .i64 c.s,.int .i64 c.sh,.int .i64 c.p0,.int .i64 c.p1,.int .i64 c.p2,.int .i64 c.cy,.int .i64 c.ex,.int .i64 c.fi,.int .i64 c.la,.int .i64 c.po,.int .i64 y] 67)).alloc (.cells #[.int .i64 0,.int .i64 0] 26)).heap.size=w.heap.size+2:=by simp
  rw [World.size_alloc] at K
  go_enter Tryz.func25,Tryz.ntmps25
  go_upto_region 1 with fail
  generalize (w.alloc (.cells #[.string c.nm,.int .i64 c.k,.int .i64 c.d,.int .i64 c.m,.int .i64 c.s,.int .i64 c.sh,.int .i64 c.p0,.int .i64 c.p1,.int .i64 c.p2,.int .i64 c.cy,.int .i64 c.ex,.int .i64 c.fi,.int .i64 c.la,.int .i64 c.po,.int .i64 y] 67)).alloc (.cells #[.int .i64 0,.int .i64 0] 26)=W0 at *
  obtain ⟨⟨_,c0,c1,c2,c3,c4,c5,c6,c7,c8,c9,c10,c11,c12,c13⟩,c14⟩:=id C
  obtain ⟨_,r0,r1,g0,g1⟩:=id K
  clear zz
  go_wp2
  have FB:=Bn.Box.new W0 #[.nilFunc,.func (.func 47) #[] #[],.func (.func 48) #[] #[],.func (.func 49) #[] #[],.func (.func 50) #[] #[],.func (.func 51) #[] #[]] 95
  replace C:=C.alloc (.cells #[.nilFunc,.func (.func 47) #[] #[],.func (.func 48) #[] #[],.func (.func 49) #[] #[],.func (.func 50) #[] #[],.func (.func 51) #[] #[]] 95)
  replace K:=K.alloc (.cells #[.nilFunc,.func (.func 47) #[] #[],.func (.func 48) #[] #[],.func (.func 49) #[] #[],.func (.func 50) #[] #[],.func (.func 51) #[] #[]] 95)
  replace B:=balloc B (.cells #[.nilFunc,.func (.func 47) #[] #[],.func (.func 48) #[] #[],.func (.func 49) #[] #[],.func (.func 50) #[] #[],.func (.func 51) #[] #[]] 95)
  replace T:=T.alloc (.cells #[.nilFunc,.func (.func 47) #[] #[],.func (.func 48) #[] #[],.func (.func 49) #[] #[],.func (.func 50) #[] #[],.func (.func 51) #[] #[]] 95)
  generalize W0.alloc (.cells #[.nilFunc,.func (.func 47) #[] #[],.func (.func 48) #[] #[],.func (.func 49) #[] #[],.func (.func 50) #[] #[],.func (.func 51) #[] #[]] 95)=W8 at *
  clear c0 c1 c2 c3 c4 c5 c6 c7 c8 c9 c10 c11 c12 c13 c14 r0 r1 g0 g1
  obtain ⟨⟨_,c0,c1,c2,c3,c4,c5,c6,c7,c8,c9,c10,c11,c12,c13⟩,c14⟩:=id C
  have v1:=FB.cell 5 _ rfl
  have kv:=cell_regrown v1
  have qX:=fun d os=>Calls.regrown_of (cx (Go.Sort.grow (redrawn W8 d) os) (T.kept (below_regrown W8 d os)))
  have k0:=cell_regrown c0
  have k1:=cell_regrown c1
  have k2:=cell_regrown c2
  have k3:=cell_regrown c3
  have k4:=cell_regrown c4
  have k5:=cell_regrown c5
  have k6:=cell_regrown c6
  have k7:=cell_regrown c7
  have k8:=cell_regrown c8
  have k9:=cell_regrown c9
  have k10:=cell_regrown c10
  have k11:=cell_regrown c11
  have k12:=cell_regrown c12
  have k13:=cell_regrown c13
  have k14:=cell_regrown c14
  refine Qt.wp_region_below_tail 6 (by kernel_rfl) (by kernel_rfl) ?_
  simp only [List.take_succ_cons,List.take_zero,List.drop_succ_cons,List.drop_zero]
  repeat (quiet_step (exact qX _ _))
  refine wpQuiet_nil ?_
  intro _ hw'
  obtain ⟨⟨dq,osq⟩,hw''⟩:=hw'
  subst hw''
  have hb:=below_regrown W8 dq osq
  generalize Go.Sort.grow (redrawn W8 dq) osq=w9 at hb ⊢
  replace K:=K.kept hb
  replace B:=bthen B hb
  obtain ⟨_,r0,r1,g0,g1⟩:=id K
  go_wp2
  refine bodyPost_ret (v:=.agg #[.int .i64 a,.int .i64 b]) (by simp [results,Tryz.results25,go_sem, *]) rfl ⟨rfl,?_⟩
  exact bset (bset B (by omega) _ _) (by omega) _ _

end Go.Proofs.YtoilomigceijaaaGreatDoor.Ip

namespace Go.Proofs.YtoilomigceijaaaGreatDoor.Ip
open Go.RowKit Bn Bx Cp Am Fp Ap Cm Em Ep Rk Hp

set_option maxHeartbeats 2000000

instance (L:Int):Decidable (LevOk L):=by unfold LevOk;exact inferInstance
theorem isLevel_any (L:Int)(r:Bool)(w:World)(hr:r=decide (LevOk L)) :
  Calls Tryz.prog 93 #[.int .i64 L] w fun e w'=>e= .returned (.bool r)∧Below w.heap.size w w':=by
 have O:(1≤L∧decide (L≤5)=true∧r=true)∨(1≤L∧decide (L≤5)=false∧r=false)∨(L<1∧r=false):=by
  subst hr
  unfold LevOk
  by_cases h1:1≤L
  ·by_cases h2:L≤5
   ·exact .inl ⟨h1,decide_eq_true h2,decide_eq_true ⟨h1,h2⟩⟩
   ·exact .inr (.inl ⟨h1,decide_eq_false h2,decide_eq_false (fun k=>h2 k.2)⟩)
  ·exact .inr (.inr ⟨by omega,decide_eq_false (fun k=>h1 k.1)⟩)
 clear hr
 rcases O with ⟨h1,h2,rfl⟩|⟨h1,h2,rfl⟩|⟨h1,rfl⟩
 all_goals
  go_enter Tryz.func93,Tryz.ntmps93
  go_wp2
  go_ret
  exact ⟨rfl,Below.refl _ _⟩

set_option maxRecDepth 100000 in
theorem Count_any (c:CalZ)(L y v er:Int)(w:World)(R:CountA c L y v er)(hm:c.nm.size≤maxLen)(T:FTab w) :
  Calls Tryz.prog 46 #[.agg #[.string c.nm,.int .i64 c.k,.int .i64 c.d,.int .i64 c.m,.int .i64 c.s,.int .i64 c.sh,.int .i64 c.p0,.int .i64 c.p1,.int .i64 c.p2,.int .i64 c.cy,.int .i64 c.ex,.int .i64 c.fi,.int .i64 c.la,.int .i64 c.po],.int .i64 L,.int .i64 y] w fun e w'=>e= .returned (.tuple #[.int .i64 v,.int .i64 er])∧Below w.heap.size w w':=by
 have C:=CalIn.new w c 24
 have B:=balloc (Below.refl _ w) (.cells #[.string c.nm,.int .i64 c.k,.int .i64 c.d,.int .i64 c.m,.int .i64 c.s,.int .i64 c.sh,.int .i64 c.p0,.int .i64 c.p1,.int .i64 c.p2,.int .i64 c.cy,.int .i64 c.ex,.int .i64 c.fi,.int .i64 c.la,.int .i64 c.po] 24)
 replace T:=T.alloc (.cells #[.string c.nm,.int .i64 c.k,.int .i64 c.d,.int .i64 c.m,.int .i64 c.s,.int .i64 c.sh,.int .i64 c.p0,.int .i64 c.p1,.int .i64 c.p2,.int .i64 c.cy,.int .i64 c.ex,.int .i64 c.fi,.int .i64 c.la,.int .i64 c.po] 24)
 rcases R with ⟨ok,l,s,hv,rfl⟩|⟨ok,l,s,rfl,rfl⟩|⟨ok,l,rfl,rfl⟩|⟨no,rfl,rfl⟩
 ·have st:=served_told ok s
  have ck:=fun w T=>Check_any c 0 w (.inl ⟨ok,rfl⟩) hm T
  have ci:=fun w=>isLevel_any L true w (decide_eq_true l).symm
  have cc:=fun w T=>fcount_any c y L v w ok (by omega) (by omega) l hv hm T
  obtain ⟨s0,s1⟩:=s
  have n0:decide (y<c.fi)=false:=decide_eq_false (by omega)
  have n1:decide (c.la<y)=false:=decide_eq_false (by omega)
  clear ok l hv s0 s1 st
  go_enter Tryz.func46,Tryz.ntmps46
  go_upto_region 1 with fail
  generalize w.alloc (.cells #[.string c.nm,.int .i64 c.k,.int .i64 c.d,.int .i64 c.m,.int .i64 c.s,.int .i64 c.sh,.int .i64 c.p0,.int .i64 c.p1,.int .i64 c.p2,.int .i64 c.cy,.int .i64 c.ex,.int .i64 c.fi,.int .i64 c.la,.int .i64 c.po] 24)=W0 at *
  obtain ⟨_,c0,c1,c2,c3,c4,c5,c6,c7,c8,c9,c10,c11,c12,c13⟩:=id C
  go_wp2_with fail
  refine (ck _ T).mono ?_
  rintro e w1 ⟨rfl,hb⟩
  replace C:=C.kept hb
  replace B:=bthen B hb
  replace T:=T.kept hb
  clear hb c0 c1 c2 c3 c4 c5 c6 c7 c8 c9 c10 c11 c12 c13
  obtain ⟨_,c0,c1,c2,c3,c4,c5,c6,c7,c8,c9,c10,c11,c12,c13⟩:=id C
  go_wp2_with fail
  refine (ci _).mono ?_
  rintro e w2 ⟨rfl,hb⟩
  replace C:=C.kept hb
  replace B:=bthen B hb
  replace T:=T.kept hb
  clear hb c0 c1 c2 c3 c4 c5 c6 c7 c8 c9 c10 c11 c12 c13
  obtain ⟨_,c0,c1,c2,c3,c4,c5,c6,c7,c8,c9,c10,c11,c12,c13⟩:=id C
  go_wp2_with fail
  refine (cc _ T).mono ?_
  rintro e w3 ⟨rfl,hb⟩
  replace C:=C.kept hb
  replace B:=bthen B hb
  replace T:=T.kept hb
  clear hb c0 c1 c2 c3 c4 c5 c6 c7 c8 c9 c10 c11 c12 c13
  obtain ⟨_,c0,c1,c2,c3,c4,c5,c6,c7,c8,c9,c10,c11,c12,c13⟩:=id C
  go_wp2
  go_ret2
  exact ⟨rfl,B⟩
 ·have ck:=fun w T=>Check_any c 0 w (.inl ⟨ok,rfl⟩) hm T
  have ci:=fun w=>isLevel_any L true w (decide_eq_true l).symm
  have O:decide (y<c.fi)=true∨(decide (y<c.fi)=false∧decide (c.la<y)=true):=by
   unfold Served at s
   by_cases h:y<c.fi
   ·exact .inl (decide_eq_true h)
   ·exact .inr ⟨decide_eq_false h,decide_eq_true (by omega)⟩
  clear ok l s
  rcases O with n0|⟨n0,n1⟩
  all_goals
   go_enter Tryz.func46,Tryz.ntmps46
   go_upto_region 1 with fail
   generalize w.alloc (.cells #[.string c.nm,.int .i64 c.k,.int .i64 c.d,.int .i64 c.m,.int .i64 c.s,.int .i64 c.sh,.int .i64 c.p0,.int .i64 c.p1,.int .i64 c.p2,.int .i64 c.cy,.int .i64 c.ex,.int .i64 c.fi,.int .i64 c.la,.int .i64 c.po] 24)=W0 at *
   obtain ⟨_,c0,c1,c2,c3,c4,c5,c6,c7,c8,c9,c10,c11,c12,c13⟩:=id C
   go_wp2_with fail
   refine (ck _ T).mono ?_
   rintro e w4 ⟨rfl,hb⟩
   replace C:=C.kept hb
   replace B:=bthen B hb
   replace T:=T.kept hb
   clear hb c0 c1 c2 c3 c4 c5 c6 c7 c8 c9 c10 c11 c12 c13
   obtain ⟨_,c0,c1,c2,c3,c4,c5,c6,c7,c8,c9,c10,c11,c12,c13⟩:=id C
   go_wp2_with fail
   refine (ci _).mono ?_
   rintro e w5 ⟨rfl,hb⟩
   replace C:=C.kept hb
   replace B:=bthen B hb
   replace T:=T.kept hb
   clear hb c0 c1 c2 c3 c4 c5 c6 c7 c8 c9 c10 c11 c12 c13
   obtain ⟨_,c0,c1,c2,c3,c4,c5,c6,c7,c8,c9,c10,c11,c12,c13⟩:=id C
   go_wp2
   go_ret2
   exact ⟨rfl,B⟩
 ·have ck:=fun w T=>Check_any c 0 w (.inl ⟨ok,rfl⟩) hm T
  have ci:=fun w=>isLevel_any L false w (decide_eq_false l).symm
  clear ok l
  go_enter Tryz.func46,Tryz.ntmps46
  go_upto_region 1 with fail
  generalize w.alloc (.cells #[.string c.nm,.int .i64 c.k,.int .i64 c.d,.int .i64 c.m,.int .i64 c.s,.int .i64 c.sh,.int .i64 c.p0,.int .i64 c.p1,.int .i64 c.p2,.int .i64 c.cy,.int .i64 c.ex,.int .i64 c.fi,.int .i64 c.la,.int .i64 c.po] 24)=W0 at *
  obtain ⟨_,c0,c1,c2,c3,c4,c5,c6,c7,c8,c9,c10,c11,c12,c13⟩:=id C
  go_wp2_with fail
  refine (ck _ T).mono ?_
  rintro e w6 ⟨rfl,hb⟩
  replace C:=C.kept hb
  replace B:=bthen B hb
  replace T:=T.kept hb
  clear hb c0 c1 c2 c3 c4 c5 c6 c7 c8 c9 c10 c11 c12 c13
  obtain ⟨_,c0,c1,c2,c3,c4,c5,c6,c7,c8,c9,c10,c11,c12,c13⟩:=id C
  go_wp2_with fail
  refine (ci _).mono ?_
  rintro e w7 ⟨rfl,hb⟩
  replace C:=C.kept hb
  replace B:=bthen B hb
  replace T:=T.kept hb
  clear hb c0 c1 c2 c3 c4 c5 c6 c7 c8 c9 c10 c11 c12 c13
  obtain ⟨_,c0,c1,c2,c3,c4,c5,c6,c7,c8,c9,c10,c11,c12,c13⟩:=id C
  go_wp2
  go_ret2
  exact ⟨rfl,B⟩
 ·have ck:=fun w T=>Check_any c 1 w (.inr ⟨no,rfl⟩) hm T
  clear no
  go_enter Tryz.func46,Tryz.ntmps46
  go_upto_region 1 with fail
  generalize w.alloc (.cells #[.string c.nm,.int .i64 c.k,.int .i64 c.d,.int .i64 c.m,.int .i64 c.s,.int .i64 c.sh,.int .i64 c.p0,.int .i64 c.p1,.int .i64 c.p2,.int .i64 c.cy,.int .i64 c.ex,.int .i64 c.fi,.int .i64 c.la,.int .i64 c.po] 24)=W0 at *
  obtain ⟨_,c0,c1,c2,c3,c4,c5,c6,c7,c8,c9,c10,c11,c12,c13⟩:=id C
  go_wp2_with fail
  refine (ck _ T).mono ?_
  rintro e w8 ⟨rfl,hb⟩
  replace C:=C.kept hb
  replace B:=bthen B hb
  replace T:=T.kept hb
  clear hb c0 c1 c2 c3 c4 c5 c6 c7 c8 c9 c10 c11 c12 c13
  obtain ⟨_,c0,c1,c2,c3,c4,c5,c6,c7,c8,c9,c10,c11,c12,c13⟩:=id C
  go_wp2
  go_ret2
  exact ⟨rfl,B⟩

theorem counta_er {c:CalZ}{L y v er:Int}(h:CountA c L y v er):(er=0∧1≤v∧v≤60)∨(v=0∧(er=1∨er=11)):=by
 rcases h with ⟨ok,l,s,hv,rfl⟩|⟨_,_,_,rfl,rfl⟩|⟨_,_,rfl,rfl⟩|⟨_,rfl,rfl⟩
 ·have st:=served_told ok s
  have:=ucount_bd (L:=L) (y:=y) ok.1 (by omega) (by omega)
  exact .inl ⟨rfl,by omega,by omega⟩
 all_goals exact .inr ⟨rfl,by omega⟩

set_option maxRecDepth 100000 in
theorem UCheck_any (c:CalZ)(L y i er:Int)(w:World)(R:UChkA c L y i er)(hm:c.nm.size≤maxLen)(T:FTab w) :
  Calls Tryz.prog 24 #[.agg #[.string c.nm,.int .i64 c.k,.int .i64 c.d,.int .i64 c.m,.int .i64 c.s,.int .i64 c.sh,.int .i64 c.p0,.int .i64 c.p1,.int .i64 c.p2,.int .i64 c.cy,.int .i64 c.ex,.int .i64 c.fi,.int .i64 c.la,.int .i64 c.po],.agg #[.int .i64 L,.int .i64 y,.int .i64 i]] w fun e w'=>e= .returned (.int .i64 er)∧Below w.heap.size w w':=by
 have C:=CalIn.new w c 24
 have B:=balloc (Below.refl _ w) (.cells #[.string c.nm,.int .i64 c.k,.int .i64 c.d,.int .i64 c.m,.int .i64 c.s,.int .i64 c.sh,.int .i64 c.p0,.int .i64 c.p1,.int .i64 c.p2,.int .i64 c.cy,.int .i64 c.ex,.int .i64 c.fi,.int .i64 c.la,.int .i64 c.po] 24)
 replace T:=T.alloc (.cells #[.string c.nm,.int .i64 c.k,.int .i64 c.d,.int .i64 c.m,.int .i64 c.s,.int .i64 c.sh,.int .i64 c.p0,.int .i64 c.p1,.int .i64 c.p2,.int .i64 c.cy,.int .i64 c.ex,.int .i64 c.fi,.int .i64 c.la,.int .i64 c.po] 24)
 obtain ⟨v,e,A,O⟩:=R
 have cc:=fun w T=>Count_any c L y v e w A hm T
 have ve:=counta_er A
 have O2:((e=1∨e=11)∧er=e)∨(e=0∧er=13∧decide (i<1)=true)∨(e=0∧er=13∧decide (i<1)=false∧decide (v<i)=true)∨(e=0∧er=0∧decide (i<1)=false∧decide (v<i)=false):=by
  rcases O with ⟨a,b⟩|⟨a,b,d⟩|⟨a,b,d,f⟩
  ·exact .inl ⟨by omega,b⟩
  ·by_cases h:i<1
   ·exact .inr (.inl ⟨a,d,decide_eq_true h⟩)
   ·exact .inr (.inr (.inl ⟨a,d,decide_eq_false h,decide_eq_true (by omega)⟩))
  ·exact .inr (.inr (.inr ⟨a,f,decide_eq_false (by omega),decide_eq_false (by omega)⟩))
 clear A O ve
 have U:=Bx.Tri.new (w.alloc (.cells #[.string c.nm,.int .i64 c.k,.int .i64 c.d,.int .i64 c.m,.int .i64 c.s,.int .i64 c.sh,.int .i64 c.p0,.int .i64 c.p1,.int .i64 c.p2,.int .i64 c.cy,.int .i64 c.ex,.int .i64 c.fi,.int .i64 c.la,.int .i64 c.po] 24)) (.int .i64 L) (.int .i64 y) (.int .i64 i) 46
 rw [World.size_alloc] at U
 replace C:=C.alloc (.cells #[.int .i64 L,.int .i64 y,.int .i64 i] 46)
 replace B:=balloc B (.cells #[.int .i64 L,.int .i64 y,.int .i64 i] 46)
 replace T:=T.alloc (.cells #[.int .i64 L,.int .i64 y,.int .i64 i] 46)
 rcases O2 with ⟨rfl|rfl,rfl⟩|⟨rfl,rfl,n0⟩|⟨rfl,rfl,n0,n1⟩|⟨rfl,rfl,n0,n1⟩
 all_goals
  go_enter Tryz.func24,Tryz.ntmps24
  go_upto_region 1 with fail
  generalize (w.alloc (.cells #[.string c.nm,.int .i64 c.k,.int .i64 c.d,.int .i64 c.m,.int .i64 c.s,.int .i64 c.sh,.int .i64 c.p0,.int .i64 c.p1,.int .i64 c.p2,.int .i64 c.cy,.int .i64 c.ex,.int .i64 c.fi,.int .i64 c.la,.int .i64 c.po] 24)).alloc (.cells #[.int .i64 L,.int .i64 y,.int .i64 i] 46)=W0 at *
  obtain ⟨_,c0,c1,c2,c3,c4,c5,c6,c7,c8,c9,c10,c11,c12,c13⟩:=id C
  obtain ⟨_,u0,u1,u2,fu0,fu1,fu2⟩:=id U
  go_wp2_with fail
  refine (cc _ T).mono ?_
  rintro e w1 ⟨rfl,hb⟩
  replace C:=C.kept hb
  replace B:=bthen B hb
  replace T:=T.kept hb
  replace U:=U.kept hb
  clear hb c0 c1 c2 c3 c4 c5 c6 c7 c8 c9 c10 c11 c12 c13 u0 u1 u2 fu0 fu1 fu2
  obtain ⟨_,c0,c1,c2,c3,c4,c5,c6,c7,c8,c9,c10,c11,c12,c13⟩:=id C
  obtain ⟨_,u0,u1,u2,fu0,fu1,fu2⟩:=id U
  go_wp2
  go_ret
  exact ⟨rfl,B⟩

theorem spana_no {c:CalZ}{L y i er:Int}(h:UChkA c L y i er)(n:er≠0):er=1∨er=11∨er=13:=by
 obtain ⟨v,e,A,O⟩:=h
 have:=counta_er A
 omega

set_option maxRecDepth 100000 in
theorem Span_any (c:CalZ)(L y i a b er:Int)(w:World)(R:SpanA c L y i a b er)(hm:c.nm.size≤maxLen)(T:FTab w) :
  Calls Tryz.prog 15 #[.agg #[.string c.nm,.int .i64 c.k,.int .i64 c.d,.int .i64 c.m,.int .i64 c.s,.int .i64 c.sh,.int .i64 c.p0,.int .i64 c.p1,.int .i64 c.p2,.int .i64 c.cy,.int .i64 c.ex,.int .i64 c.fi,.int .i64 c.la,.int .i64 c.po],.agg #[.int .i64 L,.int .i64 y,.int .i64 i]] w fun e w'=>e= .returned (.tuple #[.agg #[.int .i64 a,.int .i64 b],.int .i64 er])∧Below w.heap.size w w':=by
 have C:=CalIn.new w c 24
 have B:=balloc (Below.refl _ w) (.cells #[.string c.nm,.int .i64 c.k,.int .i64 c.d,.int .i64 c.m,.int .i64 c.s,.int .i64 c.sh,.int .i64 c.p0,.int .i64 c.p1,.int .i64 c.p2,.int .i64 c.cy,.int .i64 c.ex,.int .i64 c.fi,.int .i64 c.la,.int .i64 c.po] 24)
 replace T:=T.alloc (.cells #[.string c.nm,.int .i64 c.k,.int .i64 c.d,.int .i64 c.m,.int .i64 c.s,.int .i64 c.sh,.int .i64 c.p0,.int .i64 c.p1,.int .i64 c.p2,.int .i64 c.cy,.int .i64 c.ex,.int .i64 c.fi,.int .i64 c.la,.int .i64 c.po] 24)
 have U:=Bx.Tri.new (w.alloc (.cells #[.string c.nm,.int .i64 c.k,.int .i64 c.d,.int .i64 c.m,.int .i64 c.s,.int .i64 c.sh,.int .i64 c.p0,.int .i64 c.p1,.int .i64 c.p2,.int .i64 c.cy,.int .i64 c.ex,.int .i64 c.fi,.int .i64 c.la,.int .i64 c.po] 24)) (.int .i64 L) (.int .i64 y) (.int .i64 i) 46
 rw [World.size_alloc] at U
 have K:=Pr.Two.new ((w.alloc (.cells #[.string c.nm,.int .i64 c.k,.int .i64 c.d,.int .i64 c.m,.int .i64 c.s,.int .i64 c.sh,.int .i64 c.p0,.int .i64 c.p1,.int .i64 c.p2,.int .i64 c.cy,.int .i64 c.ex,.int .i64 c.fi,.int .i64 c.la,.int .i64 c.po] 24)).alloc (.cells #[.int .i64 L,.int .i64 y,.int .i64 i] 46)) (.int .i64 0) (.int .i64 0) 26
 have zz:((w.alloc (.cells #[.string c.nm,.int .i64 c.k,.int .i64 c.d,.int .i64 c.m,.int .i64 c.s,.int .i64 c.sh,.int .i64 c.p0,.int .i64 c.p1,.int .i64 c.p2,.int .i64 c.cy,.int .i64 c.ex,.int .i64 c.fi,.int .i64 c.la,.int .i64 c.po] 24)).alloc (.cells #[.int .i64 L,.int .i64 y,.int .i64 i] 46)).heap.size=w.heap.size+2:=by simp
 rw [zz] at K
 replace U:=U.alloc (.cells #[.int .i64 0,.int .i64 0] 26)
 replace C:=(C.alloc (.cells #[.int .i64 L,.int .i64 y,.int .i64 i] 46)).alloc (.cells #[.int .i64 0,.int .i64 0] 26)
 replace B:=balloc (balloc B (.cells #[.int .i64 L,.int .i64 y,.int .i64 i] 46)) (.cells #[.int .i64 0,.int .i64 0] 26)
 replace T:=(T.alloc (.cells #[.int .i64 L,.int .i64 y,.int .i64 i] 46)).alloc (.cells #[.int .i64 0,.int .i64 0] 26)
 clear zz
 rcases R with ⟨⟨ok,l,s,i0,i1⟩,ha,hb',rfl⟩|⟨no,ck,rfl,rfl⟩
 ·have st:=served_told ok s
  have cc:=fun w T=>UCheck_any c L y i 0 w ⟨_,0,.inl ⟨ok,l,s,rfl,rfl⟩,.inr (.inr ⟨rfl,i0,i1,rfl⟩)⟩ hm T
  have cs:=fun w T=>fspan_any c y L i a b w ok (by omega) (by omega) l i0 i1 ha hb' hm T
  clear ok l s i0 i1 ha hb' st
  go_enter Tryz.func15,Tryz.ntmps15
  go_upto_region 1 with fail
  generalize ((w.alloc (.cells #[.string c.nm,.int .i64 c.k,.int .i64 c.d,.int .i64 c.m,.int .i64 c.s,.int .i64 c.sh,.int .i64 c.p0,.int .i64 c.p1,.int .i64 c.p2,.int .i64 c.cy,.int .i64 c.ex,.int .i64 c.fi,.int .i64 c.la,.int .i64 c.po] 24)).alloc (.cells #[.int .i64 L,.int .i64 y,.int .i64 i] 46)).alloc (.cells #[.int .i64 0,.int .i64 0] 26)=W0 at *
  obtain ⟨_,c0,c1,c2,c3,c4,c5,c6,c7,c8,c9,c10,c11,c12,c13⟩:=id C
  obtain ⟨_,u0,u1,u2,fu0,fu1,fu2⟩:=id U
  obtain ⟨_,r0,r1,g0,g1⟩:=id K
  go_wp2_with fail
  refine (cc _ T).mono ?_
  rintro e w1 ⟨rfl,hb⟩
  replace C:=C.kept hb
  replace B:=bthen B hb
  replace T:=T.kept hb
  replace U:=U.kept hb
  replace K:=K.kept hb
  clear hb c0 c1 c2 c3 c4 c5 c6 c7 c8 c9 c10 c11 c12 c13 u0 u1 u2 fu0 fu1 fu2 r0 r1 g0 g1
  obtain ⟨_,c0,c1,c2,c3,c4,c5,c6,c7,c8,c9,c10,c11,c12,c13⟩:=id C
  obtain ⟨_,u0,u1,u2,fu0,fu1,fu2⟩:=id U
  obtain ⟨_,r0,r1,g0,g1⟩:=id K
  go_wp2_with fail
  refine (cs _ T).mono ?_
  rintro e w2 ⟨rfl,hb⟩
  replace C:=C.kept hb
  replace B:=bthen B hb
  replace T:=T.kept hb
  replace U:=U.kept hb
  replace K:=K.kept hb
  clear hb c0 c1 c2 c3 c4 c5 c6 c7 c8 c9 c10 c11 c12 c13 u0 u1 u2 fu0 fu1 fu2 r0 r1 g0 g1
  obtain ⟨_,c0,c1,c2,c3,c4,c5,c6,c7,c8,c9,c10,c11,c12,c13⟩:=id C
  obtain ⟨_,u0,u1,u2,fu0,fu1,fu2⟩:=id U
  obtain ⟨_,r0,r1,g0,g1⟩:=id K
  go_wp2
  refine bodyPost_ret (v:=.tuple #[.agg #[.int .i64 a,.int .i64 b],.int .i64 0]) (by simp [results,Tryz.results15,go_sem, *]) rfl ⟨rfl,?_⟩
  exact bset (bset B (by omega) _ _) (by omega) _ _
 ·have cc:=fun w T=>UCheck_any c L y i er w ck hm T
  have O:=spana_no ck (fun q=>no ((uchka_ok ck).1 q))
  clear no ck
  rcases O with rfl|rfl|rfl
  all_goals
   go_enter Tryz.func15,Tryz.ntmps15
   go_upto_region 1 with fail
   generalize ((w.alloc (.cells #[.string c.nm,.int .i64 c.k,.int .i64 c.d,.int .i64 c.m,.int .i64 c.s,.int .i64 c.sh,.int .i64 c.p0,.int .i64 c.p1,.int .i64 c.p2,.int .i64 c.cy,.int .i64 c.ex,.int .i64 c.fi,.int .i64 c.la,.int .i64 c.po] 24)).alloc (.cells #[.int .i64 L,.int .i64 y,.int .i64 i] 46)).alloc (.cells #[.int .i64 0,.int .i64 0] 26)=W0 at *
   obtain ⟨_,c0,c1,c2,c3,c4,c5,c6,c7,c8,c9,c10,c11,c12,c13⟩:=id C
   obtain ⟨_,u0,u1,u2,fu0,fu1,fu2⟩:=id U
   obtain ⟨_,r0,r1,g0,g1⟩:=id K
   go_wp2_with fail
   refine (cc _ T).mono ?_
   rintro e w3 ⟨rfl,hb⟩
   replace C:=C.kept hb
   replace B:=bthen B hb
   replace T:=T.kept hb
   replace U:=U.kept hb
   replace K:=K.kept hb
   clear hb c0 c1 c2 c3 c4 c5 c6 c7 c8 c9 c10 c11 c12 c13 u0 u1 u2 fu0 fu1 fu2 r0 r1 g0 g1
   obtain ⟨_,c0,c1,c2,c3,c4,c5,c6,c7,c8,c9,c10,c11,c12,c13⟩:=id C
   obtain ⟨_,u0,u1,u2,fu0,fu1,fu2⟩:=id U
   obtain ⟨_,r0,r1,g0,g1⟩:=id K
   go_wp2
   refine bodyPost_ret (v:=.tuple #[.agg #[.int .i64 0,.int .i64 0],.int .i64 _]) (by simp [results,Tryz.results15,go_sem, *]) rfl ⟨rfl,?_⟩
   exact bset (bset B (by omega) _ _) (by omega) _ _

end Go.Proofs.YtoilomigceijaaaGreatDoor.Ip

