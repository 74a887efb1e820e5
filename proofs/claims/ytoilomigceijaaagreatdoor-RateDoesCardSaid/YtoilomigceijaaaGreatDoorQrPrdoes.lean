/- RateDoes' walk. -/
import Derived.Test.YtoilomigceijaaaGreatDoorQrPrr
import Derived.Test.YtoilomigceijaaaGreatDoorQrPlive
import Derived.Test.YtoilomigceijaaaGreatDoorQrFcal
import Derived.Test.YtoilomigceijaaaGreatDoorQrFrcheck
set_option linter.unusedSimpArgs false
set_option linter.unusedVariables false
namespace Go.Proofs.YtoilomigceijaaaGreatDoor.Pl
open Go.RowKit Go.Maps Bn Bx Cp Am Fp Ap Ar Cm Em Ep Rk Hp Hr Ip Dp Jr Ir Rf Pp Rr
open Sm (IsSplit sm)
open Vm (Fit1)
open Qm (Rat1 rat1_ex)
open Sr (wt exact_go exact_over ExactRes RExactRes rexact_go rexact_over rsplit_go SameRatios_yes)
open Sl (ls ls_len ls_at ls_sum row_rd)

set_option maxHeartbeats 8000000

def Six (c:CalZ)(L A a b:Int):Prop:=∃ (n m:Nat) (pd p q:Nat→Int) (u:Int×Int) (e1 e2:Int),n≤4096∧m≤4096∧(∀ w,FTab w→Calls Tryz.prog 6 #[.agg #[.string c.nm,.int .i64 c.k,.int .i64 c.d,.int .i64 c.m,.int .i64 c.s,.int .i64 c.sh,.int .i64 c.p0,.int .i64 c.p1,.int .i64 c.p2,.int .i64 c.cy,.int .i64 c.ex,.int .i64 c.fi,.int .i64 c.la,.int .i64 c.po],.int .i64 L,.agg #[.int .i64 a,.int .i64 b]] w (NumTo w n pd e1))∧(∀ w,FTab w→Calls Tryz.prog 7 #[.agg #[.string c.nm,.int .i64 c.k,.int .i64 c.d,.int .i64 c.m,.int .i64 c.s,.int .i64 c.sh,.int .i64 c.p0,.int .i64 c.p1,.int .i64 c.p2,.int .i64 c.cy,.int .i64 c.ex,.int .i64 c.fi,.int .i64 c.la,.int .i64 c.po],.int .i64 L,.agg #[.int .i64 a,.int .i64 b]] w (NumTo w n pd e1))∧(∀ w,FTab w→Calls Tryz.prog 8 #[.agg #[.string c.nm,.int .i64 c.k,.int .i64 c.d,.int .i64 c.m,.int .i64 c.s,.int .i64 c.sh,.int .i64 c.p0,.int .i64 c.p1,.int .i64 c.p2,.int .i64 c.cy,.int .i64 c.ex,.int .i64 c.fi,.int .i64 c.la,.int .i64 c.po],.int .i64 L,.int .i64 A,.agg #[.int .i64 a,.int .i64 b]] w (ShTo w c L A pd u n e1))∧(∀ w,FTab w→Calls Tryz.prog 9 #[.agg #[.string c.nm,.int .i64 c.k,.int .i64 c.d,.int .i64 c.m,.int .i64 c.s,.int .i64 c.sh,.int .i64 c.p0,.int .i64 c.p1,.int .i64 c.p2,.int .i64 c.cy,.int .i64 c.ex,.int .i64 c.fi,.int .i64 c.la,.int .i64 c.po],.int .i64 L,.int .i64 A,.agg #[.int .i64 a,.int .i64 b]] w (ShTo w c L A pd u n e1))∧(∀ w,FTab w→Calls Tryz.prog 10 #[.agg #[.string c.nm,.int .i64 c.k,.int .i64 c.d,.int .i64 c.m,.int .i64 c.s,.int .i64 c.sh,.int .i64 c.p0,.int .i64 c.p1,.int .i64 c.p2,.int .i64 c.cy,.int .i64 c.ex,.int .i64 c.fi,.int .i64 c.la,.int .i64 c.po],.int .i64 L,.int .i64 A,.agg #[.int .i64 a,.int .i64 b]] w (RatTo w m p q e2))∧(∀ w,FTab w→Calls Tryz.prog 11 #[.agg #[.string c.nm,.int .i64 c.k,.int .i64 c.d,.int .i64 c.m,.int .i64 c.s,.int .i64 c.sh,.int .i64 c.p0,.int .i64 c.p1,.int .i64 c.p2,.int .i64 c.cy,.int .i64 c.ex,.int .i64 c.fi,.int .i64 c.la,.int .i64 c.po],.int .i64 L,.int .i64 A,.agg #[.int .i64 a,.int .i64 b]] w (RatTo w m p q e2))

set_option maxRecDepth 100000 in
theorem rdoes_any (c:CalZ)(L A a b:Int)(w:World)(tb:FTab w)(HB:(c.nm.size≤100∧(a≤b→0≤a→b≤3068036→b - a≤1500))→Six c L A a b) :
  Calls Tryz.prog 3 #[.agg #[.string c.nm,.int .i64 c.k,.int .i64 c.d,.int .i64 c.m,.int .i64 c.s,.int .i64 c.sh,.int .i64 c.p0,.int .i64 c.p1,.int .i64 c.p2,.int .i64 c.cy,.int .i64 c.ex,.int .i64 c.fi,.int .i64 c.la,.int .i64 c.po],.int .i64 L,.int .i64 A,.agg #[.int .i64 a,.int .i64 b]] w fun e w'=>e= .returned (.bool true)∧Below w.heap.size w w':=by
 have T:=tb
 have C:=CalIn.new w c 24
 have S:=Pr.Two.new (w.alloc (.cells #[.string c.nm,.int .i64 c.k,.int .i64 c.d,.int .i64 c.m,.int .i64 c.s,.int .i64 c.sh,.int .i64 c.p0,.int .i64 c.p1,.int .i64 c.p2,.int .i64 c.cy,.int .i64 c.ex,.int .i64 c.fi,.int .i64 c.la,.int .i64 c.po] 24)) (.int .i64 a) (.int .i64 b) 26
 rw [World.size_alloc] at S
 replace C:=C.alloc (.cells #[.int .i64 a,.int .i64 b] 26)
 have B:=balloc (balloc (Below.refl _ w) (.cells #[.string c.nm,.int .i64 c.k,.int .i64 c.d,.int .i64 c.m,.int .i64 c.s,.int .i64 c.sh,.int .i64 c.p0,.int .i64 c.p1,.int .i64 c.p2,.int .i64 c.cy,.int .i64 c.ex,.int .i64 c.fi,.int .i64 c.la,.int .i64 c.po] 24)) (.cells #[.int .i64 a,.int .i64 b] 26)
 replace T:=(T.alloc (.cells #[.string c.nm,.int .i64 c.k,.int .i64 c.d,.int .i64 c.m,.int .i64 c.s,.int .i64 c.sh,.int .i64 c.p0,.int .i64 c.p1,.int .i64 c.p2,.int .i64 c.cy,.int .i64 c.ex,.int .i64 c.fi,.int .i64 c.la,.int .i64 c.po] 24)).alloc (.cells #[.int .i64 a,.int .i64 b] 26)
 have HB2:=Lib.hid HB
 clear HB
 go_enter Tryz.func3,Tryz.ntmps3
 go_upto_region 1 with fail
 generalize (w.alloc (.cells #[.string c.nm,.int .i64 c.k,.int .i64 c.d,.int .i64 c.m,.int .i64 c.s,.int .i64 c.sh,.int .i64 c.p0,.int .i64 c.p1,.int .i64 c.p2,.int .i64 c.cy,.int .i64 c.ex,.int .i64 c.fi,.int .i64 c.la,.int .i64 c.po] 24)).alloc (.cells #[.int .i64 a,.int .i64 b] 26)=W0 at *
 obtain ⟨_,c0,c1,c2,c3,c4,c5,c6,c7,c8,c9,c10,c11,c12,c13⟩:=id C
 obtain ⟨_,s0,s1,fs0,fs1⟩:=id S
 go_wp2_with fail
 refine (rlive_ok _ T).mono ?_
 rintro e w1 ⟨rfl,hb⟩
 replace C:=C.kept hb
 replace B:=bthen B hb
 replace T:=T.kept hb
 replace S:=S.kept hb
 clear hb c0 c1 c2 c3 c4 c5 c6 c7 c8 c9 c10 c11 c12 c13 s0 s1 fs0 fs1
 obtain ⟨_,c0,c1,c2,c3,c4,c5,c6,c7,c8,c9,c10,c11,c12,c13⟩:=id C
 obtain ⟨_,s0,s1,fs0,fs1⟩:=id S
 go_wp2_with fail
 refine (rbrief_any c a b _).mono ?_
 rintro e w2 ⟨r,rfl,hb,hr⟩
 replace C:=C.kept hb
 replace B:=bthen B hb
 replace T:=T.kept hb
 replace S:=S.kept hb
 clear hb c0 c1 c2 c3 c4 c5 c6 c7 c8 c9 c10 c11 c12 c13 s0 s1 fs0 fs1
 obtain ⟨_,c0,c1,c2,c3,c4,c5,c6,c7,c8,c9,c10,c11,c12,c13⟩:=id C
 obtain ⟨_,s0,s1,fs0,fs1⟩:=id S
 cases r
 ·go_wp2
  go_ret
  exact ⟨by simp,B⟩
 obtain ⟨n,m,pd,p,q,u,e1,e2,N1,N2,k1,k2,k3,k4,k5,k6⟩:=HB2.out (hr rfl)
 clear hr HB2
 have n2:(e1==e1)=true:=beq_self_eq_true e1
 have n3:(e2==e2)=true:=beq_self_eq_true e2
 have H1:=Lib.hid N1
 have H2:=Lib.hid N2
 clear N1 N2
 go_wp2_with fail
 refine (k1 _ T).mono ?_
 rintro e w3 ⟨v1,rfl,A1,hb⟩
 replace C:=C.kept hb
 replace B:=bthen B hb
 replace T:=T.kept hb
 replace S:=S.kept hb
 clear hb c0 c1 c2 c3 c4 c5 c6 c7 c8 c9 c10 c11 c12 c13 s0 s1 fs0 fs1
 obtain ⟨_,c0,c1,c2,c3,c4,c5,c6,c7,c8,c9,c10,c11,c12,c13⟩:=id C
 obtain ⟨_,s0,s1,fs0,fs1⟩:=id S
 obtain ⟨_⟩:=id A1
 go_wp2_with fail
 refine (k2 _ T).mono ?_
 rintro e w4 ⟨v2,rfl,A2,hb⟩
 replace C:=C.kept hb
 replace B:=bthen B hb
 replace T:=T.kept hb
 replace S:=S.kept hb
 replace A1:=A1.kept hb
 clear hb c0 c1 c2 c3 c4 c5 c6 c7 c8 c9 c10 c11 c12 c13 s0 s1 fs0 fs1
 obtain ⟨_,c0,c1,c2,c3,c4,c5,c6,c7,c8,c9,c10,c11,c12,c13⟩:=id C
 obtain ⟨_,s0,s1,fs0,fs1⟩:=id S
 obtain ⟨_⟩:=id A1
 obtain ⟨_⟩:=id A2
 go_wp2_with fail
 refine (k3 _ T).mono ?_
 rintro e w5 ⟨v3,rfl,A3,hb⟩
 replace C:=C.kept hb
 replace B:=bthen B hb
 replace T:=T.kept hb
 replace S:=S.kept hb
 replace A1:=A1.kept hb
 replace A2:=A2.kept hb
 clear hb c0 c1 c2 c3 c4 c5 c6 c7 c8 c9 c10 c11 c12 c13 s0 s1 fs0 fs1
 obtain ⟨_,c0,c1,c2,c3,c4,c5,c6,c7,c8,c9,c10,c11,c12,c13⟩:=id C
 obtain ⟨_,s0,s1,fs0,fs1⟩:=id S
 obtain ⟨_⟩:=id A1
 obtain ⟨_⟩:=id A2
 obtain ⟨_⟩:=id A3
 go_wp2_with fail
 refine (k4 _ T).mono ?_
 rintro e w6 ⟨v4,rfl,A4,hb⟩
 replace C:=C.kept hb
 replace B:=bthen B hb
 replace T:=T.kept hb
 replace S:=S.kept hb
 replace A1:=A1.kept hb
 replace A2:=A2.kept hb
 replace A3:=A3.kept hb
 clear hb c0 c1 c2 c3 c4 c5 c6 c7 c8 c9 c10 c11 c12 c13 s0 s1 fs0 fs1
 obtain ⟨_,c0,c1,c2,c3,c4,c5,c6,c7,c8,c9,c10,c11,c12,c13⟩:=id C
 obtain ⟨_,s0,s1,fs0,fs1⟩:=id S
 obtain ⟨_⟩:=id A1
 obtain ⟨_⟩:=id A2
 obtain ⟨_⟩:=id A3
 obtain ⟨_⟩:=id A4
 go_wp2_with fail
 refine (k5 _ T).mono ?_
 rintro e w7 ⟨v5,rfl,A5,hb⟩
 replace C:=C.kept hb
 replace B:=bthen B hb
 replace T:=T.kept hb
 replace S:=S.kept hb
 replace A1:=A1.kept hb
 replace A2:=A2.kept hb
 replace A3:=A3.kept hb
 replace A4:=A4.kept hb
 clear hb c0 c1 c2 c3 c4 c5 c6 c7 c8 c9 c10 c11 c12 c13 s0 s1 fs0 fs1
 obtain ⟨_,c0,c1,c2,c3,c4,c5,c6,c7,c8,c9,c10,c11,c12,c13⟩:=id C
 obtain ⟨_,s0,s1,fs0,fs1⟩:=id S
 obtain ⟨_⟩:=id A1
 obtain ⟨_⟩:=id A2
 obtain ⟨_⟩:=id A3
 obtain ⟨_⟩:=id A4
 obtain ⟨_⟩:=id A5
 go_wp2_with fail
 refine (k6 _ T).mono ?_
 rintro e w8 ⟨v6,rfl,A6,hb⟩
 replace C:=C.kept hb
 replace B:=bthen B hb
 replace T:=T.kept hb
 replace S:=S.kept hb
 replace A1:=A1.kept hb
 replace A2:=A2.kept hb
 replace A3:=A3.kept hb
 replace A4:=A4.kept hb
 replace A5:=A5.kept hb
 clear hb c0 c1 c2 c3 c4 c5 c6 c7 c8 c9 c10 c11 c12 c13 s0 s1 fs0 fs1
 obtain ⟨_,c0,c1,c2,c3,c4,c5,c6,c7,c8,c9,c10,c11,c12,c13⟩:=id C
 obtain ⟨_,s0,s1,fs0,fs1⟩:=id S
 obtain ⟨_⟩:=id A1
 obtain ⟨_⟩:=id A2
 obtain ⟨_⟩:=id A3
 obtain ⟨_⟩:=id A4
 obtain ⟨_⟩:=id A5
 obtain ⟨_⟩:=id A6
 clear k1 k2 k3 k4 k5 k6
 go_wp2_with fail
 refine (same_num n pd v1 v2 _ H1.out A1 A2).mono ?_
 rintro e w9 ⟨rfl,hb⟩
 replace C:=C.kept hb
 replace B:=bthen B hb
 replace T:=T.kept hb
 replace S:=S.kept hb
 replace A1:=A1.kept hb
 replace A2:=A2.kept hb
 replace A3:=A3.kept hb
 replace A4:=A4.kept hb
 replace A5:=A5.kept hb
 replace A6:=A6.kept hb
 clear hb c0 c1 c2 c3 c4 c5 c6 c7 c8 c9 c10 c11 c12 c13 s0 s1 fs0 fs1
 obtain ⟨_,c0,c1,c2,c3,c4,c5,c6,c7,c8,c9,c10,c11,c12,c13⟩:=id C
 obtain ⟨_,s0,s1,fs0,fs1⟩:=id S
 obtain ⟨_⟩:=id A1
 obtain ⟨_⟩:=id A2
 obtain ⟨_⟩:=id A3
 obtain ⟨_⟩:=id A4
 obtain ⟨_⟩:=id A5
 obtain ⟨_⟩:=id A6
 go_wp2_with fail
 refine (same_sh c L A pd u n v3 v4 _ H1.out A3 A4).mono ?_
 rintro e w10 ⟨rfl,hb⟩
 replace C:=C.kept hb
 replace B:=bthen B hb
 replace T:=T.kept hb
 replace S:=S.kept hb
 replace A1:=A1.kept hb
 replace A2:=A2.kept hb
 replace A3:=A3.kept hb
 replace A4:=A4.kept hb
 replace A5:=A5.kept hb
 replace A6:=A6.kept hb
 clear hb c0 c1 c2 c3 c4 c5 c6 c7 c8 c9 c10 c11 c12 c13 s0 s1 fs0 fs1
 obtain ⟨_,c0,c1,c2,c3,c4,c5,c6,c7,c8,c9,c10,c11,c12,c13⟩:=id C
 obtain ⟨_,s0,s1,fs0,fs1⟩:=id S
 obtain ⟨_⟩:=id A1
 obtain ⟨_⟩:=id A2
 obtain ⟨_⟩:=id A3
 obtain ⟨_⟩:=id A4
 obtain ⟨_⟩:=id A5
 obtain ⟨_⟩:=id A6
 go_wp2_with fail
 refine (same_rat m p q v5 v6 _ H2.out A5 A6).mono ?_
 rintro e w11 ⟨rfl,hb⟩
 replace C:=C.kept hb
 replace B:=bthen B hb
 replace T:=T.kept hb
 replace S:=S.kept hb
 replace A1:=A1.kept hb
 replace A2:=A2.kept hb
 replace A3:=A3.kept hb
 replace A4:=A4.kept hb
 replace A5:=A5.kept hb
 replace A6:=A6.kept hb
 clear hb c0 c1 c2 c3 c4 c5 c6 c7 c8 c9 c10 c11 c12 c13 s0 s1 fs0 fs1
 obtain ⟨_,c0,c1,c2,c3,c4,c5,c6,c7,c8,c9,c10,c11,c12,c13⟩:=id C
 obtain ⟨_,s0,s1,fs0,fs1⟩:=id S
 obtain ⟨_⟩:=id A1
 obtain ⟨_⟩:=id A2
 obtain ⟨_⟩:=id A3
 obtain ⟨_⟩:=id A4
 obtain ⟨_⟩:=id A5
 obtain ⟨_⟩:=id A6
 go_wp2
 go_ret
 exact ⟨by simp,B⟩

theorem rdoes_walk (c:CalZ)(L A a b:Int)(w:World)(wf:CalWf c)(wL:(Lit.int .i64 L).wf=true)(wA:(Lit.int .i64 A).wf=true)(w1:(Lit.int .i64 a).wf=true)(w2:(Lit.int .i64 b).wf=true)(tb:FTab w) :
  Calls Tryz.prog 3 #[.agg #[.string c.nm,.int .i64 c.k,.int .i64 c.d,.int .i64 c.m,.int .i64 c.s,.int .i64 c.sh,.int .i64 c.p0,.int .i64 c.p1,.int .i64 c.p2,.int .i64 c.cy,.int .i64 c.ex,.int .i64 c.fi,.int .i64 c.la,.int .i64 c.po],.int .i64 L,.int .i64 A,.agg #[.int .i64 a,.int .i64 b]] w fun e w'=>e= .returned (.bool true)∧Below w.heap.size w w':=by
 have hm:=wf.1
 have K:ChkSays c:=fun h w R=>Fr.rCheck_any c h w R hm
 have O:OfSays c:=fun n y er w R=>Jr.rOf_any c n y er w R K
 have fa:Fit1 A:=bounds_i64 wA
 refine rdoes_any c L A a b w tb (fun hbr=>?_)
 rcases cut_ex c L a b with ⟨er,ne,R⟩|⟨y0,i0,y,n,N,h⟩
 ·refine ⟨0,0,fun _=>0,fun _=>0,fun _=>0,(0,0),er,er,by omega,by omega,?_,?_,?_,?_,?_,?_⟩
  ·exact fun w T=>(Days_er c L a b er w R ne hm T).mono (fun _ _ h=>⟨_,h.1,⟨.inl ⟨rfl,rfl⟩⟩,h.2⟩)
  ·exact fun w T=>(rDays_er c L a b er w R ne K O hm T).mono (fun _ _ h=>⟨_,h.1,⟨.inl ⟨rfl,rfl⟩⟩,h.2⟩)
  ·exact fun w T=>(Split_er c L A a b er w R ne hm T).mono (fun _ _ h=>⟨_,h.1,⟨.inl ⟨rfl,rfl⟩⟩,h.2⟩)
  ·exact fun w T=>(rSplit_er c L A a b er w R ne K O hm T).mono (fun _ _ h=>⟨_,h.1,⟨.inl ⟨rfl,rfl⟩⟩,h.2⟩)
  ·exact fun w T=>(Exact_er c L A a b er w R ne hm T).mono (fun _ _ h=>⟨_,h.1,⟨.inl ⟨rfl,rfl⟩⟩,h.2⟩)
  ·exact fun w T=>(rExact_er c L A a b er w R ne K O hm T).mono (fun _ _ h=>⟨_,h.1,⟨.inl ⟨rfl,rfl⟩⟩,h.2⟩)
 ·have bd:=h.bd
  have ab:=h.ab
  have br:=hbr.2 ab bd.1 bd.2.1
  have M1:N+1≤4096:=by omega
  have k1:(∀ w,FTab w→Calls Tryz.prog 6 #[.agg #[.string c.nm,.int .i64 c.k,.int .i64 c.d,.int .i64 c.m,.int .i64 c.s,.int .i64 c.sh,.int .i64 c.p0,.int .i64 c.p1,.int .i64 c.p2,.int .i64 c.cy,.int .i64 c.ex,.int .i64 c.fi,.int .i64 c.la,.int .i64 c.po],.int .i64 L,.agg #[.int .i64 a,.int .i64 b]] w (NumTo w (N+1) (pday c L a b (y0,i0)) 0)):=fun w T=>(Days_ok c L a b y0 i0 y n N (N+1) w h rfl (by omega) hm T).mono (fun _ _ ⟨g,he,R,_,hb⟩=>⟨_,he,⟨.inr ⟨g,_,rfl,R⟩⟩,hb⟩)
  have k2:(∀ w,FTab w→Calls Tryz.prog 7 #[.agg #[.string c.nm,.int .i64 c.k,.int .i64 c.d,.int .i64 c.m,.int .i64 c.s,.int .i64 c.sh,.int .i64 c.p0,.int .i64 c.p1,.int .i64 c.p2,.int .i64 c.cy,.int .i64 c.ex,.int .i64 c.fi,.int .i64 c.la,.int .i64 c.po],.int .i64 L,.agg #[.int .i64 a,.int .i64 b]] w (NumTo w (N+1) (pday c L a b (y0,i0)) 0)):=fun w T=>(rDays_ok c L a b y0 i0 y n N (N+1) w h rfl (by omega) K O hm T).mono (fun _ _ ⟨g,cap,he,R,_,hb⟩=>⟨_,he,⟨.inr ⟨g,cap,rfl,R⟩⟩,hb⟩)
  have k3:(∀ w,FTab w→Calls Tryz.prog 8 #[.agg #[.string c.nm,.int .i64 c.k,.int .i64 c.d,.int .i64 c.m,.int .i64 c.s,.int .i64 c.sh,.int .i64 c.p0,.int .i64 c.p1,.int .i64 c.p2,.int .i64 c.cy,.int .i64 c.ex,.int .i64 c.fi,.int .i64 c.la,.int .i64 c.po],.int .i64 L,.int .i64 A,.agg #[.int .i64 a,.int .i64 b]] w (ShTo w c L A (pday c L a b (y0,i0)) (y0,i0) (N+1) 0)):=fun w T=>(Split_ok c L A a b y0 i0 y n N (N+1) w h rfl M1 fa hm T).mono (fun _ _ ⟨g,o,he,R,s,_,hb⟩=>⟨_,he,⟨.inr ⟨g,_,o,rfl,R,s⟩⟩,hb⟩)
  have k4:(∀ w,FTab w→Calls Tryz.prog 9 #[.agg #[.string c.nm,.int .i64 c.k,.int .i64 c.d,.int .i64 c.m,.int .i64 c.s,.int .i64 c.sh,.int .i64 c.p0,.int .i64 c.p1,.int .i64 c.p2,.int .i64 c.cy,.int .i64 c.ex,.int .i64 c.fi,.int .i64 c.la,.int .i64 c.po],.int .i64 L,.int .i64 A,.agg #[.int .i64 a,.int .i64 b]] w (ShTo w c L A (pday c L a b (y0,i0)) (y0,i0) (N+1) 0)):=fun w T=>(rSplit_ok c L A a b y0 i0 y n N (N+1) w h rfl M1 fa K O hm T).mono (fun _ _ ⟨g,cap,o,he,R,s,hb⟩=>⟨_,he,⟨.inr ⟨g,cap,o,rfl,R,s⟩⟩,hb⟩)
  rcases exact_ex A (b - a+1) (pday c L a b (y0,i0)) (N+1) (by omega) with ⟨p,q,R⟩|⟨k0,p,q,hk,R,RE⟩
  ·exact ⟨N+1,N+1,_,p,q,(y0,i0),0,0,M1,M1,k1,k2,k3,k4,fun w T=>(Exact_ok c L A a b y0 i0 y n N (N+1) p q w h rfl M1 fa R hm T).mono (fun _ _ ⟨g,he,R,_,hb⟩=>⟨_,he,⟨.inr ⟨g,_,rfl,R⟩⟩,hb⟩),fun w T=>(rExact_ok c L A a b y0 i0 y n N (N+1) p q w h rfl M1 fa R K O hm T).mono (fun _ _ ⟨g,cap,he,R,_,hb⟩=>⟨_,he,⟨.inr ⟨g,cap,rfl,R⟩⟩,hb⟩)⟩
  ·exact ⟨N+1,0,_,p,q,(y0,i0),0,2,M1,by omega,k1,k2,k3,k4,fun w T=>(Exact_over c L A a b y0 i0 y n N (N+1) k0 p q w h rfl M1 fa hk R RE hm T).mono (fun _ _ h=>⟨_,h.1,⟨.inl ⟨rfl,rfl⟩⟩,h.2⟩),fun w T=>(rExact_over c L A a b y0 i0 y n N (N+1) k0 p q w h rfl M1 fa hk R RE K O hm T).mono (fun _ _ h=>⟨_,h.1,⟨.inl ⟨rfl,rfl⟩⟩,h.2⟩)⟩

end Go.Proofs.YtoilomigceijaaaGreatDoor.Pl

