/- Texts that are joined: Jcode, Jcode2. -/
import Derived.Test.YtoilomigceijaaaGreatDoorQrJA
import Derived.Test.YtoilomigceijaaaGreatDoorQrJP
set_option linter.unusedSimpArgs false
set_option linter.unusedVariables false
namespace Go.Proofs.YtoilomigceijaaaGreatDoor.Jp
open Go.RowKit Bn Bx Cp Am Fp Ap Cm Em Ep

set_option maxHeartbeats 1000000

theorem lastOf_any (c:CalZ)(y v:Int)(w:World)(ok:CalOk c)(y0:1600≤y)(y1:y≤9997)(hv:v=yend c y)(hm:c.nm.size≤maxLen)(T:FTab w) :
  Calls Tryz.prog 166 #[.agg #[.string c.nm,.int .i64 c.k,.int .i64 c.d,.int .i64 c.m,.int .i64 c.s,.int .i64 c.sh,.int .i64 c.p0,.int .i64 c.p1,.int .i64 c.p2,.int .i64 c.cy,.int .i64 c.ex,.int .i64 c.fi,.int .i64 c.la,.int .i64 c.po],.int .i64 y] w fun e w'=>e= .returned (.int .i64 v)∧Below w.heap.size w w':=by
 have C:=CalIn.new w c 24
 have B:=balloc (Below.refl _ w) (.cells #[.string c.nm,.int .i64 c.k,.int .i64 c.d,.int .i64 c.m,.int .i64 c.s,.int .i64 c.sh,.int .i64 c.p0,.int .i64 c.p1,.int .i64 c.p2,.int .i64 c.cy,.int .i64 c.ex,.int .i64 c.fi,.int .i64 c.la,.int .i64 c.po] 24)
 have T0:=T.alloc (.cells #[.string c.nm,.int .i64 c.k,.int .i64 c.d,.int .i64 c.m,.int .i64 c.s,.int .i64 c.sh,.int .i64 c.p0,.int .i64 c.p1,.int .i64 c.p2,.int .i64 c.cy,.int .i64 c.ex,.int .i64 c.fi,.int .i64 c.la,.int .i64 c.po] 24)
 have ce:=fun w T=>End_any c y v 0 w (.inl ⟨ok,y0,y1,hv,rfl⟩) hm T
 clear ok hv
 go_enter Tryz.func166,Tryz.ntmps166
 go_upto_region 1 with fail
 generalize w.alloc (.cells #[.string c.nm,.int .i64 c.k,.int .i64 c.d,.int .i64 c.m,.int .i64 c.s,.int .i64 c.sh,.int .i64 c.p0,.int .i64 c.p1,.int .i64 c.p2,.int .i64 c.cy,.int .i64 c.ex,.int .i64 c.fi,.int .i64 c.la,.int .i64 c.po] 24)=W0 at *
 obtain ⟨_,c0,c1,c2,c3,c4,c5,c6,c7,c8,c9,c10,c11,c12,c13⟩:=id C
 go_wp2_with fail
 refine (ce _ T0).mono ?_
 rintro e w1 ⟨rfl,hb⟩
 go_wp2
 go_ret
 exact ⟨rfl,bthen B hb⟩

set_option maxRecDepth 100000 in
theorem Of_any (c:CalZ)(n y er:Int)(w:World)(R:OfA c n y er)(hm:c.nm.size≤maxLen)(T:FTab w) :
  Calls Tryz.prog 145 #[.agg #[.string c.nm,.int .i64 c.k,.int .i64 c.d,.int .i64 c.m,.int .i64 c.s,.int .i64 c.sh,.int .i64 c.p0,.int .i64 c.p1,.int .i64 c.p2,.int .i64 c.cy,.int .i64 c.ex,.int .i64 c.fi,.int .i64 c.la,.int .i64 c.po],.int .i64 n] w fun e w'=>e= .returned (.tuple #[.int .i64 y,.int .i64 er])∧Below w.heap.size w w':=by
 have C:=CalIn.new w c 24
 have B:=balloc (Below.refl _ w) (.cells #[.string c.nm,.int .i64 c.k,.int .i64 c.d,.int .i64 c.m,.int .i64 c.s,.int .i64 c.sh,.int .i64 c.p0,.int .i64 c.p1,.int .i64 c.p2,.int .i64 c.cy,.int .i64 c.ex,.int .i64 c.fi,.int .i64 c.la,.int .i64 c.po] 24)
 have T0:=T.alloc (.cells #[.string c.nm,.int .i64 c.k,.int .i64 c.d,.int .i64 c.m,.int .i64 c.s,.int .i64 c.sh,.int .i64 c.p0,.int .i64 c.p1,.int .i64 c.p2,.int .i64 c.cy,.int .i64 c.ex,.int .i64 c.fi,.int .i64 c.la,.int .i64 c.po] 24)
 have O:(∃ h,h=1∧ChkA c h∧y=0∧er=1)∨(CalOk c∧¬ (0≤n∧n≤3068036)∧y=0∧er=4)∨(CalOk c∧0≤n∧n≤3068036):=by
  rcases R with ⟨ok,h0,h1,_⟩|⟨ok,h0,h1,_⟩|⟨ok,h,h2,h3⟩|⟨no,h2,h3⟩
  ·exact .inr (.inr ⟨ok,h0,h1⟩)
  ·exact .inr (.inr ⟨ok,h0,h1⟩)
  ·exact .inr (.inl ⟨ok,h,h2,h3⟩)
  ·exact .inl ⟨1,rfl,.inr ⟨no,rfl⟩,h2,h3⟩
 rcases O with ⟨h,rfl,ch,rfl,rfl⟩|⟨ok,hn,rfl,rfl⟩|⟨ok,n0,n1⟩
 ·have ck:=fun w T=>Check_any c 1 w ch hm T
  clear ch R
  go_enter Tryz.func145,Tryz.ntmps145
  go_upto_region 1 with fail
  generalize w.alloc (.cells #[.string c.nm,.int .i64 c.k,.int .i64 c.d,.int .i64 c.m,.int .i64 c.s,.int .i64 c.sh,.int .i64 c.p0,.int .i64 c.p1,.int .i64 c.p2,.int .i64 c.cy,.int .i64 c.ex,.int .i64 c.fi,.int .i64 c.la,.int .i64 c.po] 24)=W0 at *
  obtain ⟨_,c0,c1,c2,c3,c4,c5,c6,c7,c8,c9,c10,c11,c12,c13⟩:=id C
  go_wp2_with fail
  refine (ck _ T0).mono ?_
  rintro e w1 ⟨rfl,hb⟩
  go_wp2
  go_ret2
  exact ⟨rfl,bthen B hb⟩
 ·have ck:=fun w T=>Check_any c 0 w (.inl ⟨ok,rfl⟩) hm T
  have co:=fun w T=>Cp.Of_any n 0 0 0 4 w (.inr ⟨hn,rfl,rfl,rfl,rfl⟩) T
  clear ok hn R
  go_enter Tryz.func145,Tryz.ntmps145
  go_upto_region 1 with fail
  generalize w.alloc (.cells #[.string c.nm,.int .i64 c.k,.int .i64 c.d,.int .i64 c.m,.int .i64 c.s,.int .i64 c.sh,.int .i64 c.p0,.int .i64 c.p1,.int .i64 c.p2,.int .i64 c.cy,.int .i64 c.ex,.int .i64 c.fi,.int .i64 c.la,.int .i64 c.po] 24)=W0 at *
  obtain ⟨_,c0,c1,c2,c3,c4,c5,c6,c7,c8,c9,c10,c11,c12,c13⟩:=id C
  go_wp2_with fail
  refine (ck _ T0).mono ?_
  rintro e w1 ⟨rfl,hb⟩
  have B1:=bthen B hb
  have T1:=T0.kept hb
  go_wp2_with fail
  refine (co _ T1.civ).mono ?_
  rintro e w2 ⟨rfl,hb2⟩
  go_wp2
  go_ret2
  exact ⟨rfl,balloc (bthen B1 hb2) _⟩
 ·have ck:=fun w T=>Check_any c 0 w (.inl ⟨ok,rfl⟩) hm T
  obtain ⟨Y,M,D,od,on⟩:=num_ex n0 n1
  have co:=fun w T=>Cp.Of_any n Y M D 0 w (.inl ⟨n0,n1,od,on,rfl⟩) T
  have nb:=num_bd od
  rw [on] at nb
  obtain ⟨s,hs⟩:∃ s,s=max (Y - 1 - c.s) 1600:=⟨_,rfl⟩
  have kb:=kind_bd ok.1
  obtain ⟨yf,s0,s1⟩:=year_from ok.1 od.1.1 od.1.2.1 nb.1 nb.2 hs
  have YF:=Lib.hid (fun g=>(yf g).2)
  have HS:Hid (s=max (Y - 1 - c.s) 1600):=Lib.hid hs
  have Y0:=od.1.1
  have Y1:=od.1.2.1
  have q0:=kb.2.2.1
  have q1:=kb.2.2.2.1
  have cl:=fun k v h0 h1 hv w T=>lastOf_any c k v w ok h0 h1 hv hm T
  have OK:=Lib.hid ok
  have HR:=Lib.hid R
  clear od on nb kb yf hs R ok
  go_enter Tryz.func145,Tryz.ntmps145
  go_upto_region 1 with fail
  generalize w.alloc (.cells #[.string c.nm,.int .i64 c.k,.int .i64 c.d,.int .i64 c.m,.int .i64 c.s,.int .i64 c.sh,.int .i64 c.p0,.int .i64 c.p1,.int .i64 c.p2,.int .i64 c.cy,.int .i64 c.ex,.int .i64 c.fi,.int .i64 c.la,.int .i64 c.po] 24)=W0 at *
  obtain ⟨_,c0,c1,c2,c3,c4,c5,c6,c7,c8,c9,c10,c11,c12,c13⟩:=id C
  go_wp2_with fail
  refine (ck _ T0).mono ?_
  rintro e w1 ⟨rfl,hb⟩
  have C1:=C.kept hb
  have B1:=bthen B hb
  have T1:=T0.kept hb
  clear hb C B T0 ck c0 c1 c2 c3 c4 c5 c6 c7 c8 c9 c10 c11 c12 c13
  obtain ⟨_,c0,c1,c2,c3,c4,c5,c6,c7,c8,c9,c10,c11,c12,c13⟩:=id C1
  go_wp2_with fail
  refine (co _ T1.civ).mono ?_
  rintro e w2 ⟨rfl,hb⟩
  replace C1:=(C1.kept hb).alloc (.cells #[.int .i64 Y,.int .i64 M,.int .i64 D] 104)
  have B2:=balloc (bthen B1 hb) (.cells #[.int .i64 Y,.int .i64 M,.int .i64 D] 104)
  have T2:=(T1.kept hb).alloc (.cells #[.int .i64 Y,.int .i64 M,.int .i64 D] 104)
  clear hb T1 B1 co c0 c1 c2 c3 c4 c5 c6 c7 c8 c9 c10 c11 c12 c13
  obtain ⟨_,c0,c1,c2,c3,c4,c5,c6,c7,c8,c9,c10,c11,c12,c13⟩:=id C1
  go_wp2
  all_goals
   go_loopw [9] (fun M wr=>∃ k:Int,1600≤k∧k≤9998∧Hid (1600<k→yend c (k - 1)<n)∧M= .int .i64 k∧Below w.heap.size w wr∧CalIn wr w.heap.size c) (fun M _=>(9999 - intOf M).toNat)
   case atStart=>exact ⟨s,s0,s1,YF,by have:=HS.out;first|rfl|(congr 1;omega),B2,C1⟩
   case round =>
    clear B2 C1 T2 c0 c1 c2 c3 c4 c5 c6 c7 c8 c9 c10 c11 c12 c13
    obtain ⟨k,k0,k1,HK,rfl,B3,C3⟩:=hrel
    have T3:=T.kept B3
    obtain ⟨_,c0,c1,c2,c3,c4,c5,c6,c7,c8,c9,c10,c11,c12,c13⟩:=id C3
    by_cases k9:k=9998
    ·subst k9
     have E:Hid (y=0∧er=11):=Lib.hid (by
      have h1:yend c 9997<n:=HK.out (by omega)
      rcases HR.out with ⟨_,_,_,y0,y1,_,yb,_⟩|⟨_,_,_,_,h2,h3⟩|⟨_,h,_⟩|⟨no,_⟩
      ·by_cases e:y=9997
       ·subst e;omega
       ·have:=yend_lt OK.out.1 (a:=y) (b:=9997) (by omega) (by omega) (by omega);omega
      ·exact ⟨h2,h3⟩
      ·omega
      ·exact absurd OK.out no)
     clear HK
     obtain ⟨e1,e2⟩:=E.out
     subst e1 e2
     go_wp2_with fail
     go_ret2
     exact ⟨rfl,B3⟩
    ·have k2:k≤9997:=by omega
     obtain ⟨v,hv⟩:∃ v,v=yend c k:=⟨_,rfl⟩
     have cv:=cl k v k0 k2 hv
     by_cases hlt:v<n
     ·have HK2:Hid (1600<k+1→yend c (k+1 - 1)<n):=Lib.hid (fun _=>by rw [show k+1 - 1=k by omega,← hv];exact hlt)
      clear hv HK
      go_wp2_with fail
      refine (cv _ T3).mono ?_
      rintro e w4 ⟨rfl,hb⟩
      have B4:=bthen B3 hb
      have C4:=C3.kept hb
      clear hb T3 B3 C3 cv c0 c1 c2 c3 c4 c5 c6 c7 c8 c9 c10 c11 c12 c13
      go_wp2_with fail
      go_roundw
      case rel=>exact ⟨k+1,by omega,by omega,HK2,by go_num,B4,C4⟩
      case measure=>simp [intOf];omega
     ·have E:Hid ((k=1600∧y=0∧er=11)∨(k≠1600∧y=k∧er=0)):=Lib.hid (by
       by_cases e:k=1600
       ·subst e
        refine .inl ⟨rfl,?_⟩
        rcases HR.out with ⟨_,_,_,y0,y1,ya,yb,_⟩|⟨_,_,_,_,h2,h3⟩|⟨_,h,_⟩|⟨no,_⟩
        ·by_cases e2:y - 1=1600
         ·rw [e2] at ya;omega
         ·have:=yend_lt OK.out.1 (a:=1600) (b:=y - 1) (by omega) (by omega) (by omega);omega
        ·exact ⟨h2,h3⟩
        ·omega
        ·exact absurd OK.out no
       ·refine .inr ⟨e,?_⟩
        have h1:=HK.out (by omega)
        rcases HR.out with ⟨_,_,_,y0,y1,ya,yb,h3⟩|⟨_,_,_,h2,_,_⟩|⟨_,h,_⟩|⟨no,_⟩
        ·exact ⟨year_uniq OK.out.1 y0 y1 ya yb (by omega) (by omega) h1 (by omega),h3⟩
        ·rcases h2 with h2|h2
         ·by_cases e2:k - 1=1600
          ·rw [e2] at h1;omega
          ·have:=yend_lt OK.out.1 (a:=1600) (b:=k - 1) (by omega) (by omega) (by omega);omega
         ·by_cases e2:k=9997
          ·subst e2;omega
          ·have:=yend_lt OK.out.1 (a:=k) (b:=9997) (by omega) (by omega) (by omega);omega
        ·omega
        ·exact absurd OK.out no)
      clear hv HK
      go_wp2_with fail
      refine (cv _ T3).mono ?_
      rintro e w4 ⟨rfl,hb⟩
      have B4:=bthen B3 hb
      clear hb T3 B3 C3 cv c0 c1 c2 c3 c4 c5 c6 c7 c8 c9 c10 c11 c12 c13
      rcases E.out with ⟨e1,e2,e3⟩|⟨e1,e2,e3⟩
      ·subst e1 e2 e3
       go_wp2_with fail
       go_ret2
       exact ⟨rfl,B4⟩
      ·subst e2 e3
       have dk:(y==1600)=false:=beq_eq_false_iff_ne.2 e1
       go_wp2_with fail
       go_ret2
       exact ⟨rfl,B4⟩

end Go.Proofs.YtoilomigceijaaaGreatDoor.Jp

namespace Go.Proofs.YtoilomigceijaaaGreatDoor.Jp
open Go.RowKit Bn Bx Cp Am Fp Ap Cm Em Ep

set_option maxHeartbeats 1000000

theorem ofa_cases {c:CalZ}{n y er:Int}(R:OfA c n y er):(er=0∧CalOk c∧1601≤y∧y≤9997∧0≤n∧n≤3068036)∨(y=0∧er=11)∨(y=0∧er=4)∨(y=0∧er=1):=by
 rcases R with ⟨ok,n0,n1,y0,y1,_,_,h⟩|⟨_,_,_,_,h2,h3⟩|⟨_,_,h2,h3⟩|⟨_,h2,h3⟩
 ·exact .inl ⟨h,ok,y0,y1,n0,n1⟩
 ·exact .inr (.inl ⟨h2,h3⟩)
 ·exact .inr (.inr (.inl ⟨h2,h3⟩))
 ·exact .inr (.inr (.inr ⟨h2,h3⟩))

theorem Served_any (c:CalZ)(n v er:Int)(w:World)(R:ServedA c n v er)(hm:c.nm.size≤maxLen)(T:FTab w) :
  Calls Tryz.prog 101 #[.agg #[.string c.nm,.int .i64 c.k,.int .i64 c.d,.int .i64 c.m,.int .i64 c.s,.int .i64 c.sh,.int .i64 c.p0,.int .i64 c.p1,.int .i64 c.p2,.int .i64 c.cy,.int .i64 c.ex,.int .i64 c.fi,.int .i64 c.la,.int .i64 c.po],.int .i64 n] w fun e w'=>e= .returned (.tuple #[.int .i64 v,.int .i64 er])∧Below w.heap.size w w':=by
 obtain ⟨y,e0,R,O⟩:=R
 have co:=fun w T=>Of_any c n y e0 w R hm T
 have C:=CalIn.new w c 24
 have B:=balloc (Below.refl _ w) (.cells #[.string c.nm,.int .i64 c.k,.int .i64 c.d,.int .i64 c.m,.int .i64 c.s,.int .i64 c.sh,.int .i64 c.p0,.int .i64 c.p1,.int .i64 c.p2,.int .i64 c.cy,.int .i64 c.ex,.int .i64 c.fi,.int .i64 c.la,.int .i64 c.po] 24)
 have T0:=T.alloc (.cells #[.string c.nm,.int .i64 c.k,.int .i64 c.d,.int .i64 c.m,.int .i64 c.s,.int .i64 c.sh,.int .i64 c.p0,.int .i64 c.p1,.int .i64 c.p2,.int .i64 c.cy,.int .i64 c.ex,.int .i64 c.fi,.int .i64 c.la,.int .i64 c.po] 24)
 have O2:(e0=0∧c.fi≤y∧y≤c.la∧v=y∧er=0)∨(e0=0∧y<c.fi∧v=0∧er=11)∨(e0=0∧c.fi≤y∧c.la<y∧v=0∧er=11)∨(y=0∧v=0∧er=11∧e0=11)∨(y=0∧v=0∧er=4∧e0=4)∨(y=0∧v=0∧er=1∧e0=1):=by
  have q:=ofa_cases R
  rcases O with ⟨h1,h2,h3⟩|⟨h1,h2,h3,h4,h5⟩|⟨h1,h2,h3,h4⟩
  ·rcases q with ⟨h,_⟩|⟨h,h'⟩|⟨h,h'⟩|⟨h,h'⟩
   ·exact absurd h h1
   ·exact .inr (.inr (.inr (.inl ⟨h,h2,by omega,h'⟩)))
   ·exact .inr (.inr (.inr (.inr (.inl ⟨h,h2,by omega,h'⟩))))
   ·exact .inr (.inr (.inr (.inr (.inr ⟨h,h2,by omega,h'⟩))))
  ·exact .inl ⟨h1,h2,h3,h4,h5⟩
  ·by_cases k:c.fi≤y
   ·exact .inr (.inr (.inl ⟨h1,k,by omega,h3,h4⟩))
   ·exact .inr (.inl ⟨h1,by omega,h3,h4⟩)
 clear O R
 rcases O2 with ⟨rfl,h1,h2,rfl,rfl⟩|⟨rfl,h1,rfl,rfl⟩|⟨rfl,h1,h2,rfl,rfl⟩|⟨rfl,rfl,rfl,rfl⟩|⟨rfl,rfl,rfl,rfl⟩|⟨rfl,rfl,rfl,rfl⟩
 all_goals
  go_enter Tryz.func101,Tryz.ntmps101
  go_upto_region 1 with fail
  generalize w.alloc (.cells #[.string c.nm,.int .i64 c.k,.int .i64 c.d,.int .i64 c.m,.int .i64 c.s,.int .i64 c.sh,.int .i64 c.p0,.int .i64 c.p1,.int .i64 c.p2,.int .i64 c.cy,.int .i64 c.ex,.int .i64 c.fi,.int .i64 c.la,.int .i64 c.po] 24)=W0 at *
  obtain ⟨_,c0,c1,c2,c3,c4,c5,c6,c7,c8,c9,c10,c11,c12,c13⟩:=id C
  go_wp2_with fail
  refine (co _ T0).mono ?_
  rintro e w1 ⟨rfl,hb⟩
  have C1:=C.kept hb
  have B1:=bthen B hb
  clear hb C B T0 c0 c1 c2 c3 c4 c5 c6 c7 c8 c9 c10 c11 c12 c13
  obtain ⟨_,c0,c1,c2,c3,c4,c5,c6,c7,c8,c9,c10,c11,c12,c13⟩:=id C1
  go_wp2
  go_ret2
  exact ⟨rfl,B1⟩

end Go.Proofs.YtoilomigceijaaaGreatDoor.Jp

