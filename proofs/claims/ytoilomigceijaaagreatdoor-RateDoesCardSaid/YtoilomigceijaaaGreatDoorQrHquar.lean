/- What Periods of the reference of layer 11, and Quarter of that of layer 15, come to; ShapeQuarters' walk. -/
import Derived.Test.YtoilomigceijaaaGreatDoorQrJW
import Derived.Test.YtoilomigceijaaaGreatDoorQrFcal
import Derived.OpenShut
import Derived.Test.YtoilomigceijaaaGreatDoorQrFrcheck
set_option linter.unusedSimpArgs false
set_option linter.unusedVariables false
namespace Go.Proofs.YtoilomigceijaaaGreatDoor.Hl
open Hp Go.RowKit Bn Bx Cp Am Fp Ap Cm Em Ep Rk

set_option maxHeartbeats 2000000

set_option maxRecDepth 100000 in
theorem rPeriods_any (c:CalZ)(v er:Int)(w:World)(R:PersA c v er)(hm:c.nm.size≤maxLen)(T:FTab w) :
  Calls Tryz.prog 67 #[.agg #[.string c.nm,.int .i64 c.k,.int .i64 c.d,.int .i64 c.m,.int .i64 c.s,.int .i64 c.sh,.int .i64 c.p0,.int .i64 c.p1,.int .i64 c.p2,.int .i64 c.cy,.int .i64 c.ex,.int .i64 c.fi,.int .i64 c.la,.int .i64 c.po]] w fun e w'=>e= .returned (.tuple #[.int .i64 v,.int .i64 er])∧Below w.heap.size w w':=by
 have C:=CalIn.new w c 24
 have B:=balloc (Below.refl _ w) (.cells #[.string c.nm,.int .i64 c.k,.int .i64 c.d,.int .i64 c.m,.int .i64 c.s,.int .i64 c.sh,.int .i64 c.p0,.int .i64 c.p1,.int .i64 c.p2,.int .i64 c.cy,.int .i64 c.ex,.int .i64 c.fi,.int .i64 c.la,.int .i64 c.po] 24)
 replace T:=T.alloc (.cells #[.string c.nm,.int .i64 c.k,.int .i64 c.d,.int .i64 c.m,.int .i64 c.s,.int .i64 c.sh,.int .i64 c.p0,.int .i64 c.p1,.int .i64 c.p2,.int .i64 c.cy,.int .i64 c.ex,.int .i64 c.fi,.int .i64 c.la,.int .i64 c.po] 24)
 rcases R with ⟨ok,hv,rfl⟩|⟨no,rfl,rfl⟩
 ·have ck:=fun w=>Fr.rCheck_any c 0 w (.inl ⟨ok,rfl⟩) hm
  have cp:=fun w=>Fr.many_any c v w (by rw [Fr.many_per ok.1];exact hv)
  clear ok hv
  go_enter Tryz.func67,Tryz.ntmps67
  go_upto_region 1 with fail
  generalize w.alloc (.cells #[.string c.nm,.int .i64 c.k,.int .i64 c.d,.int .i64 c.m,.int .i64 c.s,.int .i64 c.sh,.int .i64 c.p0,.int .i64 c.p1,.int .i64 c.p2,.int .i64 c.cy,.int .i64 c.ex,.int .i64 c.fi,.int .i64 c.la,.int .i64 c.po] 24)=W0 at *
  obtain ⟨_,c0,c1,c2,c3,c4,c5,c6,c7,c8,c9,c10,c11,c12,c13⟩:=id C
  go_wp2_with fail
  refine (ck _).mono ?_
  rintro e w1 ⟨rfl,hb⟩
  replace C:=C.kept hb
  replace B:=bthen B hb
  replace T:=T.kept hb
  clear hb c0 c1 c2 c3 c4 c5 c6 c7 c8 c9 c10 c11 c12 c13
  obtain ⟨_,c0,c1,c2,c3,c4,c5,c6,c7,c8,c9,c10,c11,c12,c13⟩:=id C
  go_wp2_with fail
  refine (cp _).mono ?_
  rintro e w2 ⟨rfl,hb⟩
  replace C:=C.kept hb
  replace B:=bthen B hb
  replace T:=T.kept hb
  clear hb c0 c1 c2 c3 c4 c5 c6 c7 c8 c9 c10 c11 c12 c13
  obtain ⟨_,c0,c1,c2,c3,c4,c5,c6,c7,c8,c9,c10,c11,c12,c13⟩:=id C
  go_wp2
  go_ret2
  exact ⟨rfl,B⟩
 ·have ck:=fun w=>Fr.rCheck_any c 1 w (.inr ⟨no,rfl⟩) hm
  clear no
  go_enter Tryz.func67,Tryz.ntmps67
  go_upto_region 1 with fail
  generalize w.alloc (.cells #[.string c.nm,.int .i64 c.k,.int .i64 c.d,.int .i64 c.m,.int .i64 c.s,.int .i64 c.sh,.int .i64 c.p0,.int .i64 c.p1,.int .i64 c.p2,.int .i64 c.cy,.int .i64 c.ex,.int .i64 c.fi,.int .i64 c.la,.int .i64 c.po] 24)=W0 at *
  obtain ⟨_,c0,c1,c2,c3,c4,c5,c6,c7,c8,c9,c10,c11,c12,c13⟩:=id C
  go_wp2_with fail
  refine (ck _).mono ?_
  rintro e w3 ⟨rfl,hb⟩
  replace C:=C.kept hb
  replace B:=bthen B hb
  replace T:=T.kept hb
  clear hb c0 c1 c2 c3 c4 c5 c6 c7 c8 c9 c10 c11 c12 c13
  obtain ⟨_,c0,c1,c2,c3,c4,c5,c6,c7,c8,c9,c10,c11,c12,c13⟩:=id C
  go_wp2
  go_ret2
  exact ⟨rfl,B⟩

set_option maxRecDepth 100000 in
theorem rQuarter_any (c:CalZ)(p v er:Int)(w:World)(R:QuarA c p v er)(hm:c.nm.size≤maxLen)(T:FTab w) :
  Calls Tryz.prog 33 #[.agg #[.string c.nm,.int .i64 c.k,.int .i64 c.d,.int .i64 c.m,.int .i64 c.s,.int .i64 c.sh,.int .i64 c.p0,.int .i64 c.p1,.int .i64 c.p2,.int .i64 c.cy,.int .i64 c.ex,.int .i64 c.fi,.int .i64 c.la,.int .i64 c.po],.int .i64 p] w fun e w'=>e= .returned (.tuple #[.int .i64 v,.int .i64 er])∧Below w.heap.size w w':=by
 have C:=CalIn.new w c 24
 have B:=balloc (Below.refl _ w) (.cells #[.string c.nm,.int .i64 c.k,.int .i64 c.d,.int .i64 c.m,.int .i64 c.s,.int .i64 c.sh,.int .i64 c.p0,.int .i64 c.p1,.int .i64 c.p2,.int .i64 c.cy,.int .i64 c.ex,.int .i64 c.fi,.int .i64 c.la,.int .i64 c.po] 24)
 replace T:=T.alloc (.cells #[.string c.nm,.int .i64 c.k,.int .i64 c.d,.int .i64 c.m,.int .i64 c.s,.int .i64 c.sh,.int .i64 c.p0,.int .i64 c.p1,.int .i64 c.p2,.int .i64 c.cy,.int .i64 c.ex,.int .i64 c.fi,.int .i64 c.la,.int .i64 c.po] 24)
 rcases R with ⟨ok,p0,p1,hv,rfl⟩|⟨ok,h,rfl,rfl⟩|⟨no,rfl,rfl⟩
 ·obtain ⟨N,hN⟩:∃ N,N=per c:=⟨_,rfl⟩
  rw [← hN] at p1 hv
  have pb:=per_bd ok.1
  rw [← hN] at pb
  obtain ⟨n0,n1,_⟩:=pb
  have cp:=fun w T=>rPeriods_any c N 0 w (.inl ⟨ok,hN,rfl⟩) hm T
  have O:(v=1∧p≤N / 4)∨(v=2∧N / 4<p∧p≤N*2 / 4)∨(v=3∧N / 4<p∧N*2 / 4<p∧p≤N*3 / 4)∨(v=4∧N / 4<p∧N*2 / 4<p∧N*3 / 4<p):=by
   rw [hv];unfold quar
   by_cases h1:p≤N / 4
   ·rw [if_pos h1];omega
   ·rw [if_neg h1]
    by_cases h2:p≤N*2 / 4
    ·rw [if_pos h2];omega
    ·rw [if_neg h2]
     by_cases h3:p≤N*3 / 4
     ·rw [if_pos h3];omega
     ·rw [if_neg h3];omega
  clear ok hN hv
  rcases O with ⟨rfl,q1⟩|⟨rfl,q1,q2⟩|⟨rfl,q1,q2,q3⟩|⟨rfl,q1,q2,q3⟩
  ·go_enter Tryz.func33,Tryz.ntmps33
   go_upto_region 1 with fail
   generalize w.alloc (.cells #[.string c.nm,.int .i64 c.k,.int .i64 c.d,.int .i64 c.m,.int .i64 c.s,.int .i64 c.sh,.int .i64 c.p0,.int .i64 c.p1,.int .i64 c.p2,.int .i64 c.cy,.int .i64 c.ex,.int .i64 c.fi,.int .i64 c.la,.int .i64 c.po] 24)=W0 at *
   obtain ⟨_,c0,c1,c2,c3,c4,c5,c6,c7,c8,c9,c10,c11,c12,c13⟩:=id C
   go_wp2_with fail
   refine (cp _ T).mono ?_
   rintro e w1 ⟨rfl,hb⟩
   replace C:=C.kept hb
   replace B:=bthen B hb
   replace T:=T.kept hb
   clear hb c0 c1 c2 c3 c4 c5 c6 c7 c8 c9 c10 c11 c12 c13
   obtain ⟨_,c0,c1,c2,c3,c4,c5,c6,c7,c8,c9,c10,c11,c12,c13⟩:=id C
   go_wp2
   refine wp_loop_rounds 1 ?_;rw [rounds_succ]
   go_wp2
   go_ret2
   exact ⟨rfl,B⟩
  ·go_enter Tryz.func33,Tryz.ntmps33
   go_upto_region 1 with fail
   generalize w.alloc (.cells #[.string c.nm,.int .i64 c.k,.int .i64 c.d,.int .i64 c.m,.int .i64 c.s,.int .i64 c.sh,.int .i64 c.p0,.int .i64 c.p1,.int .i64 c.p2,.int .i64 c.cy,.int .i64 c.ex,.int .i64 c.fi,.int .i64 c.la,.int .i64 c.po] 24)=W0 at *
   obtain ⟨_,c0,c1,c2,c3,c4,c5,c6,c7,c8,c9,c10,c11,c12,c13⟩:=id C
   go_wp2_with fail
   refine (cp _ T).mono ?_
   rintro e w2 ⟨rfl,hb⟩
   replace C:=C.kept hb
   replace B:=bthen B hb
   replace T:=T.kept hb
   clear hb c0 c1 c2 c3 c4 c5 c6 c7 c8 c9 c10 c11 c12 c13
   obtain ⟨_,c0,c1,c2,c3,c4,c5,c6,c7,c8,c9,c10,c11,c12,c13⟩:=id C
   go_wp2
   refine wp_loop_rounds 2 ?_;rw [rounds_succ]
   go_wp2
   rw [rounds_succ]
   go_wp2
   go_ret2
   exact ⟨rfl,B⟩
  ·go_enter Tryz.func33,Tryz.ntmps33
   go_upto_region 1 with fail
   generalize w.alloc (.cells #[.string c.nm,.int .i64 c.k,.int .i64 c.d,.int .i64 c.m,.int .i64 c.s,.int .i64 c.sh,.int .i64 c.p0,.int .i64 c.p1,.int .i64 c.p2,.int .i64 c.cy,.int .i64 c.ex,.int .i64 c.fi,.int .i64 c.la,.int .i64 c.po] 24)=W0 at *
   obtain ⟨_,c0,c1,c2,c3,c4,c5,c6,c7,c8,c9,c10,c11,c12,c13⟩:=id C
   go_wp2_with fail
   refine (cp _ T).mono ?_
   rintro e w3 ⟨rfl,hb⟩
   replace C:=C.kept hb
   replace B:=bthen B hb
   replace T:=T.kept hb
   clear hb c0 c1 c2 c3 c4 c5 c6 c7 c8 c9 c10 c11 c12 c13
   obtain ⟨_,c0,c1,c2,c3,c4,c5,c6,c7,c8,c9,c10,c11,c12,c13⟩:=id C
   go_wp2
   refine wp_loop_rounds 3 ?_;rw [rounds_succ]
   go_wp2
   rw [rounds_succ]
   go_wp2
   rw [rounds_succ]
   go_wp2
   go_ret2
   exact ⟨rfl,B⟩
  ·have q4:¬ N*4 / 4<p:=by omega
   have q4':N*4 / 4=N:=by omega
   go_enter Tryz.func33,Tryz.ntmps33
   go_upto_region 1 with fail
   generalize w.alloc (.cells #[.string c.nm,.int .i64 c.k,.int .i64 c.d,.int .i64 c.m,.int .i64 c.s,.int .i64 c.sh,.int .i64 c.p0,.int .i64 c.p1,.int .i64 c.p2,.int .i64 c.cy,.int .i64 c.ex,.int .i64 c.fi,.int .i64 c.la,.int .i64 c.po] 24)=W0 at *
   obtain ⟨_,c0,c1,c2,c3,c4,c5,c6,c7,c8,c9,c10,c11,c12,c13⟩:=id C
   go_wp2_with fail
   refine (cp _ T).mono ?_
   rintro e w4 ⟨rfl,hb⟩
   replace C:=C.kept hb
   replace B:=bthen B hb
   replace T:=T.kept hb
   clear hb c0 c1 c2 c3 c4 c5 c6 c7 c8 c9 c10 c11 c12 c13
   obtain ⟨_,c0,c1,c2,c3,c4,c5,c6,c7,c8,c9,c10,c11,c12,c13⟩:=id C
   go_wp2
   refine wp_loop_rounds 4 ?_;rw [rounds_succ]
   go_wp2
   rw [rounds_succ]
   go_wp2
   rw [rounds_succ]
   go_wp2
   rw [rounds_succ]
   go_wp2
   go_ret2
   exact ⟨rfl,B⟩
 ·obtain ⟨N,hN⟩:∃ N,N=per c:=⟨_,rfl⟩
  rw [← hN] at h
  have pb:=per_bd ok.1
  rw [← hN] at pb
  obtain ⟨n0,n1,_⟩:=pb
  have cp:=fun w T=>rPeriods_any c N 0 w (.inl ⟨ok,hN,rfl⟩) hm T
  clear ok hN
  by_cases q:p<1
  ·clear h
   go_enter Tryz.func33,Tryz.ntmps33
   go_upto_region 1 with fail
   generalize w.alloc (.cells #[.string c.nm,.int .i64 c.k,.int .i64 c.d,.int .i64 c.m,.int .i64 c.s,.int .i64 c.sh,.int .i64 c.p0,.int .i64 c.p1,.int .i64 c.p2,.int .i64 c.cy,.int .i64 c.ex,.int .i64 c.fi,.int .i64 c.la,.int .i64 c.po] 24)=W0 at *
   obtain ⟨_,c0,c1,c2,c3,c4,c5,c6,c7,c8,c9,c10,c11,c12,c13⟩:=id C
   go_wp2_with fail
   refine (cp _ T).mono ?_
   rintro e w5 ⟨rfl,hb⟩
   replace C:=C.kept hb
   replace B:=bthen B hb
   replace T:=T.kept hb
   clear hb c0 c1 c2 c3 c4 c5 c6 c7 c8 c9 c10 c11 c12 c13
   obtain ⟨_,c0,c1,c2,c3,c4,c5,c6,c7,c8,c9,c10,c11,c12,c13⟩:=id C
   go_wp2
   go_ret2
   exact ⟨rfl,B⟩
  ·have q2:N<p:=by omega
   have q3:1≤p:=by omega
   clear h
   go_enter Tryz.func33,Tryz.ntmps33
   go_upto_region 1 with fail
   generalize w.alloc (.cells #[.string c.nm,.int .i64 c.k,.int .i64 c.d,.int .i64 c.m,.int .i64 c.s,.int .i64 c.sh,.int .i64 c.p0,.int .i64 c.p1,.int .i64 c.p2,.int .i64 c.cy,.int .i64 c.ex,.int .i64 c.fi,.int .i64 c.la,.int .i64 c.po] 24)=W0 at *
   obtain ⟨_,c0,c1,c2,c3,c4,c5,c6,c7,c8,c9,c10,c11,c12,c13⟩:=id C
   go_wp2_with fail
   refine (cp _ T).mono ?_
   rintro e w6 ⟨rfl,hb⟩
   replace C:=C.kept hb
   replace B:=bthen B hb
   replace T:=T.kept hb
   clear hb c0 c1 c2 c3 c4 c5 c6 c7 c8 c9 c10 c11 c12 c13
   obtain ⟨_,c0,c1,c2,c3,c4,c5,c6,c7,c8,c9,c10,c11,c12,c13⟩:=id C
   go_wp2
   go_ret2
   exact ⟨rfl,B⟩
 ·have cp:=fun w T=>rPeriods_any c 0 1 w (.inr ⟨no,rfl,rfl⟩) hm T
  clear no
  go_enter Tryz.func33,Tryz.ntmps33
  go_upto_region 1 with fail
  generalize w.alloc (.cells #[.string c.nm,.int .i64 c.k,.int .i64 c.d,.int .i64 c.m,.int .i64 c.s,.int .i64 c.sh,.int .i64 c.p0,.int .i64 c.p1,.int .i64 c.p2,.int .i64 c.cy,.int .i64 c.ex,.int .i64 c.fi,.int .i64 c.la,.int .i64 c.po] 24)=W0 at *
  obtain ⟨_,c0,c1,c2,c3,c4,c5,c6,c7,c8,c9,c10,c11,c12,c13⟩:=id C
  go_wp2_with fail
  refine (cp _ T).mono ?_
  rintro e w7 ⟨rfl,hb⟩
  replace C:=C.kept hb
  replace B:=bthen B hb
  replace T:=T.kept hb
  clear hb c0 c1 c2 c3 c4 c5 c6 c7 c8 c9 c10 c11 c12 c13
  obtain ⟨_,c0,c1,c2,c3,c4,c5,c6,c7,c8,c9,c10,c11,c12,c13⟩:=id C
  go_wp2
  go_ret2
  exact ⟨rfl,B⟩

end Go.Proofs.YtoilomigceijaaaGreatDoor.Hl

