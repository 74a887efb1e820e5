/- Texts that are joined: Jrend, Jrof. -/
import Derived.Test.YtoilomigceijaaaGreatDoorQrArend
import Derived.Test.YtoilomigceijaaaGreatDoorQrJL
import Derived.Test.YtoilomigceijaaaGreatDoorQrJG
set_option linter.unusedSimpArgs false
set_option linter.unusedVariables false
namespace Go.Proofs.YtoilomigceijaaaGreatDoor.Jr
open Go.RowKit Bn Am Fp Cm Em Ar

set_option maxHeartbeats 4000000

def OfSays (c:CalZ):Prop:=∀ (n y er:Int) (w:World),OfA c n y er→Calls Tryz.prog 58 #[.agg #[.string c.nm,.int .i64 c.k,.int .i64 c.d,.int .i64 c.m,.int .i64 c.s,.int .i64 c.sh,.int .i64 c.p0,.int .i64 c.p1,.int .i64 c.p2,.int .i64 c.cy,.int .i64 c.ex,.int .i64 c.fi,.int .i64 c.la,.int .i64 c.po],.int .i64 n] w fun e w'=>e= .returned (.tuple #[.int .i64 y,.int .i64 er])∧Below w.heap.size w w'

set_option maxRecDepth 100000 in
theorem rbounds_ok (c:CalZ)(a b:Int)(w:World)
  (cs:∀ w,Calls Tryz.prog 31 #[.agg #[.string c.nm,.int .i64 c.k,.int .i64 c.d,.int .i64 c.m,.int .i64 c.s,.int .i64 c.sh,.int .i64 c.p0,.int .i64 c.p1,.int .i64 c.p2,.int .i64 c.cy,.int .i64 c.ex,.int .i64 c.fi,.int .i64 c.la,.int .i64 c.po],.int .i64 c.fi] w fun e w'=>e= .returned (.tuple #[.int .i64 a,.int .i64 0])∧Below w.heap.size w w')
  (ce:∀ w,Calls Tryz.prog 63 #[.agg #[.string c.nm,.int .i64 c.k,.int .i64 c.d,.int .i64 c.m,.int .i64 c.s,.int .i64 c.sh,.int .i64 c.p0,.int .i64 c.p1,.int .i64 c.p2,.int .i64 c.cy,.int .i64 c.ex,.int .i64 c.fi,.int .i64 c.la,.int .i64 c.po],.int .i64 c.la] w fun e w'=>e= .returned (.tuple #[.int .i64 b,.int .i64 0])∧Below w.heap.size w w') :
  Calls Tryz.prog 56 #[.agg #[.string c.nm,.int .i64 c.k,.int .i64 c.d,.int .i64 c.m,.int .i64 c.s,.int .i64 c.sh,.int .i64 c.p0,.int .i64 c.p1,.int .i64 c.p2,.int .i64 c.cy,.int .i64 c.ex,.int .i64 c.fi,.int .i64 c.la,.int .i64 c.po]] w fun e w'=>e= .returned (.tuple #[.agg #[.int .i64 a,.int .i64 b],.int .i64 0])∧Below w.heap.size w w':=by
 have C:=(CalIn.new w c 24).alloc (.cells #[.int .i64 0,.int .i64 0] 26)
 have K:=Pr.Two.new (w.alloc (.cells #[.string c.nm,.int .i64 c.k,.int .i64 c.d,.int .i64 c.m,.int .i64 c.s,.int .i64 c.sh,.int .i64 c.p0,.int .i64 c.p1,.int .i64 c.p2,.int .i64 c.cy,.int .i64 c.ex,.int .i64 c.fi,.int .i64 c.la,.int .i64 c.po] 24)) (.int .i64 0) (.int .i64 0) 26
 have B:=balloc (balloc (Below.refl _ w) (.cells #[.string c.nm,.int .i64 c.k,.int .i64 c.d,.int .i64 c.m,.int .i64 c.s,.int .i64 c.sh,.int .i64 c.p0,.int .i64 c.p1,.int .i64 c.p2,.int .i64 c.cy,.int .i64 c.ex,.int .i64 c.fi,.int .i64 c.la,.int .i64 c.po] 24)) (.cells #[.int .i64 0,.int .i64 0] 26)
 have zz:((w.alloc (.cells #[.string c.nm,.int .i64 c.k,.int .i64 c.d,.int .i64 c.m,.int .i64 c.s,.int .i64 c.sh,.int .i64 c.p0,.int .i64 c.p1,.int .i64 c.p2,.int .i64 c.cy,.int .i64 c.ex,.int .i64 c.fi,.int .i64 c.la,.int .i64 c.po] 24)).alloc (.cells #[.int .i64 0,.int .i64 0] 26)).heap.size=w.heap.size+2:=by simp
 simp only [World.size_alloc] at K
 go_enter Tryz.func56,Tryz.ntmps56
 go_upto_region 1 with fail
 generalize (w.alloc (.cells #[.string c.nm,.int .i64 c.k,.int .i64 c.d,.int .i64 c.m,.int .i64 c.s,.int .i64 c.sh,.int .i64 c.p0,.int .i64 c.p1,.int .i64 c.p2,.int .i64 c.cy,.int .i64 c.ex,.int .i64 c.fi,.int .i64 c.la,.int .i64 c.po] 24)).alloc (.cells #[.int .i64 0,.int .i64 0] 26)=W0 at *
 obtain ⟨_,c0,c1,c2,c3,c4,c5,c6,c7,c8,c9,c10,c11,c12,c13⟩:=id C
 go_wp2_with fail
 refine (cs _).mono ?_
 rintro e w1 ⟨rfl,hb⟩
 have zz1:w.heap.size+2≤w1.heap.size:=by have:=hb.size;omega
 replace C:=C.kept hb
 replace K:=K.kept hb
 have B1:=bthen B hb
 clear hb B c0 c1 c2 c3 c4 c5 c6 c7 c8 c9 c10 c11 c12 c13
 obtain ⟨_,c0,c1,c2,c3,c4,c5,c6,c7,c8,c9,c10,c11,c12,c13⟩:=id C
 go_wp2_with fail
 refine (ce _).mono ?_
 rintro e w2 ⟨rfl,hb⟩
 have zz2:w.heap.size+2≤w2.heap.size:=by have:=hb.size;omega
 replace K:=K.kept hb
 obtain ⟨_,k0,k1,g0,g1⟩:=id K
 go_wp2
 refine bodyPost_ret (v:=.tuple #[.agg #[.int .i64 a,.int .i64 b],.int .i64 0]) (by simp [results,Tryz.results56,go_sem,k0,k1]) rfl ⟨rfl,?_⟩
 exact bset (bset (bthen B1 hb) (by omega) _ _) (by omega) _ _

set_option maxRecDepth 100000 in
theorem rbounds_bad (c:CalZ)(w:World)
  (cs:∀ w,Calls Tryz.prog 31 #[.agg #[.string c.nm,.int .i64 c.k,.int .i64 c.d,.int .i64 c.m,.int .i64 c.s,.int .i64 c.sh,.int .i64 c.p0,.int .i64 c.p1,.int .i64 c.p2,.int .i64 c.cy,.int .i64 c.ex,.int .i64 c.fi,.int .i64 c.la,.int .i64 c.po],.int .i64 c.fi] w fun e w'=>e= .returned (.tuple #[.int .i64 0,.int .i64 1])∧Below w.heap.size w w') :
  Calls Tryz.prog 56 #[.agg #[.string c.nm,.int .i64 c.k,.int .i64 c.d,.int .i64 c.m,.int .i64 c.s,.int .i64 c.sh,.int .i64 c.p0,.int .i64 c.p1,.int .i64 c.p2,.int .i64 c.cy,.int .i64 c.ex,.int .i64 c.fi,.int .i64 c.la,.int .i64 c.po]] w fun e w'=>e= .returned (.tuple #[.agg #[.int .i64 0,.int .i64 0],.int .i64 1])∧Below w.heap.size w w':=by
 have C:=(CalIn.new w c 24).alloc (.cells #[.int .i64 0,.int .i64 0] 26)
 have K:=Pr.Two.new (w.alloc (.cells #[.string c.nm,.int .i64 c.k,.int .i64 c.d,.int .i64 c.m,.int .i64 c.s,.int .i64 c.sh,.int .i64 c.p0,.int .i64 c.p1,.int .i64 c.p2,.int .i64 c.cy,.int .i64 c.ex,.int .i64 c.fi,.int .i64 c.la,.int .i64 c.po] 24)) (.int .i64 0) (.int .i64 0) 26
 have B:=balloc (balloc (Below.refl _ w) (.cells #[.string c.nm,.int .i64 c.k,.int .i64 c.d,.int .i64 c.m,.int .i64 c.s,.int .i64 c.sh,.int .i64 c.p0,.int .i64 c.p1,.int .i64 c.p2,.int .i64 c.cy,.int .i64 c.ex,.int .i64 c.fi,.int .i64 c.la,.int .i64 c.po] 24)) (.cells #[.int .i64 0,.int .i64 0] 26)
 have zz:((w.alloc (.cells #[.string c.nm,.int .i64 c.k,.int .i64 c.d,.int .i64 c.m,.int .i64 c.s,.int .i64 c.sh,.int .i64 c.p0,.int .i64 c.p1,.int .i64 c.p2,.int .i64 c.cy,.int .i64 c.ex,.int .i64 c.fi,.int .i64 c.la,.int .i64 c.po] 24)).alloc (.cells #[.int .i64 0,.int .i64 0] 26)).heap.size=w.heap.size+2:=by simp
 simp only [World.size_alloc] at K
 go_enter Tryz.func56,Tryz.ntmps56
 go_upto_region 1 with fail
 generalize (w.alloc (.cells #[.string c.nm,.int .i64 c.k,.int .i64 c.d,.int .i64 c.m,.int .i64 c.s,.int .i64 c.sh,.int .i64 c.p0,.int .i64 c.p1,.int .i64 c.p2,.int .i64 c.cy,.int .i64 c.ex,.int .i64 c.fi,.int .i64 c.la,.int .i64 c.po] 24)).alloc (.cells #[.int .i64 0,.int .i64 0] 26)=W0 at *
 obtain ⟨_,c0,c1,c2,c3,c4,c5,c6,c7,c8,c9,c10,c11,c12,c13⟩:=id C
 go_wp2_with fail
 refine (cs _).mono ?_
 rintro e w1 ⟨rfl,hb⟩
 replace K:=K.kept hb
 obtain ⟨_,k0,k1,g0,g1⟩:=id K
 go_wp2
 refine bodyPost_ret (v:=.tuple #[.agg #[.int .i64 0,.int .i64 0],.int .i64 1]) (by simp [results,Tryz.results56,go_sem,k0,k1]) rfl ⟨rfl,?_⟩
 exact bset (bset (bthen B hb) (by omega) _ _) (by omega) _ _

theorem rBounds_any (c:CalZ)(a b er:Int)(w:World)(R:BoundsA c a b er)(K:ChkSays c) :
  Calls Tryz.prog 56 #[.agg #[.string c.nm,.int .i64 c.k,.int .i64 c.d,.int .i64 c.m,.int .i64 c.s,.int .i64 c.sh,.int .i64 c.p0,.int .i64 c.p1,.int .i64 c.p2,.int .i64 c.cy,.int .i64 c.ex,.int .i64 c.fi,.int .i64 c.la,.int .i64 c.po]] w fun e w'=>e= .returned (.tuple #[.agg #[.int .i64 a,.int .i64 b],.int .i64 er])∧Below w.heap.size w w':=by
 rcases R with ⟨ok,ha,hb,rfl⟩|⟨no,rfl,rfl,rfl⟩
 ·have yo:=ok.2.2.1
  exact rbounds_ok c a b w (fun w=>rStart_any c c.fi a 0 w (.inl ⟨ok,by have:=yo.1;omega,by have:=yo.2.1;have:=yo.2.2.1;omega,ha,rfl⟩) K) (fun w=>rEnd_any c c.la b 0 w (.inl ⟨ok,by have:=yo.1;have:=yo.2.2.1;omega,by have:=yo.2.1;omega,hb,rfl⟩) K)
 ·exact rbounds_bad c w (fun w=>rStart_any c c.fi 0 1 w (.inr (.inr ⟨no,rfl,rfl⟩)) K)

set_option maxRecDepth 100000 in
theorem rserved_bad (c:CalZ)(n:Int)(w:World)(cb:∀ w,Calls Tryz.prog 56 #[.agg #[.string c.nm,.int .i64 c.k,.int .i64 c.d,.int .i64 c.m,.int .i64 c.s,.int .i64 c.sh,.int .i64 c.p0,.int .i64 c.p1,.int .i64 c.p2,.int .i64 c.cy,.int .i64 c.ex,.int .i64 c.fi,.int .i64 c.la,.int .i64 c.po]] w fun e w'=>e= .returned (.tuple #[.agg #[.int .i64 0,.int .i64 0],.int .i64 1])∧Below w.heap.size w w') :
  Calls Tryz.prog 29 #[.agg #[.string c.nm,.int .i64 c.k,.int .i64 c.d,.int .i64 c.m,.int .i64 c.s,.int .i64 c.sh,.int .i64 c.p0,.int .i64 c.p1,.int .i64 c.p2,.int .i64 c.cy,.int .i64 c.ex,.int .i64 c.fi,.int .i64 c.la,.int .i64 c.po],.int .i64 n] w fun e w'=>e= .returned (.tuple #[.int .i64 0,.int .i64 1])∧Below w.heap.size w w':=by
 have C:=CalIn.new w c 24
 have B:=balloc (Below.refl _ w) (.cells #[.string c.nm,.int .i64 c.k,.int .i64 c.d,.int .i64 c.m,.int .i64 c.s,.int .i64 c.sh,.int .i64 c.p0,.int .i64 c.p1,.int .i64 c.p2,.int .i64 c.cy,.int .i64 c.ex,.int .i64 c.fi,.int .i64 c.la,.int .i64 c.po] 24)
 go_enter Tryz.func29,Tryz.ntmps29
 go_upto_region 1 with fail
 generalize w.alloc (.cells #[.string c.nm,.int .i64 c.k,.int .i64 c.d,.int .i64 c.m,.int .i64 c.s,.int .i64 c.sh,.int .i64 c.p0,.int .i64 c.p1,.int .i64 c.p2,.int .i64 c.cy,.int .i64 c.ex,.int .i64 c.fi,.int .i64 c.la,.int .i64 c.po] 24)=W0 at *
 obtain ⟨_,c0,c1,c2,c3,c4,c5,c6,c7,c8,c9,c10,c11,c12,c13⟩:=id C
 go_wp2_with fail
 refine (cb _).mono ?_
 rintro e w1 ⟨rfl,hb⟩
 have C1:=(C.kept hb).alloc (.cells #[.int .i64 0,.int .i64 0] 26)
 have B1:=balloc (bthen B hb) (.cells #[.int .i64 0,.int .i64 0] 26)
 have K:=Pr.Two.new w1 (.int .i64 0) (.int .i64 0) 26
 clear hb C B c0 c1 c2 c3 c4 c5 c6 c7 c8 c9 c10 c11 c12 c13
 obtain ⟨_,c0,c1,c2,c3,c4,c5,c6,c7,c8,c9,c10,c11,c12,c13⟩:=id C1
 obtain ⟨_,k0,k1,g0,g1⟩:=id K
 go_wp2
 go_ret2
 exact ⟨rfl,B1⟩

set_option maxRecDepth 100000 in
theorem rserved_day (c:CalZ)(n a b p q r:Int)(w:World)(cb:∀ w,Calls Tryz.prog 56 #[.agg #[.string c.nm,.int .i64 c.k,.int .i64 c.d,.int .i64 c.m,.int .i64 c.s,.int .i64 c.sh,.int .i64 c.p0,.int .i64 c.p1,.int .i64 c.p2,.int .i64 c.cy,.int .i64 c.ex,.int .i64 c.fi,.int .i64 c.la,.int .i64 c.po]] w fun e w'=>e= .returned (.tuple #[.agg #[.int .i64 a,.int .i64 b],.int .i64 0])∧Below w.heap.size w w')(cd:∀ w,Calls Tryz.prog 57 #[.int .i64 n] w fun e w'=>e= .returned (.tuple #[.agg #[.int .i64 p,.int .i64 q,.int .i64 r],.int .i64 4])∧Below w.heap.size w w') :
  Calls Tryz.prog 29 #[.agg #[.string c.nm,.int .i64 c.k,.int .i64 c.d,.int .i64 c.m,.int .i64 c.s,.int .i64 c.sh,.int .i64 c.p0,.int .i64 c.p1,.int .i64 c.p2,.int .i64 c.cy,.int .i64 c.ex,.int .i64 c.fi,.int .i64 c.la,.int .i64 c.po],.int .i64 n] w fun e w'=>e= .returned (.tuple #[.int .i64 0,.int .i64 4])∧Below w.heap.size w w':=by
 have C:=CalIn.new w c 24
 have B:=balloc (Below.refl _ w) (.cells #[.string c.nm,.int .i64 c.k,.int .i64 c.d,.int .i64 c.m,.int .i64 c.s,.int .i64 c.sh,.int .i64 c.p0,.int .i64 c.p1,.int .i64 c.p2,.int .i64 c.cy,.int .i64 c.ex,.int .i64 c.fi,.int .i64 c.la,.int .i64 c.po] 24)
 go_enter Tryz.func29,Tryz.ntmps29
 go_upto_region 1 with fail
 generalize w.alloc (.cells #[.string c.nm,.int .i64 c.k,.int .i64 c.d,.int .i64 c.m,.int .i64 c.s,.int .i64 c.sh,.int .i64 c.p0,.int .i64 c.p1,.int .i64 c.p2,.int .i64 c.cy,.int .i64 c.ex,.int .i64 c.fi,.int .i64 c.la,.int .i64 c.po] 24)=W0 at *
 obtain ⟨_,c0,c1,c2,c3,c4,c5,c6,c7,c8,c9,c10,c11,c12,c13⟩:=id C
 go_wp2_with fail
 refine (cb _).mono ?_
 rintro e w1 ⟨rfl,hb⟩
 have C1:=(C.kept hb).alloc (.cells #[.int .i64 a,.int .i64 b] 26)
 have B1:=balloc (bthen B hb) (.cells #[.int .i64 a,.int .i64 b] 26)
 have K:=Pr.Two.new w1 (.int .i64 a) (.int .i64 b) 26
 clear hb C B c0 c1 c2 c3 c4 c5 c6 c7 c8 c9 c10 c11 c12 c13
 obtain ⟨_,c0,c1,c2,c3,c4,c5,c6,c7,c8,c9,c10,c11,c12,c13⟩:=id C1
 obtain ⟨_,k0,k1,g0,g1⟩:=id K
 go_wp2_with fail
 refine (cd _).mono ?_
 rintro e w2 ⟨rfl,hb⟩
 have C2:=(C1.kept hb).alloc (.cells #[.int .i64 p,.int .i64 q,.int .i64 r] 104)
 have B2:=balloc (bthen B1 hb) (.cells #[.int .i64 p,.int .i64 q,.int .i64 r] 104)
 replace K:=(K.kept hb).alloc (.cells #[.int .i64 p,.int .i64 q,.int .i64 r] 104)
 clear hb C1 B1 c0 c1 c2 c3 c4 c5 c6 c7 c8 c9 c10 c11 c12 c13 k0 k1 g0 g1
 obtain ⟨_,c0,c1,c2,c3,c4,c5,c6,c7,c8,c9,c10,c11,c12,c13⟩:=id C2
 obtain ⟨_,k0,k1,g0,g1⟩:=id K
 go_wp2
 go_ret2
 exact ⟨rfl,B2⟩

set_option maxRecDepth 100000 in
theorem rserved_out (c:CalZ)(n a b p q r:Int)(w:World)(h:n<a∨(a≤n∧b<n))(cb:∀ w,Calls Tryz.prog 56 #[.agg #[.string c.nm,.int .i64 c.k,.int .i64 c.d,.int .i64 c.m,.int .i64 c.s,.int .i64 c.sh,.int .i64 c.p0,.int .i64 c.p1,.int .i64 c.p2,.int .i64 c.cy,.int .i64 c.ex,.int .i64 c.fi,.int .i64 c.la,.int .i64 c.po]] w fun e w'=>e= .returned (.tuple #[.agg #[.int .i64 a,.int .i64 b],.int .i64 0])∧Below w.heap.size w w')(cd:∀ w,Calls Tryz.prog 57 #[.int .i64 n] w fun e w'=>e= .returned (.tuple #[.agg #[.int .i64 p,.int .i64 q,.int .i64 r],.int .i64 0])∧Below w.heap.size w w') :
  Calls Tryz.prog 29 #[.agg #[.string c.nm,.int .i64 c.k,.int .i64 c.d,.int .i64 c.m,.int .i64 c.s,.int .i64 c.sh,.int .i64 c.p0,.int .i64 c.p1,.int .i64 c.p2,.int .i64 c.cy,.int .i64 c.ex,.int .i64 c.fi,.int .i64 c.la,.int .i64 c.po],.int .i64 n] w fun e w'=>e= .returned (.tuple #[.int .i64 0,.int .i64 11])∧Below w.heap.size w w':=by
 have C:=CalIn.new w c 24
 have B:=balloc (Below.refl _ w) (.cells #[.string c.nm,.int .i64 c.k,.int .i64 c.d,.int .i64 c.m,.int .i64 c.s,.int .i64 c.sh,.int .i64 c.p0,.int .i64 c.p1,.int .i64 c.p2,.int .i64 c.cy,.int .i64 c.ex,.int .i64 c.fi,.int .i64 c.la,.int .i64 c.po] 24)
 rcases h with h0|⟨h0,h1⟩
 all_goals
  go_enter Tryz.func29,Tryz.ntmps29
  go_upto_region 1 with fail
  generalize w.alloc (.cells #[.string c.nm,.int .i64 c.k,.int .i64 c.d,.int .i64 c.m,.int .i64 c.s,.int .i64 c.sh,.int .i64 c.p0,.int .i64 c.p1,.int .i64 c.p2,.int .i64 c.cy,.int .i64 c.ex,.int .i64 c.fi,.int .i64 c.la,.int .i64 c.po] 24)=W0 at *
  obtain ⟨_,c0,c1,c2,c3,c4,c5,c6,c7,c8,c9,c10,c11,c12,c13⟩:=id C
  go_wp2_with fail
  refine (cb _).mono ?_
  rintro e w1 ⟨rfl,hb⟩
  have C1:=(C.kept hb).alloc (.cells #[.int .i64 a,.int .i64 b] 26)
  have B1:=balloc (bthen B hb) (.cells #[.int .i64 a,.int .i64 b] 26)
  have K:=Pr.Two.new w1 (.int .i64 a) (.int .i64 b) 26
  clear hb C B c0 c1 c2 c3 c4 c5 c6 c7 c8 c9 c10 c11 c12 c13
  obtain ⟨_,c0,c1,c2,c3,c4,c5,c6,c7,c8,c9,c10,c11,c12,c13⟩:=id C1
  obtain ⟨_,k0,k1,g0,g1⟩:=id K
  go_wp2_with fail
  refine (cd _).mono ?_
  rintro e w2 ⟨rfl,hb⟩
  have C2:=(C1.kept hb).alloc (.cells #[.int .i64 p,.int .i64 q,.int .i64 r] 104)
  have B2:=balloc (bthen B1 hb) (.cells #[.int .i64 p,.int .i64 q,.int .i64 r] 104)
  replace K:=(K.kept hb).alloc (.cells #[.int .i64 p,.int .i64 q,.int .i64 r] 104)
  clear hb C1 B1 c0 c1 c2 c3 c4 c5 c6 c7 c8 c9 c10 c11 c12 c13 k0 k1 g0 g1
  obtain ⟨_,c0,c1,c2,c3,c4,c5,c6,c7,c8,c9,c10,c11,c12,c13⟩:=id C2
  obtain ⟨_,k0,k1,g0,g1⟩:=id K
  go_wp2
  go_ret2
  exact ⟨rfl,B2⟩

set_option maxRecDepth 100000 in
theorem rserved_in (c:CalZ)(n y er a b p q r:Int)(w:World)(h0:a≤n)(h1:n≤b)(cb:∀ w,Calls Tryz.prog 56 #[.agg #[.string c.nm,.int .i64 c.k,.int .i64 c.d,.int .i64 c.m,.int .i64 c.s,.int .i64 c.sh,.int .i64 c.p0,.int .i64 c.p1,.int .i64 c.p2,.int .i64 c.cy,.int .i64 c.ex,.int .i64 c.fi,.int .i64 c.la,.int .i64 c.po]] w fun e w'=>e= .returned (.tuple #[.agg #[.int .i64 a,.int .i64 b],.int .i64 0])∧Below w.heap.size w w')(cd:∀ w,Calls Tryz.prog 57 #[.int .i64 n] w fun e w'=>e= .returned (.tuple #[.agg #[.int .i64 p,.int .i64 q,.int .i64 r],.int .i64 0])∧Below w.heap.size w w')(co:∀ w,Calls Tryz.prog 58 #[.agg #[.string c.nm,.int .i64 c.k,.int .i64 c.d,.int .i64 c.m,.int .i64 c.s,.int .i64 c.sh,.int .i64 c.p0,.int .i64 c.p1,.int .i64 c.p2,.int .i64 c.cy,.int .i64 c.ex,.int .i64 c.fi,.int .i64 c.la,.int .i64 c.po],.int .i64 n] w fun e w'=>e= .returned (.tuple #[.int .i64 y,.int .i64 er])∧Below w.heap.size w w') :
  Calls Tryz.prog 29 #[.agg #[.string c.nm,.int .i64 c.k,.int .i64 c.d,.int .i64 c.m,.int .i64 c.s,.int .i64 c.sh,.int .i64 c.p0,.int .i64 c.p1,.int .i64 c.p2,.int .i64 c.cy,.int .i64 c.ex,.int .i64 c.fi,.int .i64 c.la,.int .i64 c.po],.int .i64 n] w fun e w'=>e= .returned (.tuple #[.int .i64 y,.int .i64 er])∧Below w.heap.size w w':=by
 have C:=CalIn.new w c 24
 have B:=balloc (Below.refl _ w) (.cells #[.string c.nm,.int .i64 c.k,.int .i64 c.d,.int .i64 c.m,.int .i64 c.s,.int .i64 c.sh,.int .i64 c.p0,.int .i64 c.p1,.int .i64 c.p2,.int .i64 c.cy,.int .i64 c.ex,.int .i64 c.fi,.int .i64 c.la,.int .i64 c.po] 24)
 go_enter Tryz.func29,Tryz.ntmps29
 go_upto_region 1 with fail
 generalize w.alloc (.cells #[.string c.nm,.int .i64 c.k,.int .i64 c.d,.int .i64 c.m,.int .i64 c.s,.int .i64 c.sh,.int .i64 c.p0,.int .i64 c.p1,.int .i64 c.p2,.int .i64 c.cy,.int .i64 c.ex,.int .i64 c.fi,.int .i64 c.la,.int .i64 c.po] 24)=W0 at *
 obtain ⟨_,c0,c1,c2,c3,c4,c5,c6,c7,c8,c9,c10,c11,c12,c13⟩:=id C
 go_wp2_with fail
 refine (cb _).mono ?_
 rintro e w1 ⟨rfl,hb⟩
 have C1:=(C.kept hb).alloc (.cells #[.int .i64 a,.int .i64 b] 26)
 have B1:=balloc (bthen B hb) (.cells #[.int .i64 a,.int .i64 b] 26)
 have K:=Pr.Two.new w1 (.int .i64 a) (.int .i64 b) 26
 clear hb C B c0 c1 c2 c3 c4 c5 c6 c7 c8 c9 c10 c11 c12 c13
 obtain ⟨_,c0,c1,c2,c3,c4,c5,c6,c7,c8,c9,c10,c11,c12,c13⟩:=id C1
 obtain ⟨_,k0,k1,g0,g1⟩:=id K
 go_wp2_with fail
 refine (cd _).mono ?_
 rintro e w2 ⟨rfl,hb⟩
 have C2:=(C1.kept hb).alloc (.cells #[.int .i64 p,.int .i64 q,.int .i64 r] 104)
 have B2:=balloc (bthen B1 hb) (.cells #[.int .i64 p,.int .i64 q,.int .i64 r] 104)
 replace K:=(K.kept hb).alloc (.cells #[.int .i64 p,.int .i64 q,.int .i64 r] 104)
 clear hb C1 B1 c0 c1 c2 c3 c4 c5 c6 c7 c8 c9 c10 c11 c12 c13 k0 k1 g0 g1
 obtain ⟨_,c0,c1,c2,c3,c4,c5,c6,c7,c8,c9,c10,c11,c12,c13⟩:=id C2
 obtain ⟨_,k0,k1,g0,g1⟩:=id K
 go_wp2_with fail
 refine (co _).mono ?_
 rintro e w3 ⟨rfl,hb⟩
 go_wp2
 go_ret2
 exact ⟨rfl,bthen B2 hb⟩

theorem rServed_any (c:CalZ)(n v er:Int)(w:World)(R:ServedA c n v er)(K:ChkSays c)(O:OfSays c) :
  Calls Tryz.prog 29 #[.agg #[.string c.nm,.int .i64 c.k,.int .i64 c.d,.int .i64 c.m,.int .i64 c.s,.int .i64 c.sh,.int .i64 c.p0,.int .i64 c.p1,.int .i64 c.p2,.int .i64 c.cy,.int .i64 c.ex,.int .i64 c.fi,.int .i64 c.la,.int .i64 c.po],.int .i64 n] w fun e w'=>e= .returned (.tuple #[.int .i64 v,.int .i64 er])∧Below w.heap.size w w':=by
 obtain ⟨y,e0,R,S⟩:=R
 by_cases ok:CalOk c
 ·have yo:=ok.2.2.1
  have yo0:=yo.1
  have yo1:=yo.2.1
  have yo2:=yo.2.2.1
  have cb:=fun w=>rBounds_any c _ _ 0 w (.inl ⟨ok,rfl,rfl,rfl⟩) K
  by_cases hn:0≤n∧n≤3068036
  ·obtain ⟨p,q,r,e1,D⟩:=ofres_ex n
   have cd0:=fun w=>Cr.rOf_any n p q r e1 w D
   have e1z:e1=0:=by rcases D with ⟨_,_,_,_,h⟩|⟨h,_⟩;exact h;exact absurd hn h
   subst e1z
   have le:∀ a b:Int,1600≤a→a≤b→b≤9997→yend c a≤yend c b:=fun a b h1 h2 h3=>by
    by_cases k:a=b
    ·rw [k];omega
    ·have:=yend_lt ok.1 (a:=a) (b:=b) (by omega) (by omega) (by omega);omega
   by_cases hs:yend c (c.fi - 1)+1≤n∧n≤yend c c.la
   ·have hv:v=y∧er=e0∧(e0=0):=by
     rcases R with ⟨_,_,_,y0,y1,ya,yb,h⟩|⟨_,_,_,h,_,_⟩|⟨_,h,_⟩|⟨h,_⟩
     ·have a1:c.fi≤y:=by
       by_cases k:c.fi≤y
       ·exact k
       ·have:=le y (c.fi - 1) (by omega) (by omega) (by omega);omega
      have a2:y≤c.la:=by
       by_cases k:y≤c.la
       ·exact k
       ·have:=le c.la (y - 1) (by omega) (by omega) (by omega);omega
      rcases S with ⟨k,_⟩|⟨_,_,_,k1,k2⟩|⟨_,k,_⟩
      ·exact absurd h k
      ·exact ⟨k1,by omega,h⟩
      ·exact absurd ⟨a1,a2⟩ k
     ·have l1:=le 1600 (c.fi - 1) (by omega) (by omega) (by omega)
      have l2:=le c.la 9997 (by omega) (by omega) (by omega)
      omega
     ·exact absurd hn h
     ·exact absurd ok h
    obtain ⟨rfl,rfl,rfl⟩:=hv
    exact rserved_in c n v 0 _ _ p q r w hs.1 hs.2 cb cd0 (fun w=>O n v 0 w R)
   ·have hv:v=0∧er=11:=by
     rcases S with ⟨k,h1,h2⟩|⟨k,f1,f2,_⟩|⟨_,_,h1,h2⟩
     ·rcases R with ⟨_,_,_,_,_,_,_,h⟩|⟨_,_,_,_,_,h⟩|⟨_,h,_⟩|⟨h,_⟩
      ·exact absurd h k
      ·exact ⟨h1,by omega⟩
      ·exact absurd hn h
      ·exact absurd ok h
     ·exfalso
      rcases R with ⟨_,_,_,y0,y1,ya,yb,h⟩|⟨_,_,_,_,_,h⟩|⟨_,h,_⟩|⟨h,_⟩
      ·have l1:=le (c.fi - 1) (y - 1) (by omega) (by omega) (by omega)
       have l2:=le y c.la (by omega) (by omega) (by omega)
       exact hs ⟨by omega,by omega⟩
      ·omega
      ·exact h hn
      ·exact h ok
     ·exact ⟨h1,h2⟩
    obtain ⟨rfl,rfl⟩:=hv
    exact rserved_out c n _ _ p q r w (by omega) cb cd0
  ·have hv:v=0∧er=4:=by
    rcases R with ⟨_,n0,n1,_⟩|⟨_,n0,n1,_⟩|⟨_,_,_,h⟩|⟨h,_⟩
    ·exact absurd ⟨n0,n1⟩ hn
    ·exact absurd ⟨n0,n1⟩ hn
    ·rcases S with ⟨_,h1,h2⟩|⟨k,_⟩|⟨k,_⟩
     ·exact ⟨h1,by omega⟩
     ·omega
     ·omega
    ·exact absurd ok h
   obtain ⟨rfl,rfl⟩:=hv
   exact rserved_day c n _ _ 0 0 0 w cb (fun w=>Cr.rOf_any n 0 0 0 4 w (.inr ⟨hn,rfl,rfl,rfl,rfl⟩))
 ·have hv:v=0∧er=1:=by
   rcases R with ⟨h,_⟩|⟨h,_⟩|⟨h,_⟩|⟨_,_,h⟩
   ·exact absurd h ok
   ·exact absurd h ok
   ·exact absurd h ok
   ·rcases S with ⟨_,h1,h2⟩|⟨k,_⟩|⟨k,_⟩
    ·exact ⟨h1,by omega⟩
    ·omega
    ·omega
  obtain ⟨rfl,rfl⟩:=hv
  exact rserved_bad c n w (fun w=>rBounds_any c 0 0 1 w (.inr ⟨ok,rfl,rfl,rfl⟩) K)

end Go.Proofs.YtoilomigceijaaaGreatDoor.Jr

namespace Go.Proofs.YtoilomigceijaaaGreatDoor.Jr
open Go.RowKit Bn Am Fp Cm Em Ar Bx

set_option maxHeartbeats 4000000

set_option maxRecDepth 100000 in
theorem rOf_any (c:CalZ)(n y er:Int)(w:World)(R:OfA c n y er)(K:ChkSays c) :
  Calls Tryz.prog 58 #[.agg #[.string c.nm,.int .i64 c.k,.int .i64 c.d,.int .i64 c.m,.int .i64 c.s,.int .i64 c.sh,.int .i64 c.p0,.int .i64 c.p1,.int .i64 c.p2,.int .i64 c.cy,.int .i64 c.ex,.int .i64 c.fi,.int .i64 c.la,.int .i64 c.po],.int .i64 n] w fun e w'=>e= .returned (.tuple #[.int .i64 y,.int .i64 er])∧Below w.heap.size w w':=by
 have C:=CalIn.new w c 24
 have B:=balloc (Below.refl _ w) (.cells #[.string c.nm,.int .i64 c.k,.int .i64 c.d,.int .i64 c.m,.int .i64 c.s,.int .i64 c.sh,.int .i64 c.p0,.int .i64 c.p1,.int .i64 c.p2,.int .i64 c.cy,.int .i64 c.ex,.int .i64 c.fi,.int .i64 c.la,.int .i64 c.po] 24)
 have O:(∃ h,h=1∧ChkA c h∧y=0∧er=1)∨(CalOk c∧¬ (0≤n∧n≤3068036)∧y=0∧er=4)∨(CalOk c∧0≤n∧n≤3068036):=by
  rcases R with ⟨ok,h0,h1,_⟩|⟨ok,h0,h1,_⟩|⟨ok,h,h2,h3⟩|⟨no,h2,h3⟩
  ·exact .inr (.inr ⟨ok,h0,h1⟩)
  ·exact .inr (.inr ⟨ok,h0,h1⟩)
  ·exact .inr (.inl ⟨ok,h,h2,h3⟩)
  ·exact .inl ⟨1,rfl,.inr ⟨no,rfl⟩,h2,h3⟩
 rcases O with ⟨h,rfl,ch,rfl,rfl⟩|⟨ok,hn,rfl,rfl⟩|⟨ok,n0,n1⟩
 ·have ck:=fun w=>K 1 w ch
  clear ch R
  go_enter Tryz.func58,Tryz.ntmps58
  go_upto_region 1 with fail
  generalize w.alloc (.cells #[.string c.nm,.int .i64 c.k,.int .i64 c.d,.int .i64 c.m,.int .i64 c.s,.int .i64 c.sh,.int .i64 c.p0,.int .i64 c.p1,.int .i64 c.p2,.int .i64 c.cy,.int .i64 c.ex,.int .i64 c.fi,.int .i64 c.la,.int .i64 c.po] 24)=W0 at *
  obtain ⟨_,c0,c1,c2,c3,c4,c5,c6,c7,c8,c9,c10,c11,c12,c13⟩:=id C
  go_wp2_with fail
  refine (ck _).mono ?_
  rintro e w1 ⟨rfl,hb⟩
  go_wp2
  go_ret2
  exact ⟨rfl,bthen B hb⟩
 ·have ck:=fun w=>K 0 w (.inl ⟨ok,rfl⟩)
  have co:=fun w=>Cr.rOf_any n 0 0 0 4 w (.inr ⟨hn,rfl,rfl,rfl,rfl⟩)
  clear ok hn R
  go_enter Tryz.func58,Tryz.ntmps58
  go_upto_region 1 with fail
  generalize w.alloc (.cells #[.string c.nm,.int .i64 c.k,.int .i64 c.d,.int .i64 c.m,.int .i64 c.s,.int .i64 c.sh,.int .i64 c.p0,.int .i64 c.p1,.int .i64 c.p2,.int .i64 c.cy,.int .i64 c.ex,.int .i64 c.fi,.int .i64 c.la,.int .i64 c.po] 24)=W0 at *
  obtain ⟨_,c0,c1,c2,c3,c4,c5,c6,c7,c8,c9,c10,c11,c12,c13⟩:=id C
  go_wp2_with fail
  refine (ck _).mono ?_
  rintro e w1 ⟨rfl,hb⟩
  have C1:=C.kept hb
  have B1:=bthen B hb
  clear hb c0 c1 c2 c3 c4 c5 c6 c7 c8 c9 c10 c11 c12 c13 C B
  obtain ⟨_,c0,c1,c2,c3,c4,c5,c6,c7,c8,c9,c10,c11,c12,c13⟩:=id C1
  go_wp2_with fail
  refine (co _).mono ?_
  rintro e w2 ⟨rfl,hb2⟩
  go_wp2
  go_ret2
  exact ⟨rfl,balloc (bthen B1 hb2) _⟩
 ·have ck:=fun w=>K 0 w (.inl ⟨ok,rfl⟩)
  obtain ⟨Y,M,D,od,on⟩:=num_ex n0 n1
  have co:=fun w=>Cr.rOf_any n Y M D 0 w (.inl ⟨n0,n1,od,on,rfl⟩)
  have nb:=num_bd od
  rw [on] at nb
  have kb:=kind_bd ok.1
  have Y0:=od.1.1
  have Y1:=od.1.2.1
  have NR:Hid (er=0→Y - 2≤y∧y≤Y+1∧1601≤y∧y≤9997∧yend c (y - 1)<n∧n≤yend c y):=Lib.hid (fun e=>by
   rcases R with ⟨_,_,_,y0,y1,ya,yb,_⟩|⟨_,_,_,_,_,h⟩|⟨_,_,_,h⟩|⟨_,_,h⟩
   ·have:=year_near ok.1 nb.1 nb.2 y0 y1 ya yb
    exact ⟨by omega,by omega,y0,y1,ya,yb⟩
   ·omega
   ·omega
   ·omega)
  have NO:Hid (∀ k:Int,1601≤k→k≤9997→yend c (k - 1)<n→n≤yend c k→y=k∧er=0):=Lib.hid (fun k h0 h1 h2 h3=>by
   rcases R with ⟨_,_,_,y0,y1,ya,yb,h⟩|⟨_,_,_,h,_,_⟩|⟨_,h,_⟩|⟨no,_⟩
   ·exact ⟨year_uniq ok.1 y0 y1 ya yb h0 h1 h2 h3,h⟩
   ·exfalso
    rcases h with h|h
    ·by_cases e:k - 1=1600
     ·rw [e] at h2;omega
     ·have:=yend_lt ok.1 (a:=1600) (b:=k - 1) (by omega) (by omega) (by omega);omega
    ·by_cases e:k=9997
     ·rw [e] at h3;omega
     ·have:=yend_lt ok.1 (a:=k) (b:=9997) (by omega) (by omega) (by omega);omega
   ·exact absurd ⟨n0,n1⟩ h
   ·exact absurd ok no)
  have N1:Hid (er≠0→y=0∧er=11):=Lib.hid (fun e=>by
   rcases R with ⟨_,_,_,_,_,_,_,h⟩|⟨_,_,_,_,h1,h2⟩|⟨_,h,_⟩|⟨no,_⟩
   ·exact absurd h e
   ·exact ⟨h1,h2⟩
   ·exact absurd ⟨n0,n1⟩ h
   ·exact absurd ok no)
  have OK:=Lib.hid ok
  clear od on nb kb R ok
  go_enter Tryz.func58,Tryz.ntmps58
  go_upto_region 1 with fail
  generalize w.alloc (.cells #[.string c.nm,.int .i64 c.k,.int .i64 c.d,.int .i64 c.m,.int .i64 c.s,.int .i64 c.sh,.int .i64 c.p0,.int .i64 c.p1,.int .i64 c.p2,.int .i64 c.cy,.int .i64 c.ex,.int .i64 c.fi,.int .i64 c.la,.int .i64 c.po] 24)=W0 at *
  obtain ⟨_,c0,c1,c2,c3,c4,c5,c6,c7,c8,c9,c10,c11,c12,c13⟩:=id C
  go_wp2_with fail
  refine (ck _).mono ?_
  rintro e w1 ⟨rfl,hb⟩
  have C1:=C.kept hb
  have B1:=bthen B hb
  clear hb c0 c1 c2 c3 c4 c5 c6 c7 c8 c9 c10 c11 c12 c13 C B
  obtain ⟨_,c0,c1,c2,c3,c4,c5,c6,c7,c8,c9,c10,c11,c12,c13⟩:=id C1
  go_wp2_with fail
  refine (co _).mono ?_
  rintro e w2 ⟨rfl,hb⟩
  replace C1:=(C1.kept hb).alloc (.cells #[.int .i64 Y,.int .i64 M,.int .i64 D] 104)
  have B2:=balloc (bthen B1 hb) (.cells #[.int .i64 Y,.int .i64 M,.int .i64 D] 104)
  have Q:=Tri.new w2 (.int .i64 Y) (.int .i64 M) (.int .i64 D) 104
  clear hb B1 co c0 c1 c2 c3 c4 c5 c6 c7 c8 c9 c10 c11 c12 c13
  obtain ⟨_,c0,c1,c2,c3,c4,c5,c6,c7,c8,c9,c10,c11,c12,c13⟩:=id C1
  obtain ⟨_,q0,q1,q2,_,_,_⟩:=id Q
  go_wp2
  all_goals
   go_loopw [9] (fun Mk wr=>∃ k:Int,Y - 2≤k∧k≤Y+3∧Hid (er=0→k≤y)∧Mk= .int .i64 k∧Below w.heap.size w wr∧CalIn wr w.heap.size c∧Tri wr w2.heap.size (.int .i64 Y) (.int .i64 M) (.int .i64 D)) (fun Mk _=>(Y+4 - intOf Mk).toNat)
   case atStart=>exact ⟨Y - 2,by omega,by omega,Lib.hid (fun e=>(NR.out e).1),by first|rfl|(congr 1;omega),B2,C1,Q⟩
   case round =>
    clear B2 C1 Q c0 c1 c2 c3 c4 c5 c6 c7 c8 c9 c10 c11 c12 c13 q0 q1 q2
    obtain ⟨k,k0,k1,HK,rfl,B3,C3,Q3⟩:=hrel
    obtain ⟨_,c0,c1,c2,c3,c4,c5,c6,c7,c8,c9,c10,c11,c12,c13⟩:=id C3
    obtain ⟨_,q0,q1,q2,_,_,_⟩:=id Q3
    by_cases k9:k=Y+3
    ·subst k9
     have E:Hid (y=0∧er=11):=Lib.hid (N1.out (fun e=>by have h1:=NR.out e;have h2:=HK.out e;omega))
     clear HK NR NO N1
     obtain ⟨e1,e2⟩:=E.out
     subst e1 e2
     go_wp2_with fail
     go_ret2
     exact ⟨rfl,B3⟩
    ·have k2:k≤Y+2:=by omega
     clear k9
     obtain ⟨sv,se,HS⟩:=starta_ex c k
     obtain ⟨ev,ee,HE⟩:=enda_ex c k
     have cs:=fun w=>rStart_any c k sv se w HS K
     have ce:=fun w=>rEnd_any c k ev ee w HE K
     have O:(se=0∧sv≤n∧n≤ev∧Hid (y=k∧er=0))∨(se=0∧sv≤n∧ev<n∧Hid (er=0→k+1≤y))∨(se=0∧n<sv∧Hid (er=0→k+1≤y))∨(se=11∧Hid (er=0→k+1≤y)):=by
      rcases HS with ⟨_,h1,h2,hv,hs⟩|⟨_,h,_,hs⟩|⟨no,_⟩
      ·have hev:ev=yend c k:=by
        rcases HE with ⟨_,_,_,h,_⟩|⟨_,h,_⟩|⟨no,_⟩
        ·exact h
        ·omega
        ·exact absurd OK.out no
       by_cases a:sv≤n
       ·by_cases b:n≤ev
        ·exact .inl ⟨hs,a,b,Lib.hid (NO.out k h1 h2 (by omega) (by omega))⟩
        ·refine .inr (.inl ⟨hs,a,by omega,Lib.hid (fun e=>?_)⟩)
         have u:=NR.out e
         have v:=HK.out e
         by_cases q:k=y
         ·subst q;omega
         ·omega
       ·refine .inr (.inr (.inl ⟨hs,by omega,Lib.hid (fun e=>?_)⟩))
        have u:=NR.out e
        have v:=HK.out e
        by_cases q:k=y
        ·subst q;omega
        ·omega
      ·refine .inr (.inr (.inr ⟨hs,Lib.hid (fun e=>?_)⟩))
       have u:=NR.out e
       have v:=HK.out e
       omega
      ·exact absurd OK.out no
     clear HS HE NR NO N1 HK
     rcases O with ⟨rfl,a0,a1,H⟩|⟨rfl,a0,a1,H⟩|⟨rfl,a0,H⟩|⟨rfl,H⟩
     all_goals
      go_wp2_with fail
      refine (cs _).mono ?_
      rintro e w4 ⟨rfl,hb⟩
      have B4:=bthen B3 hb
      have C4:=C3.kept hb
      have Q4:=Q3.kept hb
      clear hb B3 C3 Q3 cs c0 c1 c2 c3 c4 c5 c6 c7 c8 c9 c10 c11 c12 c13 q0 q1 q2
      obtain ⟨_,c0,c1,c2,c3,c4,c5,c6,c7,c8,c9,c10,c11,c12,c13⟩:=id C4
      go_wp2_with fail
      refine (ce _).mono ?_
      rintro e w5 ⟨rfl,hb⟩
      have B5:=bthen B4 hb
      have C5:=C4.kept hb
      have Q5:=Q4.kept hb
      clear hb B4 C4 Q4 ce c0 c1 c2 c3 c4 c5 c6 c7 c8 c9 c10 c11 c12 c13
     ·obtain ⟨e1,e2⟩:=H.out
      subst e1 e2
      go_wp2_with fail
      go_ret2
      exact ⟨rfl,B5⟩
     all_goals
      go_wp2_with fail
      go_roundw
      case rel=>exact ⟨k+1,by omega,by omega,H,by go_num,B5,C5,Q5⟩
      case measure=>simp [intOf];omega

end Go.Proofs.YtoilomigceijaaaGreatDoor.Jr

