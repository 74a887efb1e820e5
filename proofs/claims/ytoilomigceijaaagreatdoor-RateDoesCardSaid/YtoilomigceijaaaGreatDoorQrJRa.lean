/- Texts that are joined: Rmath, Rput, Rof, Rback, Rcmp, Rmath2, Rplus, Rplus2, Rfuns, Rneg, Radd, Rfit, Rsum, Sref, Rmath3, Rmul, Rmath4, Rdivp, Rdiv, Rmd, Sref2, Ssplit. -/
import Derived.Test.YtoilomigceijaaaGreatDoorQrJV
import Derived.Deep.RegionHeld3
import Derived.Deep.DeepCutAuto
import Derived.Deep.DrawnRows
import Derived.Deep.RegionLaw
import Derived.Test.YtoilomigceijaaaGreatDoorQrJK
import Derived.Test.YtoilomigceijaaaGreatDoorQrJS
import Derived.Lib.Hide
set_option linter.unusedSimpArgs false
set_option linter.unusedVariables false
namespace Go.Proofs.YtoilomigceijaaaGreatDoor.Vm
open Go.RowKit (wrap32 wrap64)

def Dg (d:Int):Prop:=0≤d∧d≤65535
def D8 (x d0 d1 d2 d3 d4 d5 d6 d7:Int):Prop:=Dg d0∧Dg d1∧Dg d2∧Dg d3∧Dg d4∧Dg d5∧Dg d6∧Dg d7∧x=d0+d1*65536+d2*4294967296+d3*281474976710656+d4*18446744073709551616+d5*1208925819614629174706176+d6*79228162514264337593543950336+d7*5192296858534827628530496329220096

theorem d8_ex {x:Int}(h0:0≤x)(h1:x<340282366920938463463374607431768211456):∃ d0 d1 d2 d3 d4 d5 d6 d7,D8 x d0 d1 d2 d3 d4 d5 d6 d7:=by
 refine ⟨x%65536,x / 65536%65536,x / 4294967296%65536,x / 281474976710656%65536,x / 18446744073709551616%65536,x / 1208925819614629174706176%65536,x / 79228162514264337593543950336%65536,x / 5192296858534827628530496329220096%65536,?_⟩
 unfold D8 Dg
 omega

theorem d8_bd {x d0 d1 d2 d3 d4 d5 d6 d7:Int}(h:D8 x d0 d1 d2 d3 d4 d5 d6 d7):0≤x∧x<340282366920938463463374607431768211456:=by
 unfold D8 Dg at h;omega

theorem d8_words {h l d0 d1 d2 d3 d4 d5 d6 d7:Int}(b0:0≤l)(b1:l≤18446744073709551615)(D:D8 (num h l) d0 d1 d2 d3 d4 d5 d6 d7):l=d0+d1*65536+d2*4294967296+d3*281474976710656∧h=d4+d5*65536+d6*4294967296+d7*281474976710656:=by
 unfold D8 Dg num at D;omega
theorem dg4_steps {l d0 d1 d2 d3:Int}(c0:Dg d0)(c1:Dg d1)(c2:Dg d2)(c3:Dg d3)(e:l=d0+d1*65536+d2*4294967296+d3*281474976710656) :
  ∃ m1 m2 m3:Int,l%65536=d0∧l / 65536=m1∧m1%65536=d1∧m1 / 65536=m2∧m2%65536=d2∧m2 / 65536=m3∧m3%65536=d3∧0≤m1∧0≤m2∧0≤m3∧m1≤18446744073709551615∧m2≤18446744073709551615∧m3≤18446744073709551615:=by
 unfold Dg at *
 refine ⟨d1+d2*65536+d3*4294967296,d2+d3*65536,d3,?_⟩
 omega

end Go.Proofs.YtoilomigceijaaaGreatDoor.Vm

namespace Go.Proofs.YtoilomigceijaaaGreatDoor.Vr
open Go.RowKit Vm Vc

set_option maxHeartbeats 400000

theorem put_at (s:Bool)(h l d0 d1 d2 d3 d4 d5 d6 d7:Int)(w:World)(h0:0≤h)(h1:h≤18446744073709551615)(l0:0≤l)(l1:l≤18446744073709551615)(D:D8 (num h l) d0 d1 d2 d3 d4 d5 d6 d7) :
  Calls Tryz.prog 80 #[.bool s,.int .u64 h,.int .u64 l] w fun e w'=>e= .returned (.agg #[.bool s,.int .u64 d0,.int .u64 d1,.int .u64 d2,.int .u64 d3,.int .u64 d4,.int .u64 d5,.int .u64 d6,.int .u64 d7])∧
   w'=(w.alloc (.cells #[.bool s,.int .u64 d0,.int .u64 d1,.int .u64 d2,.int .u64 d3,.int .u64 d4,.int .u64 d5,.int .u64 d6,.int .u64 d7] 120)).alloc (.cells #[.bool s,.int .u64 d0,.int .u64 d1,.int .u64 d2,.int .u64 d3,.int .u64 d4,.int .u64 d5,.int .u64 d6,.int .u64 d7] 120):=by
 obtain ⟨el,eh⟩:=d8_words l0 l1 D
 obtain ⟨c0,c1,c2,c3,c4,c5,c6,c7,_⟩:=D
 obtain ⟨m1,m2,m3,a0,a1,a2,a3,a4,a5,a6,a7,a8,a9,a10,a11,a12⟩:=dg4_steps c0 c1 c2 c3 el
 obtain ⟨n1,n2,n3,b0,b1,b2,b3,b4,b5,b6,b7,b8,b9,b10,b11,b12⟩:=dg4_steps c4 c5 c6 c7 eh
 clear el eh c0 c1 c2 c3 c4 c5 c6 c7
 go_enter Tryz.func80,Tryz.ntmps80
 go_wp2
 refine wp_loop_rounds 5 ?_
 rw [rounds_succ]
 go_wp2
 rw [rounds_succ]
 go_wp2
 rw [rounds_succ]
 go_wp2
 rw [rounds_succ]
 go_wp2
 rw [rounds_succ]
 go_wp2
 refine bodyPost_ret (v:=.agg #[.bool s,.int .u64 d0,.int .u64 d1,.int .u64 d2,.int .u64 d3,.int .u64 d4,.int .u64 d5,.int .u64 d6,.int .u64 d7]) (by simp [results,Tryz.results80,go_sem]) rfl ⟨rfl,rfl⟩

end Go.Proofs.YtoilomigceijaaaGreatDoor.Vr

namespace Go.Proofs.YtoilomigceijaaaGreatDoor.Vr
open Go.RowKit Vm Vc

set_option maxHeartbeats 400000

theorem words_to (s:Bool)(x h l d0 d1 d2 d3 d4 d5 d6 d7:Int)(w:World)(D:D8 x d0 d1 d2 d3 d4 d5 d6 d7)(eh:Hid (x / 18446744073709551616=h))(el:Hid (x%18446744073709551616=l)) :
  Calls Tryz.prog 84 #[.agg #[.bool s,.int .u64 d0,.int .u64 d1,.int .u64 d2,.int .u64 d3,.int .u64 d4,.int .u64 d5,.int .u64 d6,.int .u64 d7]] w fun e w'=>e= .returned (.tuple #[.int .u64 h,.int .u64 l])∧Below w.heap.size w w':=by
 have DD:=Lib.hid D
 obtain ⟨⟨a0,b0⟩,⟨a1,b1⟩,⟨a2,b2⟩,⟨a3,b3⟩,⟨a4,b4⟩,⟨a5,b5⟩,⟨a6,b6⟩,⟨a7,b7⟩,e⟩:=D
 have E:=Lib.hid e
 clear e
 go_enter Tryz.func84,Tryz.ntmps84
 go_wp2
 refine wp_loop_rounds 5 ?_
 rw [rounds_succ]
 go_wp2
 rw [rounds_succ]
 go_wp2
 rw [rounds_succ]
 go_wp2
 rw [rounds_succ]
 go_wp2
 rw [rounds_succ]
 go_wp2
 go_ret2
 refine ⟨?_,(Below.refl _ _).alloc (Nat.le_refl _) _⟩
 have f:=E.out
 have f1:=eh.out
 have f2:=el.out
 have g1:((d7*65536+d6)*65536+d5)*65536+d4=h:=by omega
 have g2:((d3*65536+d2)*65536+d1)*65536+d0=l:=by omega
 rw [g1,g2]
 rfl

theorem of_at (h l d0 d1 d2 d3 d4 d5 d6 d7:Int)(w:World)(B:Bd h l)(D:D8 (num h l).natAbs d0 d1 d2 d3 d4 d5 d6 d7) :
  Calls Tryz.prog 78 #[.agg #[.int .i64 h,.int .u64 l]] w fun e w'=>e= .returned (.agg #[.bool (decide (h<0)),.int .u64 d0,.int .u64 d1,.int .u64 d2,.int .u64 d3,.int .u64 d4,.int .u64 d5,.int .u64 d6,.int .u64 d7])∧
   w'=(((w.alloc (.cells #[.int .i64 h,.int .u64 l] 84)).alloc (.cells #[.bool (decide (h<0)),.int .u64 d0,.int .u64 d1,.int .u64 d2,.int .u64 d3,.int .u64 d4,.int .u64 d5,.int .u64 d6,.int .u64 d7] 120)).alloc
    (.cells #[.bool (decide (h<0)),.int .u64 d0,.int .u64 d1,.int .u64 d2,.int .u64 d3,.int .u64 d4,.int .u64 d5,.int .u64 d6,.int .u64 d7] 120)).alloc (.cells #[.bool (decide (h<0)),.int .u64 d0,.int .u64 d1,.int .u64 d2,.int .u64 d3,.int .u64 d4,.int .u64 d5,.int .u64 d6,.int .u64 d7] 120):=by
 obtain ⟨p1,p2,p3,p4⟩:=B
 by_cases c:0≤h
 ·have ds:decide (h<0)=false:=decide_eq_false (by omega)
  rw [ds]
  have D2:D8 (num h l) d0 d1 d2 d3 d4 d5 d6 d7:=by
   have e:((num h l).natAbs:Int)=num h l:=by unfold num;omega
   rw [e] at D;exact D
  have cp:=fun w=>put_at false h l d0 d1 d2 d3 d4 d5 d6 d7 w c (by omega) p3 p4 D2
  clear D D2 ds
  go_enter Tryz.func78,Tryz.ntmps78
  go_wp2_with fail
  refine (cp _).mono ?_
  rintro e w1 ⟨rfl,rfl⟩
  go_wp2
  exact bodyPost_ret (v:=.agg #[.bool false,.int .u64 d0,.int .u64 d1,.int .u64 d2,.int .u64 d3,.int .u64 d4,.int .u64 d5,.int .u64 d6,.int .u64 d7]) (by simp [results,Tryz.results78,go_sem]) rfl ⟨rfl,rfl⟩
 ·have ds:decide (h<0)=true:=decide_eq_true (by omega)
  have dn:decide (0≤h)=false:=decide_eq_false c
  rw [ds]
  by_cases z:l=0
  ·subst z
   have D2:D8 (num (-(h+1)+1) 0) d0 d1 d2 d3 d4 d5 d6 d7:=by
    have e:((num h 0).natAbs:Int)=num (-(h+1)+1) 0:=by unfold num;omega
    rw [e] at D;exact D
   have cp:=fun w=>put_at true (-(h+1)+1) 0 d0 d1 d2 d3 d4 d5 d6 d7 w (by omega) (by omega) (by omega) (by omega) D2
   clear D D2 ds
   go_enter Tryz.func78,Tryz.ntmps78
   go_wp2_with fail
   refine (cp _).mono ?_
   rintro e w1 ⟨rfl,rfl⟩
   go_wp2
   exact bodyPost_ret (v:=.agg #[.bool true,.int .u64 d0,.int .u64 d1,.int .u64 d2,.int .u64 d3,.int .u64 d4,.int .u64 d5,.int .u64 d6,.int .u64 d7]) (by simp [results,Tryz.results78,go_sem]) rfl ⟨rfl,rfl⟩
  ·have D2:D8 (num (-(h+1)) (18446744073709551615 - l+1)) d0 d1 d2 d3 d4 d5 d6 d7:=by
    have e:((num h l).natAbs:Int)=num (-(h+1)) (18446744073709551615 - l+1):=by unfold num;omega
    rw [e] at D;exact D
   have cp:=fun w=>put_at true (-(h+1)) (18446744073709551615 - l+1) d0 d1 d2 d3 d4 d5 d6 d7 w (by omega) (by omega) (by omega) (by omega) D2
   have z1:(18446744073709551615 - l==18446744073709551615)=false:=beq_eq_false_iff_ne.2 (by omega)
   have z2:1≤l:=by omega
   clear D D2 ds z
   go_enter Tryz.func78,Tryz.ntmps78
   go_wp2_with fail
   refine (cp _).mono ?_
   rintro e w1 ⟨rfl,rfl⟩
   go_wp2
   exact bodyPost_ret (v:=.agg #[.bool true,.int .u64 d0,.int .u64 d1,.int .u64 d2,.int .u64 d3,.int .u64 d4,.int .u64 d5,.int .u64 d6,.int .u64 d7]) (by simp [results,Tryz.results78,go_sem]) rfl ⟨rfl,rfl⟩

end Go.Proofs.YtoilomigceijaaaGreatDoor.Vr

namespace Go.Proofs.YtoilomigceijaaaGreatDoor.Vr
open Go.RowKit Vm Vc

set_option maxHeartbeats 400000

def sgn (s:Bool)(x:Int):Int:=if s then -x else x

def Backs (v:Int)(w:World)(e:Ending)(w':World):Prop :=
 ∃ (h l:Int) (is:Bool),e= .returned (.tuple #[.agg #[.int .i64 h,.int .u64 l],.bool is])∧((is=true∧Res v h l 0)∨(is=false∧¬ Fits v))∧Below w.heap.size w w'

theorem back_facts {x hh ll:Int}(h0:0≤x)(h1:x<340282366920938463463374607431768211456)(eh:x / 18446744073709551616=hh)(el:x%18446744073709551616=ll) :
  0≤hh∧hh≤18446744073709551615∧0≤ll∧ll≤18446744073709551615∧x=num hh ll:=by unfold num;omega

theorem back_tells (s:Bool)(x d0 d1 d2 d3 d4 d5 d6 d7:Int)(w:World)(D:D8 x d0 d1 d2 d3 d4 d5 d6 d7) :
  Calls Tryz.prog 81 #[.agg #[.bool s,.int .u64 d0,.int .u64 d1,.int .u64 d2,.int .u64 d3,.int .u64 d4,.int .u64 d5,.int .u64 d6,.int .u64 d7]] w (Backs (sgn s x) w):=by
 obtain ⟨x0,x1⟩:=d8_bd D
 obtain ⟨hh,ehh⟩:∃ t,x / 18446744073709551616=t:=⟨_,rfl⟩
 obtain ⟨ll,ell⟩:∃ t,x%18446744073709551616=t:=⟨_,rfl⟩
 obtain ⟨b0,b1,b2,b3,ex⟩:=back_facts x0 x1 ehh ell
 have cw:=fun w=>words_to s x hh ll d0 d1 d2 d3 d4 d5 d6 d7 w D (Lib.hid ehh) (Lib.hid ell)
 clear D ehh ell x0 x1
 have EX:=Lib.hid ex
 clear ex
 cases s
 ·by_cases c:hh<9223372036854775808
  ·have d1:decide (hh<9223372036854775808)=true:=decide_eq_true c
   go_enter Tryz.func81,Tryz.ntmps81
   go_wp2_with fail
   refine (cw _).mono ?_
   rintro e w1 ⟨rfl,hb1⟩
   obtain ⟨hc,hf⟩:=bcell hb1

   have B1:Below w.heap.size w w1:=(((Below.refl _ _).alloc (Nat.le_refl _) _).alloc (by simp) _).trans (hb1.mono (by simp<;>omega))
   go_wp2
   refine bodyPost_ret (v:=.tuple #[.agg #[.int .i64 (hh%9223372036854775808),.int .u64 ll],.bool true]) (by simp [results,Tryz.results81,go_sem,hc]) rfl ⟨(hh%9223372036854775808),ll,true,rfl,?_,(B1.setCell (by simp) _).setCell (by simp) _⟩
   exact .inl ⟨rfl,.inl ⟨rfl,by unfold num;unfold sgn;have:=EX.out;unfold num at this;simp;omega,by unfold Bd;omega⟩⟩
  ·have d1:decide (hh<9223372036854775808)=false:=decide_eq_false c
   go_enter Tryz.func81,Tryz.ntmps81
   go_wp2_with fail
   refine (cw _).mono ?_
   rintro e w1 ⟨rfl,hb1⟩
   obtain ⟨hc,hf⟩:=bcell hb1

   have B1:Below w.heap.size w w1:=(((Below.refl _ _).alloc (Nat.le_refl _) _).alloc (by simp) _).trans (hb1.mono (by simp<;>omega))
   go_wp2
   refine bodyPost_ret (v:=.tuple #[.agg #[.int .i64 (hh%9223372036854775808),.int .u64 ll],.bool false]) (by simp [results,Tryz.results81,go_sem,hc]) rfl ⟨(hh%9223372036854775808),ll,false,rfl,?_,(B1.setCell (by simp) _).setCell (by simp) _⟩
   exact .inr ⟨rfl,by unfold sgn Fits;have:=EX.out;unfold num at this;simp;omega⟩
 ·by_cases c0:hh=0∧ll=0
  ·obtain ⟨rfl,rfl⟩:=c0
   go_enter Tryz.func81,Tryz.ntmps81
   go_wp2_with fail
   refine (cw _).mono ?_
   rintro e w1 ⟨rfl,hb1⟩
   obtain ⟨hc,hf⟩:=bcell hb1

   have B1:Below w.heap.size w w1:=(((Below.refl _ _).alloc (Nat.le_refl _) _).alloc (by simp) _).trans (hb1.mono (by simp<;>omega))
   go_wp2
   refine bodyPost_ret (v:=.tuple #[.agg #[.int .i64 0,.int .u64 0],.bool true]) (by simp [results,Tryz.results81,go_sem,hc]) rfl ⟨0,0,true,rfl,?_,(B1.setCell (by simp) _).setCell (by simp) _⟩
   exact .inl ⟨rfl,.inl ⟨rfl,by unfold num;unfold sgn;have:=EX.out;unfold num at this;simp;omega,by unfold Bd;omega⟩⟩
  ·have nz:((hh==0)=false∧True)∨((hh==0)=true∧(ll==0)=false):=by
    by_cases h:hh=0
    ·exact .inr ⟨beq_iff_eq.2 h,beq_eq_false_iff_ne.2 (fun h'=>c0 ⟨h,h'⟩)⟩
    ·exact .inl ⟨beq_eq_false_iff_ne.2 h,trivial⟩
   by_cases c1:9223372036854775808<hh
   ·have d1:decide (9223372036854775808<hh)=true:=decide_eq_true c1
    have d2:(hh==0)=false:=beq_eq_false_iff_ne.2 (by omega)
    clear nz
    go_enter Tryz.func81,Tryz.ntmps81
    go_wp2_with fail
    refine (cw _).mono ?_
    rintro e w1 ⟨rfl,hb1⟩
    obtain ⟨hc,hf⟩:=bcell hb1

    have B1:Below w.heap.size w w1:=(((Below.refl _ _).alloc (Nat.le_refl _) _).alloc (by simp) _).trans (hb1.mono (by simp<;>omega))
    go_wp2
    refine bodyPost_ret (v:=.tuple #[.agg #[.int .i64 0,.int .u64 0],.bool false]) (by simp [results,Tryz.results81,go_sem,hc]) rfl ⟨0,0,false,rfl,?_,(B1.setCell (by simp) _).setCell (by simp) _⟩
    exact .inr ⟨rfl,by unfold sgn Fits;have:=EX.out;unfold num at this;simp;omega⟩
   ·have d1:decide (9223372036854775808<hh)=false:=decide_eq_false c1
    by_cases c2:hh=9223372036854775808
    ·subst c2
     clear nz
     by_cases c3:0<ll
     ·have d3:decide (0<ll)=true:=decide_eq_true c3
      go_enter Tryz.func81,Tryz.ntmps81
      go_wp2_with fail
      refine (cw _).mono ?_
      rintro e w1 ⟨rfl,hb1⟩
      obtain ⟨hc,hf⟩:=bcell hb1

      have B1:Below w.heap.size w w1:=(((Below.refl _ _).alloc (Nat.le_refl _) _).alloc (by simp) _).trans (hb1.mono (by simp<;>omega))
      go_wp2
      refine bodyPost_ret (v:=.tuple #[.agg #[.int .i64 0,.int .u64 0],.bool false]) (by simp [results,Tryz.results81,go_sem,hc]) rfl ⟨0,0,false,rfl,?_,(B1.setCell (by simp) _).setCell (by simp) _⟩
      exact .inr ⟨rfl,by unfold sgn Fits;have:=EX.out;unfold num at this;simp;omega⟩
     ·obtain rfl:ll=0:=by omega
      go_enter Tryz.func81,Tryz.ntmps81
      go_wp2_with fail
      refine (cw _).mono ?_
      rintro e w1 ⟨rfl,hb1⟩
      obtain ⟨hc,hf⟩:=bcell hb1

      have B1:Below w.heap.size w w1:=(((Below.refl _ _).alloc (Nat.le_refl _) _).alloc (by simp) _).trans (hb1.mono (by simp<;>omega))
      go_wp2
      refine bodyPost_ret (v:=.tuple #[.agg #[.int .i64 (-9223372036854775808),.int .u64 0],.bool true]) (by simp [results,Tryz.results81,go_sem,hc]) rfl ⟨(-9223372036854775808),0,true,rfl,?_,(B1.setCell (by simp) _).setCell (by simp) _⟩
      exact .inl ⟨rfl,.inl ⟨rfl,by unfold num;unfold sgn;have:=EX.out;unfold num at this;simp;omega,by unfold Bd;omega⟩⟩
    ·have d2:(hh==9223372036854775808)=false:=beq_eq_false_iff_ne.2 c2
     have d4:decide (hh<9223372036854775808)=true:=decide_eq_true (by omega)
     by_cases c3:ll=0
     ·subst c3
      have d5:(hh==0)=false:=beq_eq_false_iff_ne.2 (fun h=>c0 ⟨h,rfl⟩)
      have d6:1≤hh:=by omega
      have d7:hh≤9223372036854775807:=by omega
      clear nz
      go_enter Tryz.func81,Tryz.ntmps81
      go_wp2_with fail
      refine (cw _).mono ?_
      rintro e w1 ⟨rfl,hb1⟩
      obtain ⟨hc,hf⟩:=bcell hb1

      have B1:Below w.heap.size w w1:=(((Below.refl _ _).alloc (Nat.le_refl _) _).alloc (by simp) _).trans (hb1.mono (by simp<;>omega))
      go_wp2
      refine bodyPost_ret (v:=.tuple #[.agg #[.int .i64 (-(hh - 1) - 1),.int .u64 0],.bool true]) (by simp [results,Tryz.results81,go_sem,hc]) rfl ⟨(-(hh - 1) - 1),0,true,rfl,?_,(B1.setCell (by simp) _).setCell (by simp) _⟩
      exact .inl ⟨rfl,.inl ⟨rfl,by unfold num;unfold sgn;have:=EX.out;unfold num at this;simp;omega,by unfold Bd;omega⟩⟩
     ·have d3:(ll==0)=false:=beq_eq_false_iff_ne.2 c3
      have d6:1≤ll:=by omega
      have d7:hh≤9223372036854775807:=by omega
      rcases nz with ⟨n1,_⟩|⟨n1,n2⟩
      all_goals
       go_enter Tryz.func81,Tryz.ntmps81
       go_wp2_with fail
       refine (cw _).mono ?_
       rintro e w1 ⟨rfl,hb1⟩
       obtain ⟨hc,hf⟩:=bcell hb1

       have B1:Below w.heap.size w w1:=(((Below.refl _ _).alloc (Nat.le_refl _) _).alloc (by simp) _).trans (hb1.mono (by simp<;>omega))
       go_wp2
       refine bodyPost_ret (v:=.tuple #[.agg #[.int .i64 (-hh - 1),.int .u64 (18446744073709551615 - ll+1)],.bool true]) (by simp [results,Tryz.results81,go_sem,hc]) rfl ⟨(-hh - 1),(18446744073709551615 - ll+1),true,rfl,?_,(B1.setCell (by simp) _).setCell (by simp) _⟩
       exact .inl ⟨rfl,.inl ⟨rfl,by unfold num;unfold sgn;have:=EX.out;unfold num at this;simp;omega,by unfold Bd;omega⟩⟩

end Go.Proofs.YtoilomigceijaaaGreatDoor.Vr

namespace Go.Proofs.YtoilomigceijaaaGreatDoor.Vr
open Go.RowKit Vm Vc

theorem alloc_drewN (w:World)(n:Nat)(o:Obj):(w.drewN n).alloc o=(w.alloc o).drewN n:=rfl
theorem setCell_drewN (w:World)(n:Nat)(a:Addr)(v:Value):(w.drewN n).setCell a v=(w.setCell a v).drewN n:=rfl

set_option maxHeartbeats 1000000

theorem cmp_at (x y v x0 x1 x2 x3 x4 x5 x6 x7 y0 y1 y2 y3 y4 y5 y6 y7:Int)(w:World)(D:D8 x x0 x1 x2 x3 x4 x5 x6 x7)(E:D8 y y0 y1 y2 y3 y4 y5 y6 y7)(ev:Hid (cv x y=v)) :
  Calls Tryz.prog 126 #[.agg #[.int .u64 x0,.int .u64 x1,.int .u64 x2,.int .u64 x3,.int .u64 x4,.int .u64 x5,.int .u64 x6,.int .u64 x7],.agg #[.int .u64 y0,.int .u64 y1,.int .u64 y2,.int .u64 y3,.int .u64 y4,.int .u64 y5,.int .u64 y6,.int .u64 y7]] w fun e w'=>e= .returned (.int .i64 v)∧
   ∃ n,w'=((w.alloc (.cells #[.int .u64 x0,.int .u64 x1,.int .u64 x2,.int .u64 x3,.int .u64 x4,.int .u64 x5,.int .u64 x6,.int .u64 x7] 118)).alloc (.cells #[.int .u64 y0,.int .u64 y1,.int .u64 y2,.int .u64 y3,.int .u64 y4,.int .u64 y5,.int .u64 y6,.int .u64 y7] 118)).drewN n:=by
 replace D:=Lib.hid D
 replace E:=Lib.hid E
 go_enter Tryz.func126,Tryz.ntmps126
 go_wp2
 refine wp_loop_rounds 9 ?_
 by_cases c7:x7<y7
 ·have a7:decide (x7<y7)=true:=decide_eq_true c7
  rw [rounds_succ]
  go_wp2
  go_quiet (fail)
  go_wp2
  have e1:cv x y= -1:=by have f1:=D.out;have f2:=E.out;unfold D8 Dg at f1 f2;unfold cv;rw [if_pos (by omega)]
  go_ret
  refine ⟨ret_one (e1.symm.trans ev.out),?_⟩
  try simp only [World.drewN_drewN]
  exact ⟨_,rfl⟩
 ·have a7:decide (x7<y7)=false:=decide_eq_false c7
  by_cases k7:y7<x7
  ·have b7:decide (y7<x7)=true:=decide_eq_true k7
   rw [rounds_succ]
   go_wp2
   go_quiet (fail)
   go_wp2
   go_quiet (fail)
   go_wp2
   have e1:cv x y=1:=by have f1:=D.out;have f2:=E.out;unfold D8 Dg at f1 f2;unfold cv;rw [if_neg (by omega),if_pos (by omega)]
   go_ret
   refine ⟨ret_one (e1.symm.trans ev.out),?_⟩
   try simp only [World.drewN_drewN]
   exact ⟨_,rfl⟩
  ·have b7:decide (y7<x7)=false:=decide_eq_false k7
   have Q7:=Lib.hid (show x7=y7 by omega)
   rw [rounds_succ]
   go_wp2
   go_quiet (fail)
   go_wp2
   go_quiet (fail)
   go_wp2
   clear a7 b7 c7 k7
   by_cases c6:x6<y6
   ·have a6:decide (x6<y6)=true:=decide_eq_true c6
    rw [rounds_succ]
    go_wp2
    go_quiet (fail)
    go_wp2
    have e1:cv x y= -1:=by have f1:=D.out;have f2:=E.out;have g7:=Q7.out;unfold D8 Dg at f1 f2;unfold cv;rw [if_pos (by omega)]
    go_ret
    refine ⟨ret_one (e1.symm.trans ev.out),?_⟩
    try simp only [World.drewN_drewN]
    exact ⟨_,rfl⟩
   ·have a6:decide (x6<y6)=false:=decide_eq_false c6
    by_cases k6:y6<x6
    ·have b6:decide (y6<x6)=true:=decide_eq_true k6
     rw [rounds_succ]
     go_wp2
     go_quiet (fail)
     go_wp2
     go_quiet (fail)
     go_wp2
     have e1:cv x y=1:=by have f1:=D.out;have f2:=E.out;have g7:=Q7.out;unfold D8 Dg at f1 f2;unfold cv;rw [if_neg (by omega),if_pos (by omega)]
     go_ret
     refine ⟨ret_one (e1.symm.trans ev.out),?_⟩
     try simp only [World.drewN_drewN]
     exact ⟨_,rfl⟩
    ·have b6:decide (y6<x6)=false:=decide_eq_false k6
     have Q6:=Lib.hid (show x6=y6 by omega)
     rw [rounds_succ]
     go_wp2
     go_quiet (fail)
     go_wp2
     go_quiet (fail)
     go_wp2
     clear a6 b6 c6 k6
     by_cases c5:x5<y5
     ·have a5:decide (x5<y5)=true:=decide_eq_true c5
      rw [rounds_succ]
      go_wp2
      go_quiet (fail)
      go_wp2
      have e1:cv x y= -1:=by have f1:=D.out;have f2:=E.out;have g6:=Q6.out;have g7:=Q7.out;unfold D8 Dg at f1 f2;unfold cv;rw [if_pos (by omega)]
      go_ret
      refine ⟨ret_one (e1.symm.trans ev.out),?_⟩
      try simp only [World.drewN_drewN]
      exact ⟨_,rfl⟩
     ·have a5:decide (x5<y5)=false:=decide_eq_false c5
      by_cases k5:y5<x5
      ·have b5:decide (y5<x5)=true:=decide_eq_true k5
       rw [rounds_succ]
       go_wp2
       go_quiet (fail)
       go_wp2
       go_quiet (fail)
       go_wp2
       have e1:cv x y=1:=by have f1:=D.out;have f2:=E.out;have g6:=Q6.out;have g7:=Q7.out;unfold D8 Dg at f1 f2;unfold cv;rw [if_neg (by omega),if_pos (by omega)]
       go_ret
       refine ⟨ret_one (e1.symm.trans ev.out),?_⟩
       try simp only [World.drewN_drewN]
       exact ⟨_,rfl⟩
      ·have b5:decide (y5<x5)=false:=decide_eq_false k5
       have Q5:=Lib.hid (show x5=y5 by omega)
       rw [rounds_succ]
       go_wp2
       go_quiet (fail)
       go_wp2
       go_quiet (fail)
       go_wp2
       clear a5 b5 c5 k5
       by_cases c4:x4<y4
       ·have a4:decide (x4<y4)=true:=decide_eq_true c4
        rw [rounds_succ]
        go_wp2
        go_quiet (fail)
        go_wp2
        have e1:cv x y= -1:=by have f1:=D.out;have f2:=E.out;have g5:=Q5.out;have g6:=Q6.out;have g7:=Q7.out;unfold D8 Dg at f1 f2;unfold cv;rw [if_pos (by omega)]
        go_ret
        refine ⟨ret_one (e1.symm.trans ev.out),?_⟩
        try simp only [World.drewN_drewN]
        exact ⟨_,rfl⟩
       ·have a4:decide (x4<y4)=false:=decide_eq_false c4
        by_cases k4:y4<x4
        ·have b4:decide (y4<x4)=true:=decide_eq_true k4
         rw [rounds_succ]
         go_wp2
         go_quiet (fail)
         go_wp2
         go_quiet (fail)
         go_wp2
         have e1:cv x y=1:=by have f1:=D.out;have f2:=E.out;have g5:=Q5.out;have g6:=Q6.out;have g7:=Q7.out;unfold D8 Dg at f1 f2;unfold cv;rw [if_neg (by omega),if_pos (by omega)]
         go_ret
         refine ⟨ret_one (e1.symm.trans ev.out),?_⟩
         try simp only [World.drewN_drewN]
         exact ⟨_,rfl⟩
        ·have b4:decide (y4<x4)=false:=decide_eq_false k4
         have Q4:=Lib.hid (show x4=y4 by omega)
         rw [rounds_succ]
         go_wp2
         go_quiet (fail)
         go_wp2
         go_quiet (fail)
         go_wp2
         clear a4 b4 c4 k4
         by_cases c3:x3<y3
         ·have a3:decide (x3<y3)=true:=decide_eq_true c3
          rw [rounds_succ]
          go_wp2
          go_quiet (fail)
          go_wp2
          have e1:cv x y= -1:=by have f1:=D.out;have f2:=E.out;have g4:=Q4.out;have g5:=Q5.out;have g6:=Q6.out;have g7:=Q7.out;unfold D8 Dg at f1 f2;unfold cv;rw [if_pos (by omega)]
          go_ret
          refine ⟨ret_one (e1.symm.trans ev.out),?_⟩
          try simp only [World.drewN_drewN]
          exact ⟨_,rfl⟩
         ·have a3:decide (x3<y3)=false:=decide_eq_false c3
          by_cases k3:y3<x3
          ·have b3:decide (y3<x3)=true:=decide_eq_true k3
           rw [rounds_succ]
           go_wp2
           go_quiet (fail)
           go_wp2
           go_quiet (fail)
           go_wp2
           have e1:cv x y=1:=by have f1:=D.out;have f2:=E.out;have g4:=Q4.out;have g5:=Q5.out;have g6:=Q6.out;have g7:=Q7.out;unfold D8 Dg at f1 f2;unfold cv;rw [if_neg (by omega),if_pos (by omega)]
           go_ret
           refine ⟨ret_one (e1.symm.trans ev.out),?_⟩
           try simp only [World.drewN_drewN]
           exact ⟨_,rfl⟩
          ·have b3:decide (y3<x3)=false:=decide_eq_false k3
           have Q3:=Lib.hid (show x3=y3 by omega)
           rw [rounds_succ]
           go_wp2
           go_quiet (fail)
           go_wp2
           go_quiet (fail)
           go_wp2
           clear a3 b3 c3 k3
           by_cases c2:x2<y2
           ·have a2:decide (x2<y2)=true:=decide_eq_true c2
            rw [rounds_succ]
            go_wp2
            go_quiet (fail)
            go_wp2
            have e1:cv x y= -1:=by have f1:=D.out;have f2:=E.out;have g3:=Q3.out;have g4:=Q4.out;have g5:=Q5.out;have g6:=Q6.out;have g7:=Q7.out;unfold D8 Dg at f1 f2;unfold cv;rw [if_pos (by omega)]
            go_ret
            refine ⟨ret_one (e1.symm.trans ev.out),?_⟩
            try simp only [World.drewN_drewN]
            exact ⟨_,rfl⟩
           ·have a2:decide (x2<y2)=false:=decide_eq_false c2
            by_cases k2:y2<x2
            ·have b2:decide (y2<x2)=true:=decide_eq_true k2
             rw [rounds_succ]
             go_wp2
             go_quiet (fail)
             go_wp2
             go_quiet (fail)
             go_wp2
             have e1:cv x y=1:=by have f1:=D.out;have f2:=E.out;have g3:=Q3.out;have g4:=Q4.out;have g5:=Q5.out;have g6:=Q6.out;have g7:=Q7.out;unfold D8 Dg at f1 f2;unfold cv;rw [if_neg (by omega),if_pos (by omega)]
             go_ret
             refine ⟨ret_one (e1.symm.trans ev.out),?_⟩
             try simp only [World.drewN_drewN]
             exact ⟨_,rfl⟩
            ·have b2:decide (y2<x2)=false:=decide_eq_false k2
             have Q2:=Lib.hid (show x2=y2 by omega)
             rw [rounds_succ]
             go_wp2
             go_quiet (fail)
             go_wp2
             go_quiet (fail)
             go_wp2
             clear a2 b2 c2 k2
             by_cases c1:x1<y1
             ·have a1:decide (x1<y1)=true:=decide_eq_true c1
              rw [rounds_succ]
              go_wp2
              go_quiet (fail)
              go_wp2
              have e1:cv x y= -1:=by have f1:=D.out;have f2:=E.out;have g2:=Q2.out;have g3:=Q3.out;have g4:=Q4.out;have g5:=Q5.out;have g6:=Q6.out;have g7:=Q7.out;unfold D8 Dg at f1 f2;unfold cv;rw [if_pos (by omega)]
              go_ret
              refine ⟨ret_one (e1.symm.trans ev.out),?_⟩
              try simp only [World.drewN_drewN]
              exact ⟨_,rfl⟩
             ·have a1:decide (x1<y1)=false:=decide_eq_false c1
              by_cases k1:y1<x1
              ·have b1:decide (y1<x1)=true:=decide_eq_true k1
               rw [rounds_succ]
               go_wp2
               go_quiet (fail)
               go_wp2
               go_quiet (fail)
               go_wp2
               have e1:cv x y=1:=by have f1:=D.out;have f2:=E.out;have g2:=Q2.out;have g3:=Q3.out;have g4:=Q4.out;have g5:=Q5.out;have g6:=Q6.out;have g7:=Q7.out;unfold D8 Dg at f1 f2;unfold cv;rw [if_neg (by omega),if_pos (by omega)]
               go_ret
               refine ⟨ret_one (e1.symm.trans ev.out),?_⟩
               try simp only [World.drewN_drewN]
               exact ⟨_,rfl⟩
              ·have b1:decide (y1<x1)=false:=decide_eq_false k1
               have Q1:=Lib.hid (show x1=y1 by omega)
               rw [rounds_succ]
               go_wp2
               go_quiet (fail)
               go_wp2
               go_quiet (fail)
               go_wp2
               clear a1 b1 c1 k1
               by_cases c0:x0<y0
               ·have a0:decide (x0<y0)=true:=decide_eq_true c0
                rw [rounds_succ]
                go_wp2
                go_quiet (fail)
                go_wp2
                have e1:cv x y= -1:=by have f1:=D.out;have f2:=E.out;have g1:=Q1.out;have g2:=Q2.out;have g3:=Q3.out;have g4:=Q4.out;have g5:=Q5.out;have g6:=Q6.out;have g7:=Q7.out;unfold D8 Dg at f1 f2;unfold cv;rw [if_pos (by omega)]
                go_ret
                refine ⟨ret_one (e1.symm.trans ev.out),?_⟩
                try simp only [World.drewN_drewN]
                exact ⟨_,rfl⟩
               ·have a0:decide (x0<y0)=false:=decide_eq_false c0
                by_cases k0:y0<x0
                ·have b0:decide (y0<x0)=true:=decide_eq_true k0
                 rw [rounds_succ]
                 go_wp2
                 go_quiet (fail)
                 go_wp2
                 go_quiet (fail)
                 go_wp2
                 have e1:cv x y=1:=by have f1:=D.out;have f2:=E.out;have g1:=Q1.out;have g2:=Q2.out;have g3:=Q3.out;have g4:=Q4.out;have g5:=Q5.out;have g6:=Q6.out;have g7:=Q7.out;unfold D8 Dg at f1 f2;unfold cv;rw [if_neg (by omega),if_pos (by omega)]
                 go_ret
                 refine ⟨ret_one (e1.symm.trans ev.out),?_⟩
                 try simp only [World.drewN_drewN]
                 exact ⟨_,rfl⟩
                ·have b0:decide (y0<x0)=false:=decide_eq_false k0
                 have Q0:=Lib.hid (show x0=y0 by omega)
                 rw [rounds_succ]
                 go_wp2
                 go_quiet (fail)
                 go_wp2
                 go_quiet (fail)
                 go_wp2
                 clear a0 b0 c0 k0
                 rw [rounds_succ]
                 go_wp2
                 have e1:cv x y=0:=by have f1:=D.out;have f2:=E.out;have g0:=Q0.out;have g1:=Q1.out;have g2:=Q2.out;have g3:=Q3.out;have g4:=Q4.out;have g5:=Q5.out;have g6:=Q6.out;have g7:=Q7.out;unfold D8 Dg at f1 f2;unfold cv;rw [if_neg (by omega),if_neg (by omega)]
                 go_ret
                 refine ⟨ret_one (e1.symm.trans ev.out),?_⟩
                 try simp only [World.drewN_drewN]
                 exact ⟨_,rfl⟩

end Go.Proofs.YtoilomigceijaaaGreatDoor.Vr

namespace Go.Proofs.YtoilomigceijaaaGreatDoor.Vm
open Go.RowKit (wrap32 wrap64)

theorem dstep {t:Int}(h0:0≤t)(h1:t≤131071):∃ r m:Int,t%65536=r∧t / 65536=m∧0≤r∧r≤65535∧0≤m∧m≤1∧t=r+65536*m :=
 ⟨t%65536,t / 65536,rfl,rfl,by omega,by omega,by omega,by omega,by omega⟩

theorem add_ex {x y x0 x1 x2 x3 x4 x5 x6 x7 y0 y1 y2 y3 y4 y5 y6 y7:Int}(D:D8 x x0 x1 x2 x3 x4 x5 x6 x7)(E:D8 y y0 y1 y2 y3 y4 y5 y6 y7) :
  ∃ r0 r1 r2 r3 r4 r5 r6 r7 m1 m2 m3 m4 m5 m6 m7 m8:Int,(x0+y0)%65536=r0∧(x0+y0) / 65536=m1∧(m1+(x1+y1))%65536=r1∧(m1+(x1+y1)) / 65536=m2∧(m2+(x2+y2))%65536=r2∧(m2+(x2+y2)) / 65536=m3∧(m3+(x3+y3))%65536=r3∧(m3+(x3+y3)) / 65536=m4∧(m4+(x4+y4))%65536=r4∧(m4+(x4+y4)) / 65536=m5∧(m5+(x5+y5))%65536=r5∧(m5+(x5+y5)) / 65536=m6∧(m6+(x6+y6))%65536=r6∧(m6+(x6+y6)) / 65536=m7∧(m7+(x7+y7))%65536=r7∧(m7+(x7+y7)) / 65536=m8∧0≤m1∧m1≤1∧0≤m2∧m2≤1∧0≤m3∧m3≤1∧0≤m4∧m4≤1∧0≤m5∧m5≤1∧0≤m6∧m6≤1∧0≤m7∧m7≤1∧0≤m8∧m8≤1∧D8 (x+y - m8*340282366920938463463374607431768211456) r0 r1 r2 r3 r4 r5 r6 r7:=by
 unfold D8 Dg at *
 obtain ⟨⟨a0,b0⟩,⟨a1,b1⟩,⟨a2,b2⟩,⟨a3,b3⟩,⟨a4,b4⟩,⟨a5,b5⟩,⟨a6,b6⟩,⟨a7,b7⟩,ex⟩:=D
 obtain ⟨⟨f0,g0⟩,⟨f1,g1⟩,⟨f2,g2⟩,⟨f3,g3⟩,⟨f4,g4⟩,⟨f5,g5⟩,⟨f6,g6⟩,⟨f7,g7⟩,ey⟩:=E
 obtain ⟨r0,m1,u0,v0,p0,o0,w0,z0,l0⟩:=dstep (t:=x0+y0) (by omega) (by omega)
 obtain ⟨r1,m2,u1,v1,p1,o1,w1,z1,l1⟩:=dstep (t:=m1+(x1+y1)) (by omega) (by omega)
 obtain ⟨r2,m3,u2,v2,p2,o2,w2,z2,l2⟩:=dstep (t:=m2+(x2+y2)) (by omega) (by omega)
 obtain ⟨r3,m4,u3,v3,p3,o3,w3,z3,l3⟩:=dstep (t:=m3+(x3+y3)) (by omega) (by omega)
 obtain ⟨r4,m5,u4,v4,p4,o4,w4,z4,l4⟩:=dstep (t:=m4+(x4+y4)) (by omega) (by omega)
 obtain ⟨r5,m6,u5,v5,p5,o5,w5,z5,l5⟩:=dstep (t:=m5+(x5+y5)) (by omega) (by omega)
 obtain ⟨r6,m7,u6,v6,p6,o6,w6,z6,l6⟩:=dstep (t:=m6+(x6+y6)) (by omega) (by omega)
 obtain ⟨r7,m8,u7,v7,p7,o7,w7,z7,l7⟩:=dstep (t:=m7+(x7+y7)) (by omega) (by omega)
 refine ⟨r0,r1,r2,r3,r4,r5,r6,r7,m1,m2,m3,m4,m5,m6,m7,m8,u0,v0,u1,v1,u2,v2,u3,v3,u4,v4,u5,v5,u6,v6,u7,v7,w0,z0,w1,z1,w2,z2,w3,z3,w4,z4,w5,z5,w6,z6,w7,z7,?_⟩
 omega

theorem sub_ex {x y x0 x1 x2 x3 x4 x5 x6 x7 y0 y1 y2 y3 y4 y5 y6 y7:Int}(D:D8 x x0 x1 x2 x3 x4 x5 x6 x7)(E:D8 y y0 y1 y2 y3 y4 y5 y6 y7)(h:y≤x) :
  ∃ r0 r1 r2 r3 r4 r5 r6 r7 q0 q1 q2 q3 q4 q5 q6 q7 k1 k2 k3 k4 k5 k6 k7 k8:Int,(x0+65536 - y0)%65536=r0∧(x0+65536 - y0) / 65536=q0∧1 - q0=k1∧(x1+65536 - y1 - k1)%65536=r1∧(x1+65536 - y1 - k1) / 65536=q1∧1 - q1=k2∧(x2+65536 - y2 - k2)%65536=r2∧(x2+65536 - y2 - k2) / 65536=q2∧1 - q2=k3∧(x3+65536 - y3 - k3)%65536=r3∧(x3+65536 - y3 - k3) / 65536=q3∧1 - q3=k4∧(x4+65536 - y4 - k4)%65536=r4∧(x4+65536 - y4 - k4) / 65536=q4∧1 - q4=k5∧(x5+65536 - y5 - k5)%65536=r5∧(x5+65536 - y5 - k5) / 65536=q5∧1 - q5=k6∧(x6+65536 - y6 - k6)%65536=r6∧(x6+65536 - y6 - k6) / 65536=q6∧1 - q6=k7∧(x7+65536 - y7 - k7)%65536=r7∧(x7+65536 - y7 - k7) / 65536=q7∧1 - q7=k8∧0≤k1∧k1≤1∧0≤k2∧k2≤1∧0≤k3∧k3≤1∧0≤k4∧k4≤1∧0≤k5∧k5≤1∧0≤k6∧k6≤1∧0≤k7∧k7≤1∧0≤k8∧k8≤1∧0≤q0∧q0≤1∧0≤q1∧q1≤1∧0≤q2∧q2≤1∧0≤q3∧q3≤1∧0≤q4∧q4≤1∧0≤q5∧q5≤1∧0≤q6∧q6≤1∧0≤q7∧q7≤1∧D8 (x - y) r0 r1 r2 r3 r4 r5 r6 r7:=by
 unfold D8 Dg at *
 obtain ⟨⟨a0,b0⟩,⟨a1,b1⟩,⟨a2,b2⟩,⟨a3,b3⟩,⟨a4,b4⟩,⟨a5,b5⟩,⟨a6,b6⟩,⟨a7,b7⟩,ex⟩:=D
 obtain ⟨⟨f0,g0⟩,⟨f1,g1⟩,⟨f2,g2⟩,⟨f3,g3⟩,⟨f4,g4⟩,⟨f5,g5⟩,⟨f6,g6⟩,⟨f7,g7⟩,ey⟩:=E
 obtain ⟨r0,q0,u0,v0,p0,o0,w0,z0,l0⟩:=dstep (t:=x0+65536 - y0) (by omega) (by omega)
 obtain ⟨k1,n0⟩:∃ k,1 - q0=k:=⟨_,rfl⟩
 have c0:0≤k1∧k1≤1:=by omega
 obtain ⟨r1,q1,u1,v1,p1,o1,w1,z1,l1⟩:=dstep (t:=x1+65536 - y1 - k1) (by omega) (by omega)
 obtain ⟨k2,n1⟩:∃ k,1 - q1=k:=⟨_,rfl⟩
 have c1:0≤k2∧k2≤1:=by omega
 obtain ⟨r2,q2,u2,v2,p2,o2,w2,z2,l2⟩:=dstep (t:=x2+65536 - y2 - k2) (by omega) (by omega)
 obtain ⟨k3,n2⟩:∃ k,1 - q2=k:=⟨_,rfl⟩
 have c2:0≤k3∧k3≤1:=by omega
 obtain ⟨r3,q3,u3,v3,p3,o3,w3,z3,l3⟩:=dstep (t:=x3+65536 - y3 - k3) (by omega) (by omega)
 obtain ⟨k4,n3⟩:∃ k,1 - q3=k:=⟨_,rfl⟩
 have c3:0≤k4∧k4≤1:=by omega
 obtain ⟨r4,q4,u4,v4,p4,o4,w4,z4,l4⟩:=dstep (t:=x4+65536 - y4 - k4) (by omega) (by omega)
 obtain ⟨k5,n4⟩:∃ k,1 - q4=k:=⟨_,rfl⟩
 have c4:0≤k5∧k5≤1:=by omega
 obtain ⟨r5,q5,u5,v5,p5,o5,w5,z5,l5⟩:=dstep (t:=x5+65536 - y5 - k5) (by omega) (by omega)
 obtain ⟨k6,n5⟩:∃ k,1 - q5=k:=⟨_,rfl⟩
 have c5:0≤k6∧k6≤1:=by omega
 obtain ⟨r6,q6,u6,v6,p6,o6,w6,z6,l6⟩:=dstep (t:=x6+65536 - y6 - k6) (by omega) (by omega)
 obtain ⟨k7,n6⟩:∃ k,1 - q6=k:=⟨_,rfl⟩
 have c6:0≤k7∧k7≤1:=by omega
 obtain ⟨r7,q7,u7,v7,p7,o7,w7,z7,l7⟩:=dstep (t:=x7+65536 - y7 - k7) (by omega) (by omega)
 obtain ⟨k8,n7⟩:∃ k,1 - q7=k:=⟨_,rfl⟩
 have c7:0≤k8∧k8≤1:=by omega
 refine ⟨r0,r1,r2,r3,r4,r5,r6,r7,q0,q1,q2,q3,q4,q5,q6,q7,k1,k2,k3,k4,k5,k6,k7,k8,u0,v0,n0,u1,v1,n1,u2,v2,n2,u3,v3,n3,u4,v4,n4,u5,v5,n5,u6,v6,n6,u7,v7,n7,c0.1,c0.2,c1.1,c1.2,c2.1,c2.2,c3.1,c3.2,c4.1,c4.2,c5.1,c5.2,c6.1,c6.2,c7.1,c7.2,w0,z0,w1,z1,w2,z2,w3,z3,w4,z4,w5,z5,w6,z6,w7,z7,?_⟩
 omega

end Go.Proofs.YtoilomigceijaaaGreatDoor.Vm

namespace Go.Proofs.YtoilomigceijaaaGreatDoor.Vr
open Go.RowKit Vm Vc
attribute [local go_sem] alloc_drewN setCell_drewN

set_option maxHeartbeats 4000000

def Pluses (s t:Bool)(x y:Int)(w:World)(e:Ending)(w':World):Prop :=
 ∃ (v:Bool) (z r0 r1 r2 r3 r4 r5 r6 r7:Int) (ok:Bool),e= .returned (.tuple #[.agg #[.bool v,.int .u64 r0,.int .u64 r1,.int .u64 r2,.int .u64 r3,.int .u64 r4,.int .u64 r5,.int .u64 r6,.int .u64 r7],.bool ok])∧D8 z r0 r1 r2 r3 r4 r5 r6 r7∧
  ((ok=true∧sgn v z=sgn s x+sgn t y)∨(ok=false∧s=t∧340282366920938463463374607431768211456≤x+y))∧Below w.heap.size w w'

theorem plus_same (s:Bool)(x y x0 x1 x2 x3 x4 x5 x6 x7 y0 y1 y2 y3 y4 y5 y6 y7:Int)(w:World)(D:D8 x x0 x1 x2 x3 x4 x5 x6 x7)(E:D8 y y0 y1 y2 y3 y4 y5 y6 y7) :
  Calls Tryz.prog 79 #[.agg #[.bool s,.int .u64 x0,.int .u64 x1,.int .u64 x2,.int .u64 x3,.int .u64 x4,.int .u64 x5,.int .u64 x6,.int .u64 x7],.agg #[.bool s,.int .u64 y0,.int .u64 y1,.int .u64 y2,.int .u64 y3,.int .u64 y4,.int .u64 y5,.int .u64 y6,.int .u64 y7]] w (Pluses s s x y w):=by
 obtain ⟨r0,r1,r2,r3,r4,r5,r6,r7,m1,m2,m3,m4,m5,m6,m7,m8,u0,v0,u1,v1,u2,v2,u3,v3,u4,v4,u5,v5,u6,v6,u7,v7,w0,z0,w1,z1,w2,z2,w3,z3,w4,z4,w5,z5,w6,z6,w7,z7,DR⟩:=add_ex D E
 obtain ⟨⟨a0,b0⟩,⟨a1,b1⟩,⟨a2,b2⟩,⟨a3,b3⟩,⟨a4,b4⟩,⟨a5,b5⟩,⟨a6,b6⟩,⟨a7,b7⟩,_⟩:=D
 obtain ⟨⟨f0,g0⟩,⟨f1,g1⟩,⟨f2,g2⟩,⟨f3,g3⟩,⟨f4,g4⟩,⟨f5,g5⟩,⟨f6,g6⟩,⟨f7,g7⟩,_⟩:=E
 by_cases c:m8=0
 ·have d1:(m8==0)=true:=beq_iff_eq.2 c
  have fin:sgn s (x+y - m8*340282366920938463463374607431768211456)=sgn s x+sgn s y:=by subst c;unfold sgn;cases s<;>simp<;>omega
  replace DR:=Lib.hid DR
  replace fin:=Lib.hid fin
  clear c
  go_enter Tryz.func79,Tryz.ntmps79
  go_wp2
  refine wp_loop_rounds 9 ?_
  rw [rounds_succ]
  go_wp2
  go_quiet (fail)
  go_wp2
  rw [rounds_succ]
  go_wp2
  go_quiet (fail)
  go_wp2
  rw [rounds_succ]
  go_wp2
  go_quiet (fail)
  go_wp2
  rw [rounds_succ]
  go_wp2
  go_quiet (fail)
  go_wp2
  rw [rounds_succ]
  go_wp2
  go_quiet (fail)
  go_wp2
  rw [rounds_succ]
  go_wp2
  go_quiet (fail)
  go_wp2
  rw [rounds_succ]
  go_wp2
  go_quiet (fail)
  go_wp2
  rw [rounds_succ]
  go_wp2
  go_quiet (fail)
  go_wp2
  rw [rounds_succ]
  go_wp2
  replace DR:=DR.out
  refine bodyPost_ret (v:=.tuple #[.agg #[.bool s,.int .u64 r0,.int .u64 r1,.int .u64 r2,.int .u64 r3,.int .u64 r4,.int .u64 r5,.int .u64 r6,.int .u64 r7],.bool true]) (by simp [results,Tryz.results79,go_sem]) rfl ⟨s,_,r0,r1,r2,r3,r4,r5,r6,r7,true,rfl,DR,.inl ⟨rfl,fin.out⟩,?_⟩
  repeat (first|exact Below.refl _ _|refine below_drewN ?_ _|refine Below.setCell ?_ (by simp<;>omega) _|refine Below.alloc ?_ (by simp<;>omega) _)
 ·have d1:(m8==0)=false:=beq_eq_false_iff_ne.2 c
  have fin:340282366920938463463374607431768211456≤x+y:=by have:=d8_bd DR;omega
  replace DR:=Lib.hid DR
  replace fin:=Lib.hid fin
  clear c
  go_enter Tryz.func79,Tryz.ntmps79
  go_wp2
  refine wp_loop_rounds 9 ?_
  rw [rounds_succ]
  go_wp2
  go_quiet (fail)
  go_wp2
  rw [rounds_succ]
  go_wp2
  go_quiet (fail)
  go_wp2
  rw [rounds_succ]
  go_wp2
  go_quiet (fail)
  go_wp2
  rw [rounds_succ]
  go_wp2
  go_quiet (fail)
  go_wp2
  rw [rounds_succ]
  go_wp2
  go_quiet (fail)
  go_wp2
  rw [rounds_succ]
  go_wp2
  go_quiet (fail)
  go_wp2
  rw [rounds_succ]
  go_wp2
  go_quiet (fail)
  go_wp2
  rw [rounds_succ]
  go_wp2
  go_quiet (fail)
  go_wp2
  rw [rounds_succ]
  go_wp2
  replace DR:=DR.out
  refine bodyPost_ret (v:=.tuple #[.agg #[.bool s,.int .u64 r0,.int .u64 r1,.int .u64 r2,.int .u64 r3,.int .u64 r4,.int .u64 r5,.int .u64 r6,.int .u64 r7],.bool false]) (by simp [results,Tryz.results79,go_sem]) rfl ⟨s,_,r0,r1,r2,r3,r4,r5,r6,r7,false,rfl,DR,.inr ⟨rfl,rfl,fin.out⟩,?_⟩
  repeat (first|exact Below.refl _ _|refine below_drewN ?_ _|refine Below.setCell ?_ (by simp<;>omega) _|refine Below.alloc ?_ (by simp<;>omega) _)

end Go.Proofs.YtoilomigceijaaaGreatDoor.Vr

namespace Go.Proofs.YtoilomigceijaaaGreatDoor.Vr
open Go.RowKit Vm Vc
attribute [local go_sem] alloc_drewN setCell_drewN

set_option maxHeartbeats 4000000

theorem plus_ge (s:Bool)(x y x0 x1 x2 x3 x4 x5 x6 x7 y0 y1 y2 y3 y4 y5 y6 y7:Int)(w:World)(D:D8 x x0 x1 x2 x3 x4 x5 x6 x7)(E:D8 y y0 y1 y2 y3 y4 y5 y6 y7)(h:y≤x) :
  Calls Tryz.prog 79 #[.agg #[.bool s,.int .u64 x0,.int .u64 x1,.int .u64 x2,.int .u64 x3,.int .u64 x4,.int .u64 x5,.int .u64 x6,.int .u64 x7],.agg #[.bool (!s),.int .u64 y0,.int .u64 y1,.int .u64 y2,.int .u64 y3,.int .u64 y4,.int .u64 y5,.int .u64 y6,.int .u64 y7]] w (Pluses s (!s) x y w):=by
 obtain ⟨r0,r1,r2,r3,r4,r5,r6,r7,q0,q1,q2,q3,q4,q5,q6,q7,k1,k2,k3,k4,k5,k6,k7,k8,u0,v0,n0,u1,v1,n1,u2,v2,n2,u3,v3,n3,u4,v4,n4,u5,v5,n5,u6,v6,n6,u7,v7,n7,kl1,ku1,kl2,ku2,kl3,ku3,kl4,ku4,kl5,ku5,kl6,ku6,kl7,ku7,kl8,ku8,w0,z0,w1,z1,w2,z2,w3,z3,w4,z4,w5,z5,w6,z6,w7,z7,DR⟩:=sub_ex D E h
 obtain ⟨v,ev⟩:∃ v,cv x y=v:=⟨_,rfl⟩
 have d1:decide (v<0)=false:=decide_eq_false (by rw [← ev];unfold cv;repeat' split
                                                 all_goals omega)
 have cc:=fun w=>cmp_at x y v x0 x1 x2 x3 x4 x5 x6 x7 y0 y1 y2 y3 y4 y5 y6 y7 w D E (Lib.hid ev)
 clear ev
 obtain ⟨⟨a0,b0⟩,⟨a1,b1⟩,⟨a2,b2⟩,⟨a3,b3⟩,⟨a4,b4⟩,⟨a5,b5⟩,⟨a6,b6⟩,⟨a7,b7⟩,_⟩:=D
 obtain ⟨⟨f0,g0⟩,⟨f1,g1⟩,⟨f2,g2⟩,⟨f3,g3⟩,⟨f4,g4⟩,⟨f5,g5⟩,⟨f6,g6⟩,⟨f7,g7⟩,_⟩:=E
 have fin:sgn s (x - y)=sgn s x+sgn (!s) y:=by unfold sgn;cases s<;>simp<;>omega
 replace DR:=Lib.hid DR
 replace fin:=Lib.hid fin
 clear h
 cases s
 all_goals
  go_enter Tryz.func79,Tryz.ntmps79
  go_wp2_with fail
  refine (cc _).mono ?_
  rintro e w' ⟨rfl,nc,rfl⟩
  go_wp2
  refine wp_loop_rounds 9 ?_
  rw [rounds_succ]
  go_wp2
  go_quiet (fail)
  go_wp2
  rw [rounds_succ]
  go_wp2
  go_quiet (fail)
  go_wp2
  rw [rounds_succ]
  go_wp2
  go_quiet (fail)
  go_wp2
  rw [rounds_succ]
  go_wp2
  go_quiet (fail)
  go_wp2
  rw [rounds_succ]
  go_wp2
  go_quiet (fail)
  go_wp2
  rw [rounds_succ]
  go_wp2
  go_quiet (fail)
  go_wp2
  rw [rounds_succ]
  go_wp2
  go_quiet (fail)
  go_wp2
  rw [rounds_succ]
  go_wp2
  go_quiet (fail)
  go_wp2
  rw [rounds_succ]
  go_wp2
  replace DR:=DR.out
  first
   | refine bodyPost_ret (v:=.tuple #[.agg #[.bool false,.int .u64 r0,.int .u64 r1,.int .u64 r2,.int .u64 r3,.int .u64 r4,.int .u64 r5,.int .u64 r6,.int .u64 r7],.bool true]) (by simp [results,Tryz.results79,go_sem]) rfl ⟨false,_,r0,r1,r2,r3,r4,r5,r6,r7,true,rfl,DR,.inl ⟨rfl,fin.out⟩,?_⟩
   | refine bodyPost_ret (v:=.tuple #[.agg #[.bool true,.int .u64 r0,.int .u64 r1,.int .u64 r2,.int .u64 r3,.int .u64 r4,.int .u64 r5,.int .u64 r6,.int .u64 r7],.bool true]) (by simp [results,Tryz.results79,go_sem]) rfl ⟨true,_,r0,r1,r2,r3,r4,r5,r6,r7,true,rfl,DR,.inl ⟨rfl,fin.out⟩,?_⟩
  repeat (first|exact Below.refl _ _|refine below_drewN ?_ _|refine Below.setCell ?_ (by simp<;>omega) _|refine Below.alloc ?_ (by simp<;>omega) _)

theorem plus_lt (s:Bool)(x y x0 x1 x2 x3 x4 x5 x6 x7 y0 y1 y2 y3 y4 y5 y6 y7:Int)(w:World)(D:D8 x x0 x1 x2 x3 x4 x5 x6 x7)(E:D8 y y0 y1 y2 y3 y4 y5 y6 y7)(h:x<y) :
  Calls Tryz.prog 79 #[.agg #[.bool s,.int .u64 x0,.int .u64 x1,.int .u64 x2,.int .u64 x3,.int .u64 x4,.int .u64 x5,.int .u64 x6,.int .u64 x7],.agg #[.bool (!s),.int .u64 y0,.int .u64 y1,.int .u64 y2,.int .u64 y3,.int .u64 y4,.int .u64 y5,.int .u64 y6,.int .u64 y7]] w (Pluses s (!s) x y w):=by
 have cc:=fun w=>cmp_at x y (-1) x0 x1 x2 x3 x4 x5 x6 x7 y0 y1 y2 y3 y4 y5 y6 y7 w D E (Lib.hid (by unfold cv;rw [if_pos h]))
 obtain ⟨r0,r1,r2,r3,r4,r5,r6,r7,q0,q1,q2,q3,q4,q5,q6,q7,k1,k2,k3,k4,k5,k6,k7,k8,u0,v0,n0,u1,v1,n1,u2,v2,n2,u3,v3,n3,u4,v4,n4,u5,v5,n5,u6,v6,n6,u7,v7,n7,kl1,ku1,kl2,ku2,kl3,ku3,kl4,ku4,kl5,ku5,kl6,ku6,kl7,ku7,kl8,ku8,w0,z0,w1,z1,w2,z2,w3,z3,w4,z4,w5,z5,w6,z6,w7,z7,DR⟩:=sub_ex E D (Int.le_of_lt h)
 obtain ⟨⟨a0,b0⟩,⟨a1,b1⟩,⟨a2,b2⟩,⟨a3,b3⟩,⟨a4,b4⟩,⟨a5,b5⟩,⟨a6,b6⟩,⟨a7,b7⟩,_⟩:=D
 obtain ⟨⟨f0,g0⟩,⟨f1,g1⟩,⟨f2,g2⟩,⟨f3,g3⟩,⟨f4,g4⟩,⟨f5,g5⟩,⟨f6,g6⟩,⟨f7,g7⟩,_⟩:=E
 have fin:sgn (!s) (y - x)=sgn s x+sgn (!s) y:=by unfold sgn;cases s<;>simp<;>omega
 replace DR:=Lib.hid DR
 replace fin:=Lib.hid fin
 clear h
 cases s
 all_goals
  go_enter Tryz.func79,Tryz.ntmps79
  go_wp2_with fail
  refine (cc _).mono ?_
  rintro e w' ⟨rfl,nc,rfl⟩
  go_wp2
  refine wp_loop_rounds 9 ?_
  rw [rounds_succ]
  go_wp2
  go_quiet (fail)
  go_wp2
  rw [rounds_succ]
  go_wp2
  go_quiet (fail)
  go_wp2
  rw [rounds_succ]
  go_wp2
  go_quiet (fail)
  go_wp2
  rw [rounds_succ]
  go_wp2
  go_quiet (fail)
  go_wp2
  rw [rounds_succ]
  go_wp2
  go_quiet (fail)
  go_wp2
  rw [rounds_succ]
  go_wp2
  go_quiet (fail)
  go_wp2
  rw [rounds_succ]
  go_wp2
  go_quiet (fail)
  go_wp2
  rw [rounds_succ]
  go_wp2
  go_quiet (fail)
  go_wp2
  rw [rounds_succ]
  go_wp2
  replace DR:=DR.out
  first
   | refine bodyPost_ret (v:=.tuple #[.agg #[.bool false,.int .u64 r0,.int .u64 r1,.int .u64 r2,.int .u64 r3,.int .u64 r4,.int .u64 r5,.int .u64 r6,.int .u64 r7],.bool true]) (by simp [results,Tryz.results79,go_sem]) rfl ⟨false,_,r0,r1,r2,r3,r4,r5,r6,r7,true,rfl,DR,.inl ⟨rfl,fin.out⟩,?_⟩
   | refine bodyPost_ret (v:=.tuple #[.agg #[.bool true,.int .u64 r0,.int .u64 r1,.int .u64 r2,.int .u64 r3,.int .u64 r4,.int .u64 r5,.int .u64 r6,.int .u64 r7],.bool true]) (by simp [results,Tryz.results79,go_sem]) rfl ⟨true,_,r0,r1,r2,r3,r4,r5,r6,r7,true,rfl,DR,.inl ⟨rfl,fin.out⟩,?_⟩
  repeat (first|exact Below.refl _ _|refine below_drewN ?_ _|refine Below.setCell ?_ (by simp<;>omega) _|refine Below.alloc ?_ (by simp<;>omega) _)

theorem plus_tells (s t:Bool)(x y x0 x1 x2 x3 x4 x5 x6 x7 y0 y1 y2 y3 y4 y5 y6 y7:Int)(w:World)(D:D8 x x0 x1 x2 x3 x4 x5 x6 x7)(E:D8 y y0 y1 y2 y3 y4 y5 y6 y7) :
  Calls Tryz.prog 79 #[.agg #[.bool s,.int .u64 x0,.int .u64 x1,.int .u64 x2,.int .u64 x3,.int .u64 x4,.int .u64 x5,.int .u64 x6,.int .u64 x7],.agg #[.bool t,.int .u64 y0,.int .u64 y1,.int .u64 y2,.int .u64 y3,.int .u64 y4,.int .u64 y5,.int .u64 y6,.int .u64 y7]] w (Pluses s t x y w):=by
 by_cases h:t=s
 ·subst h
  exact plus_same t x y x0 x1 x2 x3 x4 x5 x6 x7 y0 y1 y2 y3 y4 y5 y6 y7 w D E
 ·have ht:t=!s:=by cases s<;>cases t<;>simp_all
  subst ht
  by_cases c:y≤x
  ·exact plus_ge s x y x0 x1 x2 x3 x4 x5 x6 x7 y0 y1 y2 y3 y4 y5 y6 y7 w D E c
  ·exact plus_lt s x y x0 x1 x2 x3 x4 x5 x6 x7 y0 y1 y2 y3 y4 y5 y6 y7 w D E (by omega)

end Go.Proofs.YtoilomigceijaaaGreatDoor.Vr

namespace Go.Proofs.YtoilomigceijaaaGreatDoor.Vr
open Go.RowKit Vm Vc Vl
attribute [local go_sem] alloc_drewN setCell_drewN

set_option maxHeartbeats 1000000

theorem rsize_any (a:Int)(w:World)(f:Fit1 a) :
  Calls Tryz.prog 89 #[.int .i64 a] w fun e w'=>e= .returned (.int .u64 (a.natAbs:Int))∧w=w':=by
 obtain ⟨h1,h2⟩:=f
 by_cases c:a<0
 ·have e1:(a.natAbs:Int)= -(a+1)+1:=by omega
  rw [e1]
  clear e1
  go_enter Tryz.func89,Tryz.ntmps89
  go_wp2
  go_ret
  exact ⟨rfl,rfl⟩
 ·have e1:(a.natAbs:Int)=a:=by omega
  rw [e1]
  clear e1
  go_enter Tryz.func89,Tryz.ntmps89
  go_wp2
  go_ret
  exact ⟨rfl,rfl⟩

theorem num_abs (h l:Int)(b:Bd h l):0≤((num h l).natAbs:Int)∧((num h l).natAbs:Int)<340282366920938463463374607431768211456∧sgn (decide (h<0)) (num h l).natAbs=num h l:=by
 unfold Bd at b
 unfold num sgn
 by_cases c:h<0
 ·simp [c];omega
 ·simp [c];omega

theorem rOf_to (a h l:Int)(w:World)(f:Fit1 a)(hn:num h l=a)(bd:Bd h l) :
  Calls Tryz.prog 83 #[.int .i64 a] w fun e w'=>e= .returned (.agg #[.int .i64 h,.int .u64 l])∧Below w.heap.size w w':=by
 obtain ⟨d0,d1,d2,d3,d4,d5,d6,d7,D⟩:=d8_ex (x:=num 0 (a.natAbs:Int)) (by unfold num;omega) (by unfold num;unfold Fit1 at f;omega)
 have D2:D8 (a.natAbs:Int) d0 d1 d2 d3 d4 d5 d6 d7:=by
  have e:num 0 (a.natAbs:Int)=a.natAbs:=by unfold num;omega
  rw [e] at D
  exact D
 have cs:=fun w=>rsize_any a w f
 have cp:=fun s w=>put_at s 0 (a.natAbs:Int) d0 d1 d2 d3 d4 d5 d6 d7 w (by omega) (by omega) (by omega) (by unfold Fit1 at f;omega) D
 have cb:=fun s w=>back_tells s (a.natAbs:Int) d0 d1 d2 d3 d4 d5 d6 d7 w D2
 obtain ⟨m,hm⟩:∃ m,(a.natAbs:Int)=m:=⟨_,rfl⟩
 rw [hm] at cs cp cb
 have key:∀ s,s=decide (a<0)→∀ h' l' (is:Bool),((is=true∧Res (sgn s m) h' l' 0)∨(is=false∧¬ Fits (sgn s m)))→h=h'∧l=l':=by
  intro s hs h' l' is r
  have e:sgn s m=a:=by
   unfold sgn;rw [hs,← hm]
   by_cases c:a<0
   ·simp [c];omega
   ·simp [c];omega
  rw [e] at r
  rcases r with ⟨_,r⟩|⟨_,r⟩
  ·have:=res_unique (Or.inl ⟨rfl,hn,bd⟩) r
   exact ⟨this.1,this.2.1⟩
  ·exact absurd (by unfold Fits;unfold Fit1 at f;omega) r
 clear D D2 hm hn bd
 by_cases c:a<0
 all_goals
  go_enter Tryz.func83,Tryz.ntmps83
  go_wp2_with fail
  refine (cs _).mono ?_
  rintro e w' ⟨rfl,rfl⟩
  go_wp2_with fail
  refine (cp _ _).mono ?_
  rintro e w' ⟨rfl,rfl⟩
  go_wp2_with fail
  refine (cb _ _).mono ?_
  rintro e w1 ⟨h',l',is,rfl,r,hb1⟩
  obtain ⟨rfl,rfl⟩:=key _ (by simp [c]) h' l' is r
  obtain ⟨hc,hf⟩:=bcell hb1
  obtain ⟨z1,k0,k1⟩:=(((Pair.new w (.int .i64 0) (.int .u64 0) 84).alloc _).alloc _).kept hb1
  have B1:Below w.heap.size w w1:=((((Below.refl _ _).alloc (Nat.le_refl _) _).alloc (by simp) _).alloc (by simp<;>omega) _).trans (hb1.mono (by simp<;>omega))
  clear hb1 r
  go_wp2
  refine bodyPost_ret (v:=.agg #[.int .i64 h,.int .u64 l]) (by simp [results,Tryz.results83,go_sem,k0,k1,z1]) rfl ⟨rfl,?_⟩
  repeat (first|exact B1|refine Below.setCell ?_ (by simp<;>omega) _|refine Below.alloc ?_ (by simp<;>omega) _)

end Go.Proofs.YtoilomigceijaaaGreatDoor.Vr

namespace Go.Proofs.YtoilomigceijaaaGreatDoor.Vr
open Go.RowKit Vm Vc Vl
attribute [local go_sem] alloc_drewN setCell_drewN

set_option maxHeartbeats 1000000

end Go.Proofs.YtoilomigceijaaaGreatDoor.Vr

namespace Go.Proofs.YtoilomigceijaaaGreatDoor.Vr
open Go.RowKit Vm Vc Vl
attribute [local go_sem ↓] Go.wp_at_zero Go.wp_at_succ

set_option maxHeartbeats 1000000

theorem of_to (h l d0 d1 d2 d3 d4 d5 d6 d7:Int)(w:World)(B:Bd h l)(D:D8 (num h l).natAbs d0 d1 d2 d3 d4 d5 d6 d7) :
  Calls Tryz.prog 78 #[.agg #[.int .i64 h,.int .u64 l]] w fun e w'=>e= .returned (.agg #[.bool (decide (h<0)),.int .u64 d0,.int .u64 d1,.int .u64 d2,.int .u64 d3,.int .u64 d4,.int .u64 d5,.int .u64 d6,.int .u64 d7])∧Below w.heap.size w w' :=
 (of_at h l d0 d1 d2 d3 d4 d5 d6 d7 w B D).mono fun e w' ⟨he,hw⟩=>⟨he,by rw [hw];exact (((((Below.refl _ _).alloc (Nat.le_refl _) _).alloc (by simp) _).alloc (by simp<;>omega) _).alloc (by simp<;>omega) _)⟩

def Nine (W:World)(g:Nat)(v:Bool)(r0 r1 r2 r3 r4 r5 r6 r7:Int):Prop:=W.cell? ⟨g,0,none⟩=some (.bool v)∧W.cell? ⟨g,1,none⟩=some (.int .u64 r0)∧W.cell? ⟨g,2,none⟩=some (.int .u64 r1)∧W.cell? ⟨g,3,none⟩=some (.int .u64 r2)∧W.cell? ⟨g,4,none⟩=some (.int .u64 r3)∧W.cell? ⟨g,5,none⟩=some (.int .u64 r4)∧W.cell? ⟨g,6,none⟩=some (.int .u64 r5)∧W.cell? ⟨g,7,none⟩=some (.int .u64 r6)∧W.cell? ⟨g,8,none⟩=some (.int .u64 r7)

structure Blk9 (W:World) (g:Nat):Prop where
 lt:g<W.heap.size
 c:Nine W g false 0 0 0 0 0 0 0 0
 f:∀ i,W.frozen? ⟨g,i,none⟩=false
theorem Blk9.kept {W w1:World}{g:Nat}(p:Blk9 W g)(hb:Below W.heap.size W w1):Blk9 w1 g:=by
 refine ⟨Nat.lt_of_lt_of_le p.lt hb.size,?_,fun i=>(hb.frozen (p:=⟨g,i,none⟩) p.lt).trans (p.f i)⟩
 obtain ⟨k0,k1,k2,k3,k4,k5,k6,k7,k8⟩:=p.c
 have q:=fun i=>hb.cell (p:=⟨g,i,none⟩) p.lt
 exact ⟨(q 0).trans k0,(q 1).trans k1,(q 2).trans k2,(q 3).trans k3,(q 4).trans k4,(q 5).trans k5,(q 6).trans k6,(q 7).trans k7,(q 8).trans k8⟩
theorem Blk9.new (W:World)(t:TypeId):Blk9 (W.alloc (.cells #[.bool false,.int .u64 0,.int .u64 0,.int .u64 0,.int .u64 0,.int .u64 0,.int .u64 0,.int .u64 0,.int .u64 0] t)) W.heap.size:=by
 refine ⟨by simp,?_,fun i=>by simp [go_sem]⟩
 unfold Nine
 refine ⟨?_,?_,?_,?_,?_,?_,?_,?_,?_⟩<;>simp [go_sem]
theorem Blk9.newD (W:World)(t:TypeId):Blk9 ((W.alloc (.cells #[.bool false,.int .u64 0,.int .u64 0,.int .u64 0,.int .u64 0,.int .u64 0,.int .u64 0,.int .u64 0,.int .u64 0] t)).drew) W.heap.size:=⟨(Blk9.new W t).lt,(Blk9.new W t).c,(Blk9.new W t).f⟩

def Has (W:World)(g n:Nat)(f:Nat→Value):Prop:=∀ i,i<n→W.cell? ⟨g,i,none⟩=some (f i)
theorem has_set {W:World}{g n k:Nat}{f:Nat→Value}{v:Value}(h:Has W g n f)(hk:k<n):Has (W.setCell ⟨g,k,none⟩ v) g n (fun i=>if i=k then v else f i):=by
 intro i hi
 show _=some (if i=k then v else f i)
 by_cases e:i=k
 ·subst e
  rw [if_pos rfl]
  exact World.cell?_setCell_same W _ v (h i hi)
 ·rw [if_neg e,World.cell?_setCell_other W _ _ v (by intro e';injection e' with _ e';exact e e'.symm)]
  exact h i hi
theorem nine_set {W:World}{g:Nat}(v:Bool)(r0 r1 r2 r3 r4 r5 r6 r7:Int)(K:Blk9 W g):Nine (((((((((W.setCell ⟨g,0,none⟩ (.bool v)).setCell ⟨g,1,none⟩ (.int .u64 r0)).setCell ⟨g,2,none⟩ (.int .u64 r1)).setCell ⟨g,3,none⟩ (.int .u64 r2)).setCell ⟨g,4,none⟩ (.int .u64 r3)).setCell ⟨g,5,none⟩ (.int .u64 r4)).setCell ⟨g,6,none⟩ (.int .u64 r5)).setCell ⟨g,7,none⟩ (.int .u64 r6)).setCell ⟨g,8,none⟩ (.int .u64 r7)) g v r0 r1 r2 r3 r4 r5 r6 r7:=by
 obtain ⟨k0,k1,k2,k3,k4,k5,k6,k7,k8⟩:=K.c
 have h0:Has W g 9 (fun i=>if i=0 then .bool false else .int .u64 0):=by
  intro i hi
  match i,hi with
  | 0,_=>exact k0
  | 1,_=>exact k1
  | 2,_=>exact k2
  | 3,_=>exact k3
  | 4,_=>exact k4
  | 5,_=>exact k5
  | 6,_=>exact k6
  | 7,_=>exact k7
  | 8,_=>exact k8
 have h:=has_set (has_set (has_set (has_set (has_set (has_set (has_set (has_set (has_set h0 (k:=0) (v:=.bool v) (by omega)) (k:=1) (v:=.int .u64 r0) (by omega)) (k:=2) (v:=.int .u64 r1) (by omega)) (k:=3) (v:=.int .u64 r2) (by omega)) (k:=4) (v:=.int .u64 r3) (by omega)) (k:=5) (v:=.int .u64 r4) (by omega)) (k:=6) (v:=.int .u64 r5) (by omega)) (k:=7) (v:=.int .u64 r6) (by omega)) (k:=8) (v:=.int .u64 r7) (by omega)
 unfold Nine
 refine ⟨?_,?_,?_,?_,?_,?_,?_,?_,?_⟩
 ·exact (h 0 (by omega)).trans (by simp)
 ·exact (h 1 (by omega)).trans (by simp)
 ·exact (h 2 (by omega)).trans (by simp)
 ·exact (h 3 (by omega)).trans (by simp)
 ·exact (h 4 (by omega)).trans (by simp)
 ·exact (h 5 (by omega)).trans (by simp)
 ·exact (h 6 (by omega)).trans (by simp)
 ·exact (h 7 (by omega)).trans (by simp)
 ·exact (h 8 (by omega)).trans (by simp)

theorem nine_new (W:World)(v:Bool)(r0 r1 r2 r3 r4 r5 r6 r7:Int)(t:TypeId):Nine (W.alloc (.cells #[.bool v,.int .u64 r0,.int .u64 r1,.int .u64 r2,.int .u64 r3,.int .u64 r4,.int .u64 r5,.int .u64 r6,.int .u64 r7] t)) W.heap.size v r0 r1 r2 r3 r4 r5 r6 r7:=by
 unfold Nine
 refine ⟨?_,?_,?_,?_,?_,?_,?_,?_,?_⟩<;>(rw [World.cell?_alloc_at _ _ _ _ rfl];rfl)

theorem below_nine {B:Nat}{W0 W:World}{g:Nat}(v:Bool)(r0 r1 r2 r3 r4 r5 r6 r7:Int)(h:Below B W0 W)(hg:B≤g):Below B W0 (((((((((W.setCell ⟨g,0,none⟩ (.bool v)).setCell ⟨g,1,none⟩ (.int .u64 r0)).setCell ⟨g,2,none⟩ (.int .u64 r1)).setCell ⟨g,3,none⟩ (.int .u64 r2)).setCell ⟨g,4,none⟩ (.int .u64 r3)).setCell ⟨g,5,none⟩ (.int .u64 r4)).setCell ⟨g,6,none⟩ (.int .u64 r5)).setCell ⟨g,7,none⟩ (.int .u64 r6)).setCell ⟨g,8,none⟩ (.int .u64 r7)) :=
 ((((((((h.setCell hg _).setCell hg _).setCell hg _).setCell hg _).setCell hg _).setCell hg _).setCell hg _).setCell hg _).setCell hg _

abbrev raW (h1 l1 h2 l2:Int)(w:World):World :=
 ((w.alloc (.cells #[.int .i64 h1,.int .u64 l1] 84)).alloc (.cells #[.int .i64 h2,.int .u64 l2] 84)).alloc (.cells #[.int .i64 0,.int .u64 0] 84)

theorem ra_held {h1 l1 h2 l2:Int}{w w':World}(h:Below (w.heap.size+3) (raW h1 l1 h2 l2 w) w'):Below (w.heap.size+3) (raW h1 l1 h2 l2 w) w'∧
  w'.cell? ⟨w.heap.size,0,none⟩=some (.int .i64 h1)∧w'.cell? ⟨w.heap.size,1,none⟩=some (.int .u64 l1)∧w'.cell? ⟨w.heap.size+1,0,none⟩=some (.int .i64 h2)∧w'.cell? ⟨w.heap.size+1,1,none⟩=some (.int .u64 l2):=by
 refine ⟨h,?_,?_,?_,?_⟩
 ·rw [h.cell (p:=⟨w.heap.size,0,none⟩) (by simp)];simp [raW,go_sem]
 ·rw [h.cell (p:=⟨w.heap.size,1,none⟩) (by simp)];simp [raW,go_sem]
 ·rw [h.cell (p:=⟨w.heap.size+1,0,none⟩) (by simp)];simp [raW,go_sem]
 ·rw [h.cell (p:=⟨w.heap.size+1,1,none⟩) (by simp)];simp [raW,go_sem]

theorem ra_res {h1 l1 h2 l2:Int}{w w':World}(h:Below (w.heap.size+3) (raW h1 l1 h2 l2 w) w') :
  w'.cell? ⟨w.heap.size+1+1,0,none⟩=some (.int .i64 0)∧w'.cell? ⟨w.heap.size+1+1,1,none⟩=some (.int .u64 0)∧
  w'.frozen? ⟨w.heap.size+1+1,0,none⟩=false∧w'.frozen? ⟨w.heap.size+1+1,1,none⟩=false∧w.heap.size+1+1<w'.heap.size∧Below w.heap.size w w':=by
 refine ⟨?_,?_,?_,?_,?_,?_⟩
 ·rw [h.cell (p:=⟨w.heap.size+1+1,0,none⟩) (by simp)];simp [raW,go_sem]
 ·rw [h.cell (p:=⟨w.heap.size+1+1,1,none⟩) (by simp)];simp [raW,go_sem]
 ·rw [h.frozen (p:=⟨w.heap.size+1+1,0,none⟩) (by simp)];simp [raW,go_sem]
 ·rw [h.frozen (p:=⟨w.heap.size+1+1,1,none⟩) (by simp)];simp [raW,go_sem]
 ·have:=h.size;simp [raW] at this;omega
 ·refine Below.trans ?_ (h.mono (by omega))
  exact (((Below.refl _ _).alloc (Nat.le_refl _) _).alloc (by simp) _).alloc (by simp<;>omega) _

theorem below_alloc {B:Nat}{W0 W:World}(hB:B≤W0.heap.size)(h:Below B W0 W)(o:Obj):Below B W0 (W.alloc o):=h.alloc (Nat.le_trans hB h.size) o

def AddMid (sum:Int)(w:World)(s6 s7:Value)(wx:World):Prop :=
 ∃ (g:Nat) (v:Bool) (z r0 r1 r2 r3 r4 r5 r6 r7:Int) (ok:Bool),s6= .pointer (some ⟨g,0,none⟩)∧s7= .bool ok∧D8 z r0 r1 r2 r3 r4 r5 r6 r7∧((ok=true∧sgn v z=sum)∨(ok=false∧¬ Fits sum))∧Nine wx g v r0 r1 r2 r3 r4 r5 r6 r7∧
  wx.cell? ⟨w.heap.size+1+1,0,none⟩=some (.int .i64 0)∧wx.cell? ⟨w.heap.size+1+1,1,none⟩=some (.int .u64 0)∧
  wx.frozen? ⟨w.heap.size+1+1,0,none⟩=false∧wx.frozen? ⟨w.heap.size+1+1,1,none⟩=false∧w.heap.size+1+1<wx.heap.size∧Below w.heap.size w wx

theorem mid_set {sum h1 l1 h2 l2:Int}{w W:World}{g:Nat}{v:Bool}{z r0 r1 r2 r3 r4 r5 r6 r7:Int}{ok:Bool}(K:Blk9 W g)(hB:Below (w.heap.size+3) (raW h1 l1 h2 l2 w) W)(hg:w.heap.size+3≤g)
  (dz:D8 z r0 r1 r2 r3 r4 r5 r6 r7) (fin:(ok=true∧sgn v z=sum)∨(ok=false∧¬ Fits sum)):AddMid sum w (.pointer (some ⟨g,0,none⟩)) (.bool ok) (((((((((W.setCell ⟨g,0,none⟩ (.bool v)).setCell ⟨g,1,none⟩ (.int .u64 r0)).setCell ⟨g,2,none⟩ (.int .u64 r1)).setCell ⟨g,3,none⟩ (.int .u64 r2)).setCell ⟨g,4,none⟩ (.int .u64 r3)).setCell ⟨g,5,none⟩ (.int .u64 r4)).setCell ⟨g,6,none⟩ (.int .u64 r5)).setCell ⟨g,7,none⟩ (.int .u64 r6)).setCell ⟨g,8,none⟩ (.int .u64 r7)) :=
 ⟨g,v,z,r0,r1,r2,r3,r4,r5,r6,r7,ok,rfl,rfl,dz,fin,nine_set v r0 r1 r2 r3 r4 r5 r6 r7 K,ra_res (below_nine v r0 r1 r2 r3 r4 r5 r6 r7 hB hg)⟩
theorem mid_new {sum h1 l1 h2 l2:Int}{w W:World}{v:Bool}{z r0 r1 r2 r3 r4 r5 r6 r7:Int}{ok:Bool}{t:TypeId}(hB:Below (w.heap.size+3) (raW h1 l1 h2 l2 w) W)
  (dz:D8 z r0 r1 r2 r3 r4 r5 r6 r7) (fin:(ok=true∧sgn v z=sum)∨(ok=false∧¬ Fits sum)):AddMid sum w (.pointer (some ⟨W.heap.size,0,none⟩)) (.bool ok) (W.alloc (.cells #[.bool v,.int .u64 r0,.int .u64 r1,.int .u64 r2,.int .u64 r3,.int .u64 r4,.int .u64 r5,.int .u64 r6,.int .u64 r7] t)) :=
 ⟨_,v,z,r0,r1,r2,r3,r4,r5,r6,r7,ok,rfl,rfl,dz,fin,nine_new _ v r0 r1 r2 r3 r4 r5 r6 r7 _,ra_res (below_alloc (by simp [raW]) hB _)⟩

set_option maxHeartbeats 4000000 in
theorem rAdd_tells (h1 l1 h2 l2:Int)(w:World)(b1:Bd h1 l1)(b2:Bd h2 l2) :
  Calls Tryz.prog 82 #[.agg #[.int .i64 h1,.int .u64 l1],.agg #[.int .i64 h2,.int .u64 l2]] w (Tells (num h1 l1+num h2 l2) w):=by
 obtain ⟨n0,n1,n2⟩:=num_abs h1 l1 b1
 obtain ⟨m0,m1,m2⟩:=num_abs h2 l2 b2
 obtain ⟨x0,x1,x2,x3,x4,x5,x6,x7,D⟩:=d8_ex n0 n1
 obtain ⟨y0,y1,y2,y3,y4,y5,y6,y7,E⟩:=d8_ex m0 m1
 have co1:=fun w=>of_to h1 l1 x0 x1 x2 x3 x4 x5 x6 x7 w b1 D
 have co2:=fun w=>of_to h2 l2 y0 y1 y2 y3 y4 y5 y6 y7 w b2 E
 have cp:=fun w=>plus_tells (decide (h1<0)) (decide (h2<0)) ((num h1 l1).natAbs:Int) ((num h2 l2).natAbs:Int) x0 x1 x2 x3 x4 x5 x6 x7 y0 y1 y2 y3 y4 y5 y6 y7 w D E
 clear D E n1 m1 b1 b2
 have key:∀ (v:Bool) (z:Int) (ok:Bool),((ok=true∧sgn v z=sgn (decide (h1<0)) ((num h1 l1).natAbs:Int)+sgn (decide (h2<0)) ((num h2 l2).natAbs:Int))∨(ok=false∧decide (h1<0)=decide (h2<0)∧340282366920938463463374607431768211456≤((num h1 l1).natAbs:Int)+((num h2 l2).natAbs:Int)))→
   ((ok=true∧sgn v z=num h1 l1+num h2 l2)∨(ok=false∧¬ Fits (num h1 l1+num h2 l2))):=by
  intro v z ok r
  rcases r with ⟨h,h'⟩|⟨h,h',h''⟩
  ·exact .inl ⟨h,by rw [h',n2,m2]⟩
  ·refine .inr ⟨h,?_⟩
   rw [← n2,← m2,← h']
   unfold Fits sgn
   split<;>omega
 clear n2 m2 n0 m0
 generalize ((num h1 l1).natAbs:Int)=x at *
 generalize ((num h2 l2).natAbs:Int)=y at *
 generalize num h1 l1+num h2 l2=sum at *
 replace key:=Lib.hid key
 go_enter Tryz.func82,Tryz.ntmps82
 go_upto_region 1 with fail
 go_cut [6,7] (fun s6 s7 wx=>AddMid sum w s6 s7 wx)
 case first =>
  go_region_held3 (fun w'=>Below (w.heap.size+3) (raW h1 l1 h2 l2 w) w'∧w'.cell? ⟨w.heap.size,0,none⟩=some (.int .i64 h1)∧w'.cell? ⟨w.heap.size,1,none⟩=some (.int .u64 l1)∧w'.cell? ⟨w.heap.size+1,0,none⟩=some (.int .i64 h2)∧w'.cell? ⟨w.heap.size+1,1,none⟩=some (.int .u64 l2))
   ((refine ra_held ?_;first|(with_reducible assumption)|(with_reducible exact (Below.refl _ _).drew)|((with_reducible refine Below.drew (below_alloc ?_ ?_ _));(simp [raW]);(exact Below.refl _ _))|((with_reducible refine below_alloc ?_ ?_ _);(simp [raW]);assumption)|((with_reducible refine below_nine _ _ _ _ _ _ _ _ _ ?_ ?_);assumption;first|omega|(simp<;>omega))))
   (first|(go_at_call 78;first|((with_reducible refine (co1 _).mono ?_);rintro e w1 ⟨rfl,hb⟩;have hB:=below_step (B:=w.heap.size+3) (W0:=raW h1 l1 h2 l2 w) (by simp [raW]) (by with_reducible assumption) hb;have hz:w.heap.size+3≤w1.heap.size:=(by have:=hB.size;simp [raW] at this;omega);(first|(have K:=Blk9.kept (by with_reducible assumption) hb)|(have K:=Blk9.kept (by with_reducible exact Blk9.newD _ _) hb)|(have K:=Blk9.kept (by with_reducible exact Blk9.new _ _) hb)|skip);(try simp only [World.size_alloc] at K);(try (obtain ⟨⟨k0,k1,k2,k3,k4,k5,k6,k7,k8⟩,kf⟩:=(⟨K.c,K.f⟩:_∧_))))|((with_reducible refine (co2 _).mono ?_);rintro e w1 ⟨rfl,hb⟩;have hB:=below_step (B:=w.heap.size+3) (W0:=raW h1 l1 h2 l2 w) (by simp [raW]) (by with_reducible assumption) hb;have hz:w.heap.size+3≤w1.heap.size:=(by have:=hB.size;simp [raW] at this;omega);(first|(have K:=Blk9.kept (by with_reducible assumption) hb)|(have K:=Blk9.kept (by with_reducible exact Blk9.newD _ _) hb)|(have K:=Blk9.kept (by with_reducible exact Blk9.new _ _) hb)|skip);(try simp only [World.size_alloc] at K);(try (obtain ⟨⟨k0,k1,k2,k3,k4,k5,k6,k7,k8⟩,kf⟩:=(⟨K.c,K.f⟩:_∧_)))))|(go_at_call 79;(with_reducible refine (cp _).mono ?_);rintro e w1 ⟨v,z,r0,r1,r2,r3,r4,r5,r6,r7,ok,rfl,dz,rr,hb⟩;have hB:=below_step (B:=w.heap.size+3) (W0:=raW h1 l1 h2 l2 w) (by simp [raW]) (by with_reducible assumption) hb;have hz:w.heap.size+3≤w1.heap.size:=(by have:=hB.size;simp [raW] at this;omega);(first|(have K:=Blk9.kept (by with_reducible assumption) hb)|(have K:=Blk9.kept (by with_reducible exact Blk9.newD _ _) hb)|(have K:=Blk9.kept (by with_reducible exact Blk9.new _ _) hb)|skip);(try simp only [World.size_alloc] at K);(try (obtain ⟨⟨k0,k1,k2,k3,k4,k5,k6,k7,k8⟩,kf⟩:=(⟨K.c,K.f⟩:_∧_)))))
  all_goals go_wp2_with fail
  all_goals go_meet
  all_goals
   first
    | ((with_reducible refine mid_set K hB ?_ dz (key.out v z ok rr));first|omega|(simp<;>omega))
    | (with_reducible exact mid_new hB dz (key.out v z ok rr))
 case rest =>
  obtain ⟨g,v,z,r0,r1,r2,r3,r4,r5,r6,r7,ok,rfl,rfl,dz,rr,⟨c0,c1,c2,c3,c4,c5,c6,c7,c8⟩,k0,k1,f0,f1,z0,B1⟩:=hcut
  have cb:=fun w=>back_tells v z r0 r1 r2 r3 r4 r5 r6 r7 w dz
  clear dz co1 co2 cp key
  go_wp2_with fail
  refine (cb _).mono ?_
  rintro e w1 ⟨h,l,is,rfl,r,hb1⟩
  have q0:=(hb1.cell (p:=⟨w.heap.size+1+1,0,none⟩) z0).trans k0
  have q1:=(hb1.cell (p:=⟨w.heap.size+1+1,1,none⟩) z0).trans k1
  have p0:=(hb1.frozen (p:=⟨w.heap.size+1+1,0,none⟩) z0).trans f0
  have p1:=(hb1.frozen (p:=⟨w.heap.size+1+1,1,none⟩) z0).trans f1
  have z1:=Nat.lt_of_lt_of_le z0 hb1.size
  have B2:Below w.heap.size w w1:=bthen B1 hb1
  clear hb1 c0 c1 c2 c3 c4 c5 c6 c7 c8 k0 k1 f0 f1 cb B1
  have fin:(ok=true∧is=true∧Res sum h l 0)∨((ok=false∨(ok=true∧is=false))∧¬ Fits sum):=by
   rcases rr with ⟨rfl,e⟩|⟨rfl,e⟩
   ·rw [e] at r
    rcases r with ⟨rfl,r⟩|⟨rfl,r⟩
    ·exact .inl ⟨rfl,rfl,r⟩
    ·exact .inr ⟨.inr ⟨rfl,rfl⟩,r⟩
   ·exact .inr ⟨.inl rfl,e⟩
  clear rr r z0
  rcases fin with ⟨rfl,rfl,r⟩|⟨rfl|⟨rfl,rfl⟩,r⟩
  ·replace r:=Lib.hid r
   go_wp2
   refine bodyPost_ret (v:=.tuple #[.agg #[.int .i64 h,.int .u64 l],.int .i64 0]) (by simp [results,Tryz.results82,go_sem,q0,q1,z1]) rfl ⟨h,l,0,rfl,r.out,?_⟩
   repeat (first|exact B2|refine Below.setCell ?_ (by simp<;>omega) _|refine Below.alloc ?_ (by simp<;>omega) _)
  all_goals
   replace r:=Lib.hid r
   go_wp2
   refine bodyPost_ret (v:=.tuple #[.agg #[.int .i64 0,.int .u64 0],.int .i64 2]) (by simp [results,Tryz.results82,go_sem,q0,q1,z1]) rfl ⟨0,0,2,rfl,Or.inr ⟨rfl,rfl,rfl,r.out⟩,?_⟩
   repeat (first|exact B2|refine Below.setCell ?_ (by simp<;>omega) _|refine Below.alloc ?_ (by simp<;>omega) _)

theorem rAdd_any (h1 l1 h2 l2 h l er:Int)(w:World)(b1:Bd h1 l1)(b2:Bd h2 l2)(r:Res (num h1 l1+num h2 l2) h l er) :
  Calls Tryz.prog 82 #[.agg #[.int .i64 h1,.int .u64 l1],.agg #[.int .i64 h2,.int .u64 l2]] w fun e w' =>
   e= .returned (.tuple #[.agg #[.int .i64 h,.int .u64 l],.int .i64 er])∧Below w.heap.size w w' :=
 (rAdd_tells h1 l1 h2 l2 w b1 b2).mono fun e w' ⟨h',l',er',he,r',hb⟩=>by
  obtain ⟨rfl,rfl,rfl⟩:=res_unique r r'
  exact ⟨he,hb⟩

end Go.Proofs.YtoilomigceijaaaGreatDoor.Vr

namespace Go.Proofs.YtoilomigceijaaaGreatDoor.Vr
open Go.RowKit Vm Vc Vl
attribute [local go_sem] alloc_drewN setCell_drewN

set_option maxHeartbeats 1000000

theorem rFit_tells (h1 l1:Int)(w:World)(b1:Bd h1 l1) :
  Calls Tryz.prog 41 #[.agg #[.int .i64 h1,.int .u64 l1]] w (Tells1 (num h1 l1) w):=by
 obtain ⟨n0,n1,n2⟩:=num_abs h1 l1 b1
 obtain ⟨d0,d1,d2,d3,d4,d5,d6,d7,D⟩:=d8_ex n0 n1
 have co:=fun w=>of_at h1 l1 d0 d1 d2 d3 d4 d5 d6 d7 w b1 D
 obtain ⟨hh,ehh⟩:∃ t,((num h1 l1).natAbs:Int) / 18446744073709551616=t:=⟨_,rfl⟩
 obtain ⟨ll,ell⟩:∃ t,((num h1 l1).natAbs:Int)%18446744073709551616=t:=⟨_,rfl⟩
 obtain ⟨p0,p1,p2,p3,ex⟩:=back_facts n0 n1 ehh ell
 have cw:=fun s w=>words_to s _ hh ll d0 d1 d2 d3 d4 d5 d6 d7 w D (Lib.hid ehh) (Lib.hid ell)
 rw [ex] at n2
 replace n2:=Lib.hid n2
 clear D n0 n1 ehh ell ex
 have cs:decide (h1<0)=true∨decide (h1<0)=false:=by cases decide (h1<0)<;>simp
 by_cases c1:0<hh
 ·have d1:decide (0<hh)=true:=decide_eq_true c1
  rcases cs with s|s
  ·have Q:=n2.out
   rw [s] at Q
   have R:Res1 (num h1 l1) (0) 2:=.inr ⟨rfl,rfl,by unfold Fit1;unfold sgn num at Q;simp at Q;unfold num;omega⟩
   clear Q n2
   replace R:=Lib.hid R
   go_enter Tryz.func41,Tryz.ntmps41
   go_wp2_with fail
   refine (co _).mono ?_
   rintro e w' ⟨rfl,rfl⟩
   go_wp2_with fail
   refine (cw _ _).mono ?_
   rintro e w1 ⟨rfl,hb1⟩
   have B1:Below w.heap.size w w1:=by
    refine Below.trans ?_ (hb1.mono (by simp<;>omega))
    repeat (first|exact Below.refl _ _|refine Below.alloc ?_ (by simp<;>omega) _)
   obtain ⟨hc,hf⟩:=bcell hb1
   have k0:w1.cell? ⟨w.heap.size+1+1+1+1+1,0,none⟩=some (.bool true):=by rw [hc _ _ (by simp<;>omega)];simp [go_sem]
   clear hc hf hb1
   go_wp2
   go_ret2
   exact ⟨0,2,rfl,R.out,B1⟩
  ·have Q:=n2.out
   rw [s] at Q
   have R:Res1 (num h1 l1) (0) 2:=.inr ⟨rfl,rfl,by unfold Fit1;unfold sgn num at Q;simp at Q;unfold num;omega⟩
   clear Q n2
   replace R:=Lib.hid R
   go_enter Tryz.func41,Tryz.ntmps41
   go_wp2_with fail
   refine (co _).mono ?_
   rintro e w' ⟨rfl,rfl⟩
   go_wp2_with fail
   refine (cw _ _).mono ?_
   rintro e w1 ⟨rfl,hb1⟩
   have B1:Below w.heap.size w w1:=by
    refine Below.trans ?_ (hb1.mono (by simp<;>omega))
    repeat (first|exact Below.refl _ _|refine Below.alloc ?_ (by simp<;>omega) _)
   obtain ⟨hc,hf⟩:=bcell hb1
   have k0:w1.cell? ⟨w.heap.size+1+1+1+1+1,0,none⟩=some (.bool false):=by rw [hc _ _ (by simp<;>omega)];simp [go_sem]
   clear hc hf hb1
   go_wp2
   go_ret2
   exact ⟨0,2,rfl,R.out,B1⟩
 ·obtain rfl:hh=0:=by omega
  by_cases c2:9223372036854775808<ll
  ·have d2:decide (9223372036854775808<ll)=true:=decide_eq_true c2
   rcases cs with s|s
   ·have Q:=n2.out
    rw [s] at Q
    have R:Res1 (num h1 l1) (0) 2:=.inr ⟨rfl,rfl,by unfold Fit1;unfold sgn num at Q;simp at Q;unfold num;omega⟩
    clear Q n2
    replace R:=Lib.hid R
    go_enter Tryz.func41,Tryz.ntmps41
    go_wp2_with fail
    refine (co _).mono ?_
    rintro e w' ⟨rfl,rfl⟩
    go_wp2_with fail
    refine (cw _ _).mono ?_
    rintro e w1 ⟨rfl,hb1⟩
    have B1:Below w.heap.size w w1:=by
     refine Below.trans ?_ (hb1.mono (by simp<;>omega))
     repeat (first|exact Below.refl _ _|refine Below.alloc ?_ (by simp<;>omega) _)
    obtain ⟨hc,hf⟩:=bcell hb1
    have k0:w1.cell? ⟨w.heap.size+1+1+1+1+1,0,none⟩=some (.bool true):=by rw [hc _ _ (by simp<;>omega)];simp [go_sem]
    clear hc hf hb1
    go_wp2
    go_ret2
    exact ⟨0,2,rfl,R.out,B1⟩
   ·have Q:=n2.out
    rw [s] at Q
    have R:Res1 (num h1 l1) (0) 2:=.inr ⟨rfl,rfl,by unfold Fit1;unfold sgn num at Q;simp at Q;unfold num;omega⟩
    clear Q n2
    replace R:=Lib.hid R
    go_enter Tryz.func41,Tryz.ntmps41
    go_wp2_with fail
    refine (co _).mono ?_
    rintro e w' ⟨rfl,rfl⟩
    go_wp2_with fail
    refine (cw _ _).mono ?_
    rintro e w1 ⟨rfl,hb1⟩
    have B1:Below w.heap.size w w1:=by
     refine Below.trans ?_ (hb1.mono (by simp<;>omega))
     repeat (first|exact Below.refl _ _|refine Below.alloc ?_ (by simp<;>omega) _)
    obtain ⟨hc,hf⟩:=bcell hb1
    have k0:w1.cell? ⟨w.heap.size+1+1+1+1+1,0,none⟩=some (.bool false):=by rw [hc _ _ (by simp<;>omega)];simp [go_sem]
    clear hc hf hb1
    go_wp2
    go_ret2
    exact ⟨0,2,rfl,R.out,B1⟩
  ·have d2:decide (9223372036854775808<ll)=false:=decide_eq_false c2
   by_cases c3:ll=9223372036854775808
   ·subst c3
    clear c2 d2
    rcases cs with s|s
    ·have Q:=n2.out
     rw [s] at Q
     have R:Res1 (num h1 l1) (-9223372036854775808) 0:=.inl ⟨rfl,by unfold sgn num at Q;simp at Q;unfold num;omega,by unfold Fit1;unfold sgn num at Q;simp at Q;unfold num;omega⟩
     clear Q n2
     replace R:=Lib.hid R
     go_enter Tryz.func41,Tryz.ntmps41
     go_wp2_with fail
     refine (co _).mono ?_
     rintro e w' ⟨rfl,rfl⟩
     go_wp2_with fail
     refine (cw _ _).mono ?_
     rintro e w1 ⟨rfl,hb1⟩
     have B1:Below w.heap.size w w1:=by
      refine Below.trans ?_ (hb1.mono (by simp<;>omega))
      repeat (first|exact Below.refl _ _|refine Below.alloc ?_ (by simp<;>omega) _)
     obtain ⟨hc,hf⟩:=bcell hb1
     have k0:w1.cell? ⟨w.heap.size+1+1+1+1+1,0,none⟩=some (.bool true):=by rw [hc _ _ (by simp<;>omega)];simp [go_sem]
     clear hc hf hb1
     go_wp2
     go_ret2
     exact ⟨-9223372036854775808,0,rfl,R.out,B1⟩
    ·have Q:=n2.out
     rw [s] at Q
     have R:Res1 (num h1 l1) (0) 2:=.inr ⟨rfl,rfl,by unfold Fit1;unfold sgn num at Q;simp at Q;unfold num;omega⟩
     clear Q n2
     replace R:=Lib.hid R
     go_enter Tryz.func41,Tryz.ntmps41
     go_wp2_with fail
     refine (co _).mono ?_
     rintro e w' ⟨rfl,rfl⟩
     go_wp2_with fail
     refine (cw _ _).mono ?_
     rintro e w1 ⟨rfl,hb1⟩
     have B1:Below w.heap.size w w1:=by
      refine Below.trans ?_ (hb1.mono (by simp<;>omega))
      repeat (first|exact Below.refl _ _|refine Below.alloc ?_ (by simp<;>omega) _)
     obtain ⟨hc,hf⟩:=bcell hb1
     have k0:w1.cell? ⟨w.heap.size+1+1+1+1+1,0,none⟩=some (.bool false):=by rw [hc _ _ (by simp<;>omega)];simp [go_sem]
     clear hc hf hb1
     go_wp2
     go_ret2
     exact ⟨0,2,rfl,R.out,B1⟩
   ·have d3:(ll==9223372036854775808)=false:=beq_eq_false_iff_ne.2 c3
    have c4:ll≤9223372036854775807:=by omega
    rcases cs with s|s
    ·by_cases c5:0<ll
     ·have d5:decide (0<ll)=true:=decide_eq_true c5
      have c6:1≤ll:=by omega
      have Q:=n2.out
      rw [s] at Q
      have R:Res1 (num h1 l1) (-(ll - 1) - 1) 0:=.inl ⟨rfl,by unfold sgn num at Q;simp at Q;unfold num;omega,by unfold Fit1;unfold sgn num at Q;simp at Q;unfold num;omega⟩
      clear Q n2
      replace R:=Lib.hid R
      go_enter Tryz.func41,Tryz.ntmps41
      go_wp2_with fail
      refine (co _).mono ?_
      rintro e w' ⟨rfl,rfl⟩
      go_wp2_with fail
      refine (cw _ _).mono ?_
      rintro e w1 ⟨rfl,hb1⟩
      have B1:Below w.heap.size w w1:=by
       refine Below.trans ?_ (hb1.mono (by simp<;>omega))
       repeat (first|exact Below.refl _ _|refine Below.alloc ?_ (by simp<;>omega) _)
      obtain ⟨hc,hf⟩:=bcell hb1
      have k0:w1.cell? ⟨w.heap.size+1+1+1+1+1,0,none⟩=some (.bool true):=by rw [hc _ _ (by simp<;>omega)];simp [go_sem]
      clear hc hf hb1
      go_wp2
      go_ret2
      exact ⟨-(ll - 1) - 1,0,rfl,R.out,B1⟩
     ·obtain rfl:ll=0:=by omega
      clear c2 d2 c3 d3 c4 c5
      have Q:=n2.out
      rw [s] at Q
      have R:Res1 (num h1 l1) (0) 0:=.inl ⟨rfl,by unfold sgn num at Q;simp at Q;unfold num;omega,by unfold Fit1;unfold sgn num at Q;simp at Q;unfold num;omega⟩
      clear Q n2
      replace R:=Lib.hid R
      go_enter Tryz.func41,Tryz.ntmps41
      go_wp2_with fail
      refine (co _).mono ?_
      rintro e w' ⟨rfl,rfl⟩
      go_wp2_with fail
      refine (cw _ _).mono ?_
      rintro e w1 ⟨rfl,hb1⟩
      have B1:Below w.heap.size w w1:=by
       refine Below.trans ?_ (hb1.mono (by simp<;>omega))
       repeat (first|exact Below.refl _ _|refine Below.alloc ?_ (by simp<;>omega) _)
      obtain ⟨hc,hf⟩:=bcell hb1
      have k0:w1.cell? ⟨w.heap.size+1+1+1+1+1,0,none⟩=some (.bool true):=by rw [hc _ _ (by simp<;>omega)];simp [go_sem]
      clear hc hf hb1
      go_wp2
      go_ret2
      exact ⟨0,0,rfl,R.out,B1⟩
    ·have Q:=n2.out
     rw [s] at Q
     have R:Res1 (num h1 l1) (ll) 0:=.inl ⟨rfl,by unfold sgn num at Q;simp at Q;unfold num;omega,by unfold Fit1;unfold sgn num at Q;simp at Q;unfold num;omega⟩
     clear Q n2
     replace R:=Lib.hid R
     go_enter Tryz.func41,Tryz.ntmps41
     go_wp2_with fail
     refine (co _).mono ?_
     rintro e w' ⟨rfl,rfl⟩
     go_wp2_with fail
     refine (cw _ _).mono ?_
     rintro e w1 ⟨rfl,hb1⟩
     have B1:Below w.heap.size w w1:=by
      refine Below.trans ?_ (hb1.mono (by simp<;>omega))
      repeat (first|exact Below.refl _ _|refine Below.alloc ?_ (by simp<;>omega) _)
     obtain ⟨hc,hf⟩:=bcell hb1
     have k0:w1.cell? ⟨w.heap.size+1+1+1+1+1,0,none⟩=some (.bool false):=by rw [hc _ _ (by simp<;>omega)];simp [go_sem]
     clear hc hf hb1
     go_wp2
     go_ret2
     exact ⟨ll,0,rfl,R.out,B1⟩

theorem rFit_any (h l v er:Int)(w:World)(b1:Bd h l)(r:Res1 (num h l) v er) :
  Calls Tryz.prog 41 #[.agg #[.int .i64 h,.int .u64 l]] w fun e w' =>
   e= .returned (.tuple #[.int .i64 v,.int .i64 er])∧Below w.heap.size w w' :=
 (rFit_tells h l w b1).mono fun e w' ⟨v',er',he,r',hb⟩=>by
  obtain ⟨rfl,rfl⟩:=res1_unique r r'
  exact ⟨he,hb⟩

end Go.Proofs.YtoilomigceijaaaGreatDoor.Vr

namespace Go.Proofs.YtoilomigceijaaaGreatDoor.Vr
open Go.RowKit Vm Vc Vl
attribute [local go_sem ↓] Go.wp_at_zero Go.wp_at_succ

set_option maxHeartbeats 1000000

def RSumW (w wr:World)(g:Nat)(h l:Int):Prop :=
 Below w.heap.size w wr∧w.heap.size≤g∧g<wr.heap.size∧wr.cell? ⟨g,0,none⟩=some (.int .i64 h)∧wr.cell? ⟨g,1,none⟩=some (.int .u64 l)∧wr.frozen? ⟨g,0,none⟩=false∧wr.frozen? ⟨g,1,none⟩=false

theorem take_bound (zs:List Int)(k:Nat)(hf:∀ z ∈ zs,Fit1 z)(hk:k≤4096): -(4096*9223372036854775808:Int)≤(zs.take k).sum∧(zs.take k).sum≤4096*9223372036854775808:=by
 have h:=sum_bound (zs.take k) (fun z hz=>hf z (List.mem_of_mem_take hz))
 have hl:(zs.take k).length≤k:=List.length_take_le _ _
 omega

theorem rSum_tells (A:Option Addr)(n cap:Nat)(zs:List Int)(w:World)(hn:zs.length=n)(hm:n≤4096)(hf:∀ z ∈ zs,Fit1 z)(hr:Rd w w.heap.size A zs) :
  Calls Tryz.prog 76 #[.slice A n cap] w (Tells1 zs.sum w):=by
 have HN:=Lib.hid hn
 have HF:=Lib.hid hf
 have HR:=Lib.hid hr
 clear hn hf hr
 go_enter Tryz.func76,Tryz.ntmps76
 go_wp2
 go_loopw [10] (fun x10 wr=>∃ (k:Nat) (h l:Int),k≤n∧x10= .int .i64 k∧num h l=(zs.take k).sum∧Bd h l∧RSumW w wr w.heap.size h l) (fun x10 _=>n - (intOf x10).toNat)
 case atStart =>
  refine ⟨0,0,0,by omega,rfl,by simp [num],by unfold Bd;omega,?_,Nat.le_refl _,by simp,?_,?_,?_,?_⟩
  ·exact (Below.refl _ _).alloc (Nat.le_refl _) _
  all_goals simp [go_sem]
 case round =>
  obtain ⟨k,h,l,hk,rfl,hs,bd,hb,_,hg,q0,q1,f0,f1⟩:=hrel
  by_cases hlt:k<n
  ·have ht:zs≠[]:=by intro e;have:=HN.out;rw [e] at this;simp at this;omega
   obtain ⟨b,off,rfl,hb0,hcell⟩:=HR.out.resolve_left ht
   have hk2:k<zs.length:=by rw [HN.out];exact hlt
   have hc1:=(hb.cell (p:=⟨b,off+k,none⟩) hb0).trans (hcell k hk2)
   obtain ⟨z,hz⟩:∃ s,zs.getD k 0=s:=⟨_,rfl⟩
   rw [hz] at hc1
   clear hcell
   have fz:Fit1 z:=HF.out z (by rw [← hz,show zs.getD k 0=zs[k] by simp [List.getD,hk2]];exact List.getElem_mem hk2)
   obtain ⟨ho,lo,no,bo⟩:=words_ex (x:=z) (by unfold Fits;unfold Fit1 at fz;omega)
   have tb:=take_bound zs k HF.out (by omega)
   have ts:=take_sum zs k hk2
   rw [hz] at ts
   obtain ⟨h',l',n',b'⟩:=words_ex (x:=(zs.take k).sum+z) (by unfold Fits;unfold Fit1 at fz;omega)
   have co:=fun w=>rOf_to z ho lo w fz no bo
   have ca:=fun w=>rAdd_any h l ho lo h' l' 0 w bd bo (Or.inl ⟨rfl,by rw [hs,no];exact n',b'⟩)
   have HS:=Lib.hid (n'.trans ts.symm)
   replace b':=Lib.hid b'
   clear ht no bo tb ts n' hs bd hz fz
   go_wp2
   go_region_law (first|(go_simp;go_at_call 83;refine (co _).mono ?_;rintro e w1 ⟨rfl,hb1⟩;have q01:=(hb1.cell (p:=⟨w.heap.size,0,none⟩) hg).trans q0;have q11:=(hb1.cell (p:=⟨w.heap.size,1,none⟩) hg).trans q1;have f01:=(hb1.frozen (p:=⟨w.heap.size,0,none⟩) hg).trans f0;have f11:=(hb1.frozen (p:=⟨w.heap.size,1,none⟩) hg).trans f1;have hg1:=Nat.lt_of_lt_of_le hg hb1.size)|(go_simp;go_at_call 82;refine (ca _).mono ?_;rintro e w2 ⟨rfl,hb2⟩;have q02:=(hb2.cell (p:=⟨w.heap.size,0,none⟩) hg1).trans q01;have q12:=(hb2.cell (p:=⟨w.heap.size,1,none⟩) hg1).trans q11;have f02:=(hb2.frozen (p:=⟨w.heap.size,0,none⟩) hg1).trans f01;have f12:=(hb2.frozen (p:=⟨w.heap.size,1,none⟩) hg1).trans f11;have hg2:=Nat.lt_of_lt_of_le hg1 hb2.size))
   all_goals have bx:Below w.heap.size w w2:=hb.drew.trans ((hb1.mono (Nat.le_of_lt hg)).trans (hb2.mono (Nat.le_of_lt hg1)))
   all_goals go_wp2
   all_goals
    go_roundw
    case rel =>
     refine ⟨k+1,h',l',by omega,by go_num,HS.out,b'.out,?_,Nat.le_refl _,?_,?_,?_,?_,?_⟩
     ·exact (bx.setCell (by simp) _).setCell (by simp) _
     ·simp [hg2]
     all_goals simp [go_sem,q02,q12,f02,f12]
    case measure=>simp [intOf];omega
  ·obtain rfl:k=n:=by omega
   have es:num h l=zs.sum:=by rw [hs,List.take_of_length_le (by rw [HN.out];omega)]
   have cf:=fun w=>rFit_tells h l w bd
   rw [es] at cf
   clear es hs bd
   go_wp2_with fail
   refine (cf _).mono ?_
   rintro e w2 ⟨v,er,rfl,R,hb2⟩
   replace R:=Lib.hid R
   go_wp2
   go_ret2
   exact ⟨v,er,rfl,R.out,hb.trans (hb2.mono (Nat.le_of_lt hg))⟩

theorem rSum_any (A:Option Addr)(n cap:Nat)(zs:List Int)(v er:Int)(w:World)(hn:zs.length=n)(hm:n≤4096)(hf:∀ z ∈ zs,Fit1 z)(hr:Rd w w.heap.size A zs)(R:Res1 zs.sum v er) :
  Calls Tryz.prog 76 #[.slice A n cap] w fun e w'=>e= .returned (.tuple #[.int .i64 v,.int .i64 er])∧Below w.heap.size w w' :=
 (rSum_tells A n cap zs w hn hm hf hr).mono fun e w' ⟨v',er',he,r',hb⟩=>by
  obtain ⟨rfl,rfl⟩:=res1_unique R r'
  exact ⟨he,hb⟩

end Go.Proofs.YtoilomigceijaaaGreatDoor.Vr

namespace Go.Proofs.YtoilomigceijaaaGreatDoor.Sr
open Go.RowKit Vm Vc Pr Rk Sm

set_option maxHeartbeats 1000000

theorem rAll_any (A:Option Addr)(n cap:Nat)(zs:List Int)(v er:Int)(w:World)(hn:zs.length=n)(hm:n≤4096∨4096<n)(hm2:(n:Int)≤9223372036854775807)(hf:∀ z ∈ zs,Fit1 z)(hr:Rd w w.heap.size A zs)(R:AllRes zs v er) :
  Calls Tryz.prog 37 #[.slice A n cap] w fun e w'=>e= .returned (.tuple #[.int .i64 v,.int .i64 er])∧Below w.heap.size w w':=by
 rcases R with ⟨h,rfl,rfl⟩|⟨h,⟨y,hy,y0⟩,rfl,rfl⟩|⟨h,hp,R⟩
 ·have d1:decide ((4096:Int)<(n:Int))=true:=decide_eq_true (by omega)
  clear hf hr hn h hm
  go_enter Tryz.func37,Tryz.ntmps37
  go_wp2
  go_ret2
  exact ⟨rfl,Below.refl _ w⟩
 ·have d1:decide ((4096:Int)<(n:Int))=false:=decide_eq_false (by omega)
  have HN:=Lib.hid hn
  have HR:=Lib.hid hr
  have HF:=Lib.hid hf
  have HY:=Lib.hid (And.intro hy y0)
  clear hf hr hn h hm hy y0
  go_enter Tryz.func37,Tryz.ntmps37
  go_wp2
  go_loop [13] (fun x=>∃ k:Nat,k≤n∧x= .int .i64 k∧Hid (∀ i,i<k→0≤zs.getD i 0)) (fun x=>n - (intOf x).toNat)
  case atStart=>exact ⟨0,by omega,rfl,Lib.hid (fun i hi=>by omega)⟩
  case round =>
   obtain ⟨k,hk,rfl,hg⟩:=hrel
   by_cases hlt:k<n
   ·have hk2:k<zs.length:=by rw [HN.out];exact hlt
    obtain ⟨b,off,rfl,hb0,hcell⟩:=HR.out.resolve_left (by intro e;rw [e] at hk2;simp at hk2)
    have hc1:=hcell k hk2
    obtain ⟨z,hz⟩:∃ s,zs.getD k 0=s:=⟨_,rfl⟩
    rw [hz] at hc1
    clear hcell
    by_cases z0:z<0
    ·clear hz hk2
     go_wp2
     go_ret2
     exact ⟨rfl,Below.refl _ w⟩
    ·have hg2:Hid (∀ i,i<k+1→0≤zs.getD i 0):=Lib.hid (fun i hi=>by
      by_cases e:i=k
      ·subst e;omega
      ·exact hg.out i (by omega))
     clear hz hk2 hg
     go_wp2
     go_round
     case rel=>exact ⟨k+1,by omega,by go_num,hg2⟩
     case measure=>simp [intOf];omega
   ·exfalso
    obtain ⟨j,hj,e⟩:=List.getElem_of_mem HY.out.1
    have:=hg.out j (by have:=HN.out;omega)
    rw [show zs.getD j 0=zs[j] by simp [List.getD,hj],e] at this
    have:=HY.out.2
    omega
 ·have d1:decide ((4096:Int)<(n:Int))=false:=decide_eq_false (by omega)
  obtain ⟨s,es,rs⟩:=res1_ex zs.sum
  have cs:=fun w h=>Vr.rSum_any A n cap zs s es w hn (by omega) hf h rs
  have O:(es≠0∧v=0∧er=es)∨(es=0∧s=0∧v=0∧er=3)∨(es=0∧s≠0∧v=s∧er=0):=by
   rcases rs with ⟨rfl,rfl,f⟩|⟨rfl,rfl,f⟩<;>rcases R with ⟨g,rfl,rfl⟩|⟨g,rfl,rfl⟩|⟨g,g2,rfl,rfl⟩
   ·exact absurd f g
   ·exact .inr (.inl ⟨rfl,g,rfl,rfl⟩)
   ·exact .inr (.inr ⟨rfl,by omega,rfl,rfl⟩)
   ·exact .inl ⟨by decide,rfl,rfl⟩
   ·exact absurd (by rw [g];unfold Fit1;omega) f
   ·exact absurd g2 f
  have HN:=Lib.hid hn
  have HR:=Lib.hid hr
  have HP:=Lib.hid hp
  clear hf hr hn h hm hp R rs
  go_enter Tryz.func37,Tryz.ntmps37
  go_wp2
  go_loop [13] (fun x=>∃ k:Nat,k≤n∧x= .int .i64 k) (fun x=>n - (intOf x).toNat)
  case atStart=>exact ⟨0,by omega,rfl⟩
  case round =>
   obtain ⟨k,hk,rfl⟩:=hrel
   by_cases hlt:k<n
   ·have hk2:k<zs.length:=by rw [HN.out];exact hlt
    have z0:=HP.out _ (getD_mem hk2)
    obtain ⟨b,off,rfl,hb0,hcell⟩:=HR.out.resolve_left (by intro e;rw [e] at hk2;simp at hk2)
    have hc1:=hcell k hk2
    obtain ⟨z,hz⟩:∃ s,zs.getD k 0=s:=⟨_,rfl⟩
    rw [hz] at hc1 z0
    clear hcell hz hk2
    go_wp2
    go_round
    case rel=>exact ⟨k+1,by omega,by go_num⟩
    case measure=>simp [intOf];omega
   ·go_wp2_with fail
    refine (cs _ HR.out).mono ?_
    rintro e w1 ⟨rfl,hb⟩
    rcases O with ⟨o,rfl,rfl⟩|⟨rfl,rfl,rfl,rfl⟩|⟨rfl,o,rfl,rfl⟩
    ·have q1:(er != 0)=true:=bne_iff_ne.2 o
     clear o
     go_wp2
     go_ret2
     exact ⟨rfl,hb⟩
    ·go_wp2
     go_ret2
     exact ⟨rfl,hb⟩
    ·have q1:(v==0)=false:=beq_eq_false_iff_ne.2 o
     clear o
     go_wp2
     go_ret2
     exact ⟨rfl,hb⟩

end Go.Proofs.YtoilomigceijaaaGreatDoor.Sr

namespace Go.Proofs.YtoilomigceijaaaGreatDoor.Vm
open Go.RowKit

theorem tstep {t:Int}(h0:0≤t)(h1:t≤4294967295):∃ r m:Int,t%65536=r∧t / 65536=m∧0≤r∧r≤65535∧0≤m∧m≤65535∧t=r+65536*m :=
 ⟨t%65536,t / 65536,rfl,rfl,by omega,by omega,by omega,by omega,by omega⟩

theorem dig_prod {x y:Int}(hx0:0≤x)(hx:x≤65535)(hy0:0≤y)(hy:y≤65535):∃ g,x*y=g∧0≤g∧g≤4294836225:=by
 refine ⟨x*y,rfl,Int.mul_nonneg hx0 hy0,?_⟩
 have h1:x*y≤65535*y:=Int.mul_le_mul_of_nonneg_right hx hy0
 omega

theorem mul_ex {x y x0 x1 x2 x3 y0 y1 y2 y3:Int}(a0:Dg x0)(a1:Dg x1)(a2:Dg x2)(a3:Dg x3)(b0:Dg y0)(b1:Dg y1)(b2:Dg y2)(b3:Dg y3)(ex:x=x0+x1*65536+x2*4294967296+x3*281474976710656)(ey:y=y0+y1*65536+y2*4294967296+y3*281474976710656) :
  ∃ g00 g01 g02 g03 g10 g11 g12 g13 g20 g21 g22 g23 g30 g31 g32 g33 r00 r01 r02 r03 r10 r11 r12 r13 r20 r21 r22 r23 r30 r31 r32 r33 c00 c01 c02 c03 c10 c11 c12 c13 c20 c21 c22 c23 c30 c31 c32 c33:Int,Hid (x0*y0=g00∧0≤g00∧g00≤4294836225∧(g00)%65536=r00∧(g00) / 65536=c00∧0≤c00∧c00≤65535)∧Hid (x0*y1=g01∧0≤g01∧g01≤4294836225∧(c00+g01)%65536=r01∧(c00+g01) / 65536=c01∧0≤c01∧c01≤65535∧0≤c00∧c00≤65535)∧Hid (x0*y2=g02∧0≤g02∧g02≤4294836225∧(c01+g02)%65536=r02∧(c01+g02) / 65536=c02∧0≤c02∧c02≤65535∧0≤c01∧c01≤65535)∧Hid (x0*y3=g03∧0≤g03∧g03≤4294836225∧(c02+g03)%65536=r03∧(c02+g03) / 65536=c03∧0≤c03∧c03≤65535∧0≤c02∧c02≤65535)∧Hid (x1*y0=g10∧0≤g10∧g10≤4294836225∧(r01+g10)%65536=r10∧(r01+g10) / 65536=c10∧0≤c10∧c10≤65535∧0≤r01∧r01≤65535)∧Hid (x1*y1=g11∧0≤g11∧g11≤4294836225∧(c10+(r02+g11))%65536=r11∧(c10+(r02+g11)) / 65536=c11∧0≤c11∧c11≤65535∧0≤c10∧c10≤65535∧0≤r02∧r02≤65535)∧Hid (x1*y2=g12∧0≤g12∧g12≤4294836225∧(c11+(r03+g12))%65536=r12∧(c11+(r03+g12)) / 65536=c12∧0≤c12∧c12≤65535∧0≤c11∧c11≤65535∧0≤r03∧r03≤65535)∧Hid (x1*y3=g13∧0≤g13∧g13≤4294836225∧(c12+(c03+g13))%65536=r13∧(c12+(c03+g13)) / 65536=c13∧0≤c13∧c13≤65535∧0≤c12∧c12≤65535∧0≤c03∧c03≤65535)∧Hid (x2*y0=g20∧0≤g20∧g20≤4294836225∧(r11+g20)%65536=r20∧(r11+g20) / 65536=c20∧0≤c20∧c20≤65535∧0≤r11∧r11≤65535)∧Hid (x2*y1=g21∧0≤g21∧g21≤4294836225∧(c20+(r12+g21))%65536=r21∧(c20+(r12+g21)) / 65536=c21∧0≤c21∧c21≤65535∧0≤c20∧c20≤65535∧0≤r12∧r12≤65535)∧Hid (x2*y2=g22∧0≤g22∧g22≤4294836225∧(c21+(r13+g22))%65536=r22∧(c21+(r13+g22)) / 65536=c22∧0≤c22∧c22≤65535∧0≤c21∧c21≤65535∧0≤r13∧r13≤65535)∧Hid (x2*y3=g23∧0≤g23∧g23≤4294836225∧(c22+(c13+g23))%65536=r23∧(c22+(c13+g23)) / 65536=c23∧0≤c23∧c23≤65535∧0≤c22∧c22≤65535∧0≤c13∧c13≤65535)∧Hid (x3*y0=g30∧0≤g30∧g30≤4294836225∧(r21+g30)%65536=r30∧(r21+g30) / 65536=c30∧0≤c30∧c30≤65535∧0≤r21∧r21≤65535)∧Hid (x3*y1=g31∧0≤g31∧g31≤4294836225∧(c30+(r22+g31))%65536=r31∧(c30+(r22+g31)) / 65536=c31∧0≤c31∧c31≤65535∧0≤c30∧c30≤65535∧0≤r22∧r22≤65535)∧Hid (x3*y2=g32∧0≤g32∧g32≤4294836225∧(c31+(r23+g32))%65536=r32∧(c31+(r23+g32)) / 65536=c32∧0≤c32∧c32≤65535∧0≤c31∧c31≤65535∧0≤r23∧r23≤65535)∧Hid (x3*y3=g33∧0≤g33∧g33≤4294836225∧(c32+(c23+g33))%65536=r33∧(c32+(c23+g33)) / 65536=c33∧0≤c33∧c33≤65535∧0≤c32∧c32≤65535∧0≤c23∧c23≤65535)∧D8 (x*y) r00 r10 r20 r30 r31 r32 r33 c33:=by
 obtain ⟨g00,e00,l00,u00⟩:=dig_prod a0.1 a0.2 b0.1 b0.2
 obtain ⟨g01,e01,l01,u01⟩:=dig_prod a0.1 a0.2 b1.1 b1.2
 obtain ⟨g02,e02,l02,u02⟩:=dig_prod a0.1 a0.2 b2.1 b2.2
 obtain ⟨g03,e03,l03,u03⟩:=dig_prod a0.1 a0.2 b3.1 b3.2
 obtain ⟨g10,e10,l10,u10⟩:=dig_prod a1.1 a1.2 b0.1 b0.2
 obtain ⟨g11,e11,l11,u11⟩:=dig_prod a1.1 a1.2 b1.1 b1.2
 obtain ⟨g12,e12,l12,u12⟩:=dig_prod a1.1 a1.2 b2.1 b2.2
 obtain ⟨g13,e13,l13,u13⟩:=dig_prod a1.1 a1.2 b3.1 b3.2
 obtain ⟨g20,e20,l20,u20⟩:=dig_prod a2.1 a2.2 b0.1 b0.2
 obtain ⟨g21,e21,l21,u21⟩:=dig_prod a2.1 a2.2 b1.1 b1.2
 obtain ⟨g22,e22,l22,u22⟩:=dig_prod a2.1 a2.2 b2.1 b2.2
 obtain ⟨g23,e23,l23,u23⟩:=dig_prod a2.1 a2.2 b3.1 b3.2
 obtain ⟨g30,e30,l30,u30⟩:=dig_prod a3.1 a3.2 b0.1 b0.2
 obtain ⟨g31,e31,l31,u31⟩:=dig_prod a3.1 a3.2 b1.1 b1.2
 obtain ⟨g32,e32,l32,u32⟩:=dig_prod a3.1 a3.2 b2.1 b2.2
 obtain ⟨g33,e33,l33,u33⟩:=dig_prod a3.1 a3.2 b3.1 b3.2
 obtain ⟨r00,c00,p00,q00,s00,t00,v00,w00,z00⟩:=tstep (t:=g00) (by omega) (by omega)
 obtain ⟨r01,c01,p01,q01,s01,t01,v01,w01,z01⟩:=tstep (t:=c00+g01) (by omega) (by omega)
 obtain ⟨r02,c02,p02,q02,s02,t02,v02,w02,z02⟩:=tstep (t:=c01+g02) (by omega) (by omega)
 obtain ⟨r03,c03,p03,q03,s03,t03,v03,w03,z03⟩:=tstep (t:=c02+g03) (by omega) (by omega)
 obtain ⟨r10,c10,p10,q10,s10,t10,v10,w10,z10⟩:=tstep (t:=r01+g10) (by omega) (by omega)
 obtain ⟨r11,c11,p11,q11,s11,t11,v11,w11,z11⟩:=tstep (t:=c10+(r02+g11)) (by omega) (by omega)
 obtain ⟨r12,c12,p12,q12,s12,t12,v12,w12,z12⟩:=tstep (t:=c11+(r03+g12)) (by omega) (by omega)
 obtain ⟨r13,c13,p13,q13,s13,t13,v13,w13,z13⟩:=tstep (t:=c12+(c03+g13)) (by omega) (by omega)
 obtain ⟨r20,c20,p20,q20,s20,t20,v20,w20,z20⟩:=tstep (t:=r11+g20) (by omega) (by omega)
 obtain ⟨r21,c21,p21,q21,s21,t21,v21,w21,z21⟩:=tstep (t:=c20+(r12+g21)) (by omega) (by omega)
 obtain ⟨r22,c22,p22,q22,s22,t22,v22,w22,z22⟩:=tstep (t:=c21+(r13+g22)) (by omega) (by omega)
 obtain ⟨r23,c23,p23,q23,s23,t23,v23,w23,z23⟩:=tstep (t:=c22+(c13+g23)) (by omega) (by omega)
 obtain ⟨r30,c30,p30,q30,s30,t30,v30,w30,z30⟩:=tstep (t:=r21+g30) (by omega) (by omega)
 obtain ⟨r31,c31,p31,q31,s31,t31,v31,w31,z31⟩:=tstep (t:=c30+(r22+g31)) (by omega) (by omega)
 obtain ⟨r32,c32,p32,q32,s32,t32,v32,w32,z32⟩:=tstep (t:=c31+(r23+g32)) (by omega) (by omega)
 obtain ⟨r33,c33,p33,q33,s33,t33,v33,w33,z33⟩:=tstep (t:=c32+(c23+g33)) (by omega) (by omega)
 have eY:∀ k:Int,k*(y0+y1*65536+y2*4294967296+y3*281474976710656)=k*y0+k*y1*65536+k*y2*4294967296+k*y3*281474976710656:=by
  intro k;simp only [Int.mul_add,← Int.mul_assoc]
 have eX:x*y=x0*y+x1*y*65536+x2*y*4294967296+x3*y*281474976710656:=by
  rw [ex,Int.add_mul,Int.add_mul,Int.add_mul,Int.mul_right_comm x1,Int.mul_right_comm x2,Int.mul_right_comm x3]
 have f0:x0*y=g00+g01*65536+g02*4294967296+g03*281474976710656:=by rw [ey,eY,e00,e01,e02,e03]
 have f1:x1*y=g10+g11*65536+g12*4294967296+g13*281474976710656:=by rw [ey,eY,e10,e11,e12,e13]
 have f2:x2*y=g20+g21*65536+g22*4294967296+g23*281474976710656:=by rw [ey,eY,e20,e21,e22,e23]
 have f3:x3*y=g30+g31*65536+g32*4294967296+g33*281474976710656:=by rw [ey,eY,e30,e31,e32,e33]
 rw [f0,f1,f2,f3] at eX
 refine ⟨g00,g01,g02,g03,g10,g11,g12,g13,g20,g21,g22,g23,g30,g31,g32,g33,r00,r01,r02,r03,r10,r11,r12,r13,r20,r21,r22,r23,r30,r31,r32,r33,c00,c01,c02,c03,c10,c11,c12,c13,c20,c21,c22,c23,c30,c31,c32,c33,Lib.hid ⟨e00,l00,u00,p00,q00,v00,w00⟩,Lib.hid ⟨e01,l01,u01,p01,q01,v01,w01,v00,w00⟩,Lib.hid ⟨e02,l02,u02,p02,q02,v02,w02,v01,w01⟩,Lib.hid ⟨e03,l03,u03,p03,q03,v03,w03,v02,w02⟩,Lib.hid ⟨e10,l10,u10,p10,q10,v10,w10,s01,t01⟩,Lib.hid ⟨e11,l11,u11,p11,q11,v11,w11,v10,w10,s02,t02⟩,Lib.hid ⟨e12,l12,u12,p12,q12,v12,w12,v11,w11,s03,t03⟩,Lib.hid ⟨e13,l13,u13,p13,q13,v13,w13,v12,w12,v03,w03⟩,Lib.hid ⟨e20,l20,u20,p20,q20,v20,w20,s11,t11⟩,Lib.hid ⟨e21,l21,u21,p21,q21,v21,w21,v20,w20,s12,t12⟩,Lib.hid ⟨e22,l22,u22,p22,q22,v22,w22,v21,w21,s13,t13⟩,Lib.hid ⟨e23,l23,u23,p23,q23,v23,w23,v22,w22,v13,w13⟩,Lib.hid ⟨e30,l30,u30,p30,q30,v30,w30,s21,t21⟩,Lib.hid ⟨e31,l31,u31,p31,q31,v31,w31,v30,w30,s22,t22⟩,Lib.hid ⟨e32,l32,u32,p32,q32,v32,w32,v31,w31,s23,t23⟩,Lib.hid ⟨e33,l33,u33,p33,q33,v33,w33,v32,w32,v23,w23⟩,?_⟩
 refine ⟨⟨s00,t00⟩,⟨s10,t10⟩,⟨s20,t20⟩,⟨s30,t30⟩,⟨s31,t31⟩,⟨s32,t32⟩,⟨s33,t33⟩,⟨v33,w33⟩,?_⟩
 clear e00 p00 q00 l00 u00 s00 t00 v00 w00 e01 p01 q01 l01 u01 s01 t01 v01 w01 e02 p02 q02 l02 u02 s02 t02 v02 w02 e03 p03 q03 l03 u03 s03 t03 v03 w03 e10 p10 q10 l10 u10 s10 t10 v10 w10 e11 p11 q11 l11 u11 s11 t11 v11 w11 e12 p12 q12 l12 u12 s12 t12 v12 w12 e13 p13 q13 l13 u13 s13 t13 v13 w13 e20 p20 q20 l20 u20 s20 t20 v20 w20 e21 p21 q21 l21 u21 s21 t21 v21 w21 e22 p22 q22 l22 u22 s22 t22 v22 w22 e23 p23 q23 l23 u23 s23 t23 v23 w23 e30 p30 q30 l30 u30 s30 t30 v30 w30 e31 p31 q31 l31 u31 s31 t31 v31 w31 e32 p32 q32 l32 u32 s32 t32 v32 w32 e33 p33 q33 l33 u33 s33 t33 v33 w33 ex ey eY f0 f1 f2 f3 a0 a1 a2 a3 b0 b1 b2 b3
 omega

end Go.Proofs.YtoilomigceijaaaGreatDoor.Vm

namespace Go.Proofs.YtoilomigceijaaaGreatDoor.Vr
open Go.RowKit Vm Vc Vl
attribute [local go_sem] alloc_drewN setCell_drewN

set_option maxHeartbeats 4000000

theorem d4_ex {x:Int}(h0:0≤x)(h1:x≤9223372036854775808):∃ d0 d1 d2 d3:Int,Dg d0∧Dg d1∧Dg d2∧Dg d3∧x=d0+d1*65536+d2*4294967296+d3*281474976710656∧D8 (num 0 x) d0 d1 d2 d3 0 0 0 0:=by
 refine ⟨x%65536,x / 65536%65536,x / 4294967296%65536,x / 281474976710656%65536,?_⟩
 unfold D8 Dg num
 omega

theorem sgn_prod (a b:Int)(s:Bool)(hs:(decide (a<0)!=decide (b<0))=s):sgn s ((a.natAbs:Int)*(b.natAbs:Int))=a*b:=by
 subst hs
 unfold sgn
 by_cases ha:a<0<;>by_cases hb:b<0
 ·simp only [ha,hb,decide_true,bne_self_eq_false,Bool.false_eq_true,if_false]
  exact prod_same (.inl ⟨ha,hb⟩)
 ·simp only [ha,hb,decide_true,decide_false]
  rw [if_pos (by decide),prod_diff (.inl ⟨ha,by omega⟩),Int.neg_neg]
 ·simp only [ha,hb,decide_true,decide_false]
  rw [if_pos (by decide),prod_diff (.inr ⟨by omega,hb⟩),Int.neg_neg]
 ·simp only [ha,hb,decide_false,bne_self_eq_false,Bool.false_eq_true,if_false]
  exact prod_same (.inr ⟨by omega,by omega⟩)

theorem pk0 {x y g r c:Int}(h:x*y=g∧0≤g∧g≤4294836225∧g%65536=r∧g / 65536=c∧0≤c∧c≤65535) :
  ∃ t,IntKind.u64.wrap (x*y)=t∧IntKind.u64.wrap t=t∧0≤t∧t≤4294967295∧t%65536=r∧t / 65536=c∧t.tmod 65536=r∧t.tdiv 65536=c∧0≤r∧r≤65535∧0≤c∧c≤65535:=by
 obtain ⟨e,h0,h1,hr,hc,h2,h3⟩:=h
 refine ⟨g,by rw [e,IntKind.wrap_u64];omega,by rw [IntKind.wrap_u64];omega,h0,by omega,hr,hc,by rw [Int.tmod_eq_emod_of_nonneg h0];exact hr,by rw [Int.tdiv_eq_ediv_of_nonneg h0];exact hc,by omega,by omega,h2,h3⟩
theorem pkm {x y m g r c:Int}(h:x*y=g∧0≤g∧g≤4294836225∧(m+g)%65536=r∧(m+g) / 65536=c∧0≤c∧c≤65535∧0≤m∧m≤65535) :
  ∃ s t,IntKind.u64.wrap (x*y)=s∧IntKind.u64.wrap s=s∧IntKind.u64.wrap (m+s)=t∧IntKind.u64.wrap t=t∧0≤t∧t≤4294967295∧t%65536=r∧t / 65536=c∧t.tmod 65536=r∧t.tdiv 65536=c∧0≤r∧r≤65535∧0≤c∧c≤65535:=by
 obtain ⟨e,h0,h1,hr,hc,h2,h3,h4,h5⟩:=h
 have ht:0≤m+g:=by omega
 refine ⟨g,m+g,by rw [e,IntKind.wrap_u64];omega,by rw [IntKind.wrap_u64];omega,by rw [IntKind.wrap_u64];omega,by rw [IntKind.wrap_u64];omega,ht,by omega,hr,hc,by rw [Int.tmod_eq_emod_of_nonneg ht];exact hr,by rw [Int.tdiv_eq_ediv_of_nonneg ht];exact hc,by omega,by omega,h2,h3⟩
theorem pko {x y m o g r c:Int}(h:x*y=g∧0≤g∧g≤4294836225∧(m+(o+g))%65536=r∧(m+(o+g)) / 65536=c∧0≤c∧c≤65535∧0≤m∧m≤65535∧0≤o∧o≤65535) :
  ∃ u s t,IntKind.u64.wrap (x*y)=u∧IntKind.u64.wrap (o+u)=s∧IntKind.u64.wrap (m+s)=t∧IntKind.u64.wrap t=t∧0≤t∧t≤4294967295∧t%65536=r∧t / 65536=c∧t.tmod 65536=r∧t.tdiv 65536=c∧0≤r∧r≤65535∧0≤c∧c≤65535:=by
 obtain ⟨e,h0,h1,hr,hc,h2,h3,h4,h5,h6,h7⟩:=h
 have ht:0≤m+(o+g):=by omega
 refine ⟨g,o+g,m+(o+g),by rw [e,IntKind.wrap_u64];omega,by rw [IntKind.wrap_u64];omega,by rw [IntKind.wrap_u64];omega,by rw [IntKind.wrap_u64];omega,ht,by omega,hr,hc,by rw [Int.tmod_eq_emod_of_nonneg ht];exact hr,by rw [Int.tdiv_eq_ediv_of_nonneg ht];exact hc,by omega,by omega,h2,h3⟩

theorem rMul_to (a b h l:Int)(w:World)(fa:Fit1 a)(fb:Fit1 b)(bd:Bd h l)(hn:num h l=a*b) :
  Calls Tryz.prog 77 #[.int .i64 a,.int .i64 b] w fun e w'=>e= .returned (.agg #[.int .i64 h,.int .u64 l])∧Below w.heap.size w w':=by
 obtain ⟨x0,x1,x2,x3,a0,a1,a2,a3,ex,DX⟩:=d4_ex (x:=(a.natAbs:Int)) (by omega) (by unfold Fit1 at fa;omega)
 obtain ⟨y0,y1,y2,y3,b0,b1,b2,b3,ey,DY⟩:=d4_ex (x:=(b.natAbs:Int)) (by omega) (by unfold Fit1 at fb;omega)
 have ca:=fun w=>rsize_any a w fa
 have cb:=fun w=>rsize_any b w fb
 have pa:=fun s w=>put_at s 0 (a.natAbs:Int) x0 x1 x2 x3 0 0 0 0 w (by omega) (by omega) (by omega) (by unfold Fit1 at fa;omega) DX
 have pb:=fun s w=>put_at s 0 (b.natAbs:Int) y0 y1 y2 y3 0 0 0 0 w (by omega) (by omega) (by omega) (by unfold Fit1 at fb;omega) DY
 obtain ⟨g00,g01,g02,g03,g10,g11,g12,g13,g20,g21,g22,g23,g30,g31,g32,g33,r00,r01,r02,r03,r10,r11,r12,r13,r20,r21,r22,r23,r30,r31,r32,r33,c00,c01,c02,c03,c10,c11,c12,c13,c20,c21,c22,c23,c30,c31,c32,c33,H00,H01,H02,H03,H10,H11,H12,H13,H20,H21,H22,H23,H30,H31,H32,H33,DR⟩:=mul_ex a0 a1 a2 a3 b0 b1 b2 b3 ex ey
 have bk:=fun s w=>back_tells s ((a.natAbs:Int)*(b.natAbs:Int)) r00 r10 r20 r30 r31 r32 r33 c33 w DR
 obtain ⟨sa,hsa⟩:∃ s,decide (a<0)=s:=⟨_,rfl⟩
 obtain ⟨sb,hsb⟩:∃ s,decide (b<0)=s:=⟨_,rfl⟩
 obtain ⟨so,hso⟩:∃ s,(!(sa==sb))=s:=⟨_,rfl⟩
 have sp:=sgn_prod a b so (by rw [hsa,hsb];exact hso)
 have key:∀ h' l' (is:Bool),((is=true∧Res (sgn so ((a.natAbs:Int)*(b.natAbs:Int))) h' l' 0)∨(is=false∧¬ Fits (sgn so ((a.natAbs:Int)*(b.natAbs:Int)))))→h=h'∧l=l':=by
  intro h' l' is r
  rw [sp] at r
  rcases r with ⟨_,r⟩|⟨_,r⟩
  ·have:=res_unique (Or.inl ⟨rfl,hn,bd⟩) r
   exact ⟨this.1,this.2.1⟩
  ·exact absurd (hn ▸ bd_fits bd) r
 replace key:=Lib.hid key
 clear ex ey DX DY DR sp hn bd fa fb a0 a1 a2 a3 b0 b1 b2 b3
 generalize (a.natAbs:Int)=x at *
 generalize (b.natAbs:Int)=y at *
 go_enter Tryz.func77,Tryz.ntmps77
 go_wp2_with fail
 refine (ca _).mono ?_
 rintro e w' ⟨rfl,rfl⟩
 go_wp2_with fail
 refine (pa _ _).mono ?_
 rintro e w' ⟨rfl,rfl⟩
 go_wp2_with fail
 refine (cb _).mono ?_
 rintro e w' ⟨rfl,rfl⟩
 go_wp2_with fail
 refine (pb _ _).mono ?_
 rintro e w' ⟨rfl,rfl⟩
 clear ca cb pa pb
 go_wp2
 refine wp_loop_rounds 5 ?_
 rw [rounds_succ]
 go_wp2
 refine wp_loop_rounds 5 ?_
 obtain ⟨t,h0,h1,h2,h3,h4,h5,h6,h7,h8,h9,h10,h11⟩:=pk0 H00.out
 rw [rounds_succ]
 go_wp2
 go_quiet (fail)
 go_wp2
 clear h0 h1 h2 h3 h4 h5 h6 h7 h8 h9 h10 h11 H00
 obtain ⟨s,t,h0,h1,h2,h3,h4,h5,h6,h7,h8,h9,h10,h11,h12,h13⟩:=pkm H01.out
 rw [rounds_succ]
 go_wp2
 go_quiet (fail)
 go_wp2
 clear h0 h1 h2 h3 h4 h5 h6 h7 h8 h9 h10 h11 h12 h13 H01
 obtain ⟨s,t,h0,h1,h2,h3,h4,h5,h6,h7,h8,h9,h10,h11,h12,h13⟩:=pkm H02.out
 rw [rounds_succ]
 go_wp2
 go_quiet (fail)
 go_wp2
 clear h0 h1 h2 h3 h4 h5 h6 h7 h8 h9 h10 h11 h12 h13 H02
 obtain ⟨s,t,h0,h1,h2,h3,h4,h5,h6,h7,h8,h9,h10,h11,h12,h13⟩:=pkm H03.out
 rw [rounds_succ]
 go_wp2
 go_quiet (fail)
 go_wp2
 rw [rounds_succ]
 go_wp2
 clear h0 h1 h2 h3 h4 h5 h6 h7 h8 h9 h10 h11 h12 h13 H03
 rw [rounds_succ]
 go_wp2
 refine wp_loop_rounds 5 ?_
 obtain ⟨s,t,h0,h1,h2,h3,h4,h5,h6,h7,h8,h9,h10,h11,h12,h13⟩:=pkm H10.out
 rw [rounds_succ]
 go_wp2
 go_quiet (fail)
 go_wp2
 clear h0 h1 h2 h3 h4 h5 h6 h7 h8 h9 h10 h11 h12 h13 H10
 obtain ⟨u,s,t,h0,h1,h2,h3,h4,h5,h6,h7,h8,h9,h10,h11,h12,h13⟩:=pko H11.out
 rw [rounds_succ]
 go_wp2
 go_quiet (fail)
 go_wp2
 clear h0 h1 h2 h3 h4 h5 h6 h7 h8 h9 h10 h11 h12 h13 H11
 obtain ⟨u,s,t,h0,h1,h2,h3,h4,h5,h6,h7,h8,h9,h10,h11,h12,h13⟩:=pko H12.out
 rw [rounds_succ]
 go_wp2
 go_quiet (fail)
 go_wp2
 clear h0 h1 h2 h3 h4 h5 h6 h7 h8 h9 h10 h11 h12 h13 H12
 obtain ⟨u,s,t,h0,h1,h2,h3,h4,h5,h6,h7,h8,h9,h10,h11,h12,h13⟩:=pko H13.out
 rw [rounds_succ]
 go_wp2
 go_quiet (fail)
 go_wp2
 rw [rounds_succ]
 go_wp2
 clear h0 h1 h2 h3 h4 h5 h6 h7 h8 h9 h10 h11 h12 h13 H13
 rw [rounds_succ]
 go_wp2
 refine wp_loop_rounds 5 ?_
 obtain ⟨s,t,h0,h1,h2,h3,h4,h5,h6,h7,h8,h9,h10,h11,h12,h13⟩:=pkm H20.out
 rw [rounds_succ]
 go_wp2
 go_quiet (fail)
 go_wp2
 clear h0 h1 h2 h3 h4 h5 h6 h7 h8 h9 h10 h11 h12 h13 H20
 obtain ⟨u,s,t,h0,h1,h2,h3,h4,h5,h6,h7,h8,h9,h10,h11,h12,h13⟩:=pko H21.out
 rw [rounds_succ]
 go_wp2
 go_quiet (fail)
 go_wp2
 clear h0 h1 h2 h3 h4 h5 h6 h7 h8 h9 h10 h11 h12 h13 H21
 obtain ⟨u,s,t,h0,h1,h2,h3,h4,h5,h6,h7,h8,h9,h10,h11,h12,h13⟩:=pko H22.out
 rw [rounds_succ]
 go_wp2
 go_quiet (fail)
 go_wp2
 clear h0 h1 h2 h3 h4 h5 h6 h7 h8 h9 h10 h11 h12 h13 H22
 obtain ⟨u,s,t,h0,h1,h2,h3,h4,h5,h6,h7,h8,h9,h10,h11,h12,h13⟩:=pko H23.out
 rw [rounds_succ]
 go_wp2
 go_quiet (fail)
 go_wp2
 rw [rounds_succ]
 go_wp2
 clear h0 h1 h2 h3 h4 h5 h6 h7 h8 h9 h10 h11 h12 h13 H23
 rw [rounds_succ]
 go_wp2
 refine wp_loop_rounds 5 ?_
 obtain ⟨s,t,h0,h1,h2,h3,h4,h5,h6,h7,h8,h9,h10,h11,h12,h13⟩:=pkm H30.out
 rw [rounds_succ]
 go_wp2
 go_quiet (fail)
 go_wp2
 clear h0 h1 h2 h3 h4 h5 h6 h7 h8 h9 h10 h11 h12 h13 H30
 obtain ⟨u,s,t,h0,h1,h2,h3,h4,h5,h6,h7,h8,h9,h10,h11,h12,h13⟩:=pko H31.out
 rw [rounds_succ]
 go_wp2
 go_quiet (fail)
 go_wp2
 clear h0 h1 h2 h3 h4 h5 h6 h7 h8 h9 h10 h11 h12 h13 H31
 obtain ⟨u,s,t,h0,h1,h2,h3,h4,h5,h6,h7,h8,h9,h10,h11,h12,h13⟩:=pko H32.out
 rw [rounds_succ]
 go_wp2
 go_quiet (fail)
 go_wp2
 clear h0 h1 h2 h3 h4 h5 h6 h7 h8 h9 h10 h11 h12 h13 H32
 obtain ⟨u,s,t,h0,h1,h2,h3,h4,h5,h6,h7,h8,h9,h10,h11,h12,h13⟩:=pko H33.out
 rw [rounds_succ]
 go_wp2
 go_quiet (fail)
 go_wp2
 rw [rounds_succ]
 go_wp2
 clear h0 h1 h2 h3 h4 h5 h6 h7 h8 h9 h10 h11 h12 h13 H33
 rw [rounds_succ]
 go_wp2_with fail
 refine (bk _ _).mono ?_
 rintro e w1 ⟨h',l',is,rfl,r,hb1⟩
 obtain ⟨rfl,rfl⟩:=key.out h' l' is r
 have z1:w.heap.size<w1.heap.size:=Nat.lt_of_lt_of_le (by simp<;>omega) hb1.size
 have k0:w1.cell? ⟨w.heap.size,0,none⟩=some (.int .i64 0):=(hb1.cell (p:=⟨w.heap.size,0,none⟩) (by simp<;>omega)).trans (by simp [go_sem])
 have f0:w1.frozen? ⟨w.heap.size,0,none⟩=false:=(hb1.frozen (p:=⟨w.heap.size,0,none⟩) (by simp<;>omega)).trans (by simp [go_sem])
 have k1:w1.cell? ⟨w.heap.size,1,none⟩=some (.int .u64 0):=(hb1.cell (p:=⟨w.heap.size,1,none⟩) (by simp<;>omega)).trans (by simp [go_sem])
 have f1:w1.frozen? ⟨w.heap.size,1,none⟩=false:=(hb1.frozen (p:=⟨w.heap.size,1,none⟩) (by simp<;>omega)).trans (by simp [go_sem])
 have B1:Below w.heap.size w w1:=Below.trans (by repeat (first|(with_reducible exact Below.refl _ _)|(with_reducible refine below_alloc (Nat.le_refl _) ?_ _)|(with_reducible refine below_drewN ?_ _)|(with_reducible refine Below.drew ?_))) (hb1.mono (by simp<;>omega))
 clear hb1 r key bk
 go_wp2
 refine bodyPost_ret (v:=.agg #[.int .i64 h,.int .u64 l]) (by simp [results,Tryz.results77,go_sem,k0,k1,z1]) rfl ⟨rfl,?_⟩
 repeat (first|(with_reducible exact B1)|(with_reducible refine below_alloc (Nat.le_refl _) ?_ _)|(with_reducible refine Below.setCell ?_ (by simp) _))

end Go.Proofs.YtoilomigceijaaaGreatDoor.Vr

namespace Go.Proofs.YtoilomigceijaaaGreatDoor.Vm
set_option maxHeartbeats 1000000
open Go.RowKit (wrap32 wrap64)

def PB (P B:Int):Prop:=(P=65536∧B=32768)∨(P=32768∧B=16384)∨(P=16384∧B=8192)∨(P=8192∧B=4096)∨(P=4096∧B=2048)∨(P=2048∧B=1024)∨(P=1024∧B=512)∨(P=512∧B=256)∨(P=256∧B=128)∨(P=128∧B=64)∨(P=64∧B=32)∨(P=32∧B=16)∨(P=16∧B=8)∨(P=8∧B=4)∨(P=4∧B=2)∨(P=2∧B=1)∨(P=1∧B=0)

def DJ (L b d P B u g:Int):Prop:=PB P B∧0≤u∧u<b∧0≤g∧(g+1)*P≤65536∧L*65536+d=(g*b+u)*P+d%P

theorem dj_start {L b d:Int}(h0:0≤L)(h1:L<b)(c:Dg d):DJ L b d 65536 32768 L 0:=by
 unfold Dg at c
 refine ⟨Or.inl ⟨rfl,rfl⟩,h0,h1,by omega,by omega,?_⟩
 rw [Int.zero_mul];omega

theorem dj_end {L b d P u g:Int}(h:DJ L b d P 0 u g):g*b+u=L*65536+d∧0≤u∧u<b:=by
 obtain ⟨p,h0,h1,h2,h3,h4⟩:=h
 have e:P=1:=by
  unfold PB at p
  rcases p with ⟨a,c⟩|⟨a,c⟩|⟨a,c⟩|⟨a,c⟩|⟨a,c⟩|⟨a,c⟩|⟨a,c⟩|⟨a,c⟩|⟨a,c⟩|⟨a,c⟩|⟨a,c⟩|⟨a,c⟩|⟨a,c⟩|⟨a,c⟩|⟨a,c⟩|⟨a,c⟩|⟨a,c⟩<;>first|(exact a)|(exfalso;omega)
 subst e
 exact ⟨by omega,h0,h1⟩

theorem dj_step {L b d P B u g:Int}(hB:0<B)(c:Dg d)(h:DJ L b d P B u g) :
  0≤u∧u<b∧0≤g∧g≤32767∧B≤32768∧∃ m t B':Int,d / B=m∧m%2=t∧0≤m∧m≤65535∧0≤t∧t≤1∧B / 2=B'∧0≤B'∧B'<B∧
   (b≤u*2+t→DJ L b d B B' (u*2+t - b) (g*2+1))∧(u*2+t<b→DJ L b d B B' (u*2+t) (g*2)):=by
 obtain ⟨p,h0,h1,h2,h3,h4⟩:=h
 have eq1:(g*2+1)*b=2*(g*b)+b:=by rw [Int.add_mul,Int.one_mul,Int.mul_right_comm,Int.mul_comm _ 2]
 have eq2:g*2*b=2*(g*b):=by rw [Int.mul_right_comm,Int.mul_comm _ 2]
 unfold Dg at c
 unfold DJ
 rw [eq1,eq2]
 clear eq1 eq2
 generalize g*b=G at *
 unfold PB at p
 rcases p with ⟨rfl,rfl⟩|⟨rfl,rfl⟩|⟨rfl,rfl⟩|⟨rfl,rfl⟩|⟨rfl,rfl⟩|⟨rfl,rfl⟩|⟨rfl,rfl⟩|⟨rfl,rfl⟩|⟨rfl,rfl⟩|⟨rfl,rfl⟩|⟨rfl,rfl⟩|⟨rfl,rfl⟩|⟨rfl,rfl⟩|⟨rfl,rfl⟩|⟨rfl,rfl⟩|⟨rfl,rfl⟩|⟨rfl,rfl⟩
 ·refine ⟨h0,h1,h2,by omega,by omega,d / 32768,d / 32768%2,16384,rfl,rfl,by omega,by omega,by omega,by omega,rfl,by omega,by omega,fun hc=>⟨Or.inr (Or.inl ⟨rfl,rfl⟩),by omega,by omega,by omega,by omega,by omega⟩,fun hc=>⟨Or.inr (Or.inl ⟨rfl,rfl⟩),by omega,by omega,by omega,by omega,by omega⟩⟩
 ·refine ⟨h0,h1,h2,by omega,by omega,d / 16384,d / 16384%2,8192,rfl,rfl,by omega,by omega,by omega,by omega,rfl,by omega,by omega,fun hc=>⟨Or.inr (Or.inr (Or.inl ⟨rfl,rfl⟩)),by omega,by omega,by omega,by omega,by omega⟩,fun hc=>⟨Or.inr (Or.inr (Or.inl ⟨rfl,rfl⟩)),by omega,by omega,by omega,by omega,by omega⟩⟩
 ·refine ⟨h0,h1,h2,by omega,by omega,d / 8192,d / 8192%2,4096,rfl,rfl,by omega,by omega,by omega,by omega,rfl,by omega,by omega,fun hc=>⟨Or.inr (Or.inr (Or.inr (Or.inl ⟨rfl,rfl⟩))),by omega,by omega,by omega,by omega,by omega⟩,fun hc=>⟨Or.inr (Or.inr (Or.inr (Or.inl ⟨rfl,rfl⟩))),by omega,by omega,by omega,by omega,by omega⟩⟩
 ·refine ⟨h0,h1,h2,by omega,by omega,d / 4096,d / 4096%2,2048,rfl,rfl,by omega,by omega,by omega,by omega,rfl,by omega,by omega,fun hc=>⟨Or.inr (Or.inr (Or.inr (Or.inr (Or.inl ⟨rfl,rfl⟩)))),by omega,by omega,by omega,by omega,by omega⟩,fun hc=>⟨Or.inr (Or.inr (Or.inr (Or.inr (Or.inl ⟨rfl,rfl⟩)))),by omega,by omega,by omega,by omega,by omega⟩⟩
 ·refine ⟨h0,h1,h2,by omega,by omega,d / 2048,d / 2048%2,1024,rfl,rfl,by omega,by omega,by omega,by omega,rfl,by omega,by omega,fun hc=>⟨Or.inr (Or.inr (Or.inr (Or.inr (Or.inr (Or.inl ⟨rfl,rfl⟩))))),by omega,by omega,by omega,by omega,by omega⟩,fun hc=>⟨Or.inr (Or.inr (Or.inr (Or.inr (Or.inr (Or.inl ⟨rfl,rfl⟩))))),by omega,by omega,by omega,by omega,by omega⟩⟩
 ·refine ⟨h0,h1,h2,by omega,by omega,d / 1024,d / 1024%2,512,rfl,rfl,by omega,by omega,by omega,by omega,rfl,by omega,by omega,fun hc=>⟨Or.inr (Or.inr (Or.inr (Or.inr (Or.inr (Or.inr (Or.inl ⟨rfl,rfl⟩)))))),by omega,by omega,by omega,by omega,by omega⟩,fun hc=>⟨Or.inr (Or.inr (Or.inr (Or.inr (Or.inr (Or.inr (Or.inl ⟨rfl,rfl⟩)))))),by omega,by omega,by omega,by omega,by omega⟩⟩
 ·refine ⟨h0,h1,h2,by omega,by omega,d / 512,d / 512%2,256,rfl,rfl,by omega,by omega,by omega,by omega,rfl,by omega,by omega,fun hc=>⟨Or.inr (Or.inr (Or.inr (Or.inr (Or.inr (Or.inr (Or.inr (Or.inl ⟨rfl,rfl⟩))))))),by omega,by omega,by omega,by omega,by omega⟩,fun hc=>⟨Or.inr (Or.inr (Or.inr (Or.inr (Or.inr (Or.inr (Or.inr (Or.inl ⟨rfl,rfl⟩))))))),by omega,by omega,by omega,by omega,by omega⟩⟩
 ·refine ⟨h0,h1,h2,by omega,by omega,d / 256,d / 256%2,128,rfl,rfl,by omega,by omega,by omega,by omega,rfl,by omega,by omega,fun hc=>⟨Or.inr (Or.inr (Or.inr (Or.inr (Or.inr (Or.inr (Or.inr (Or.inr (Or.inl ⟨rfl,rfl⟩)))))))),by omega,by omega,by omega,by omega,by omega⟩,fun hc=>⟨Or.inr (Or.inr (Or.inr (Or.inr (Or.inr (Or.inr (Or.inr (Or.inr (Or.inl ⟨rfl,rfl⟩)))))))),by omega,by omega,by omega,by omega,by omega⟩⟩
 ·refine ⟨h0,h1,h2,by omega,by omega,d / 128,d / 128%2,64,rfl,rfl,by omega,by omega,by omega,by omega,rfl,by omega,by omega,fun hc=>⟨Or.inr (Or.inr (Or.inr (Or.inr (Or.inr (Or.inr (Or.inr (Or.inr (Or.inr (Or.inl ⟨rfl,rfl⟩))))))))),by omega,by omega,by omega,by omega,by omega⟩,fun hc=>⟨Or.inr (Or.inr (Or.inr (Or.inr (Or.inr (Or.inr (Or.inr (Or.inr (Or.inr (Or.inl ⟨rfl,rfl⟩))))))))),by omega,by omega,by omega,by omega,by omega⟩⟩
 ·refine ⟨h0,h1,h2,by omega,by omega,d / 64,d / 64%2,32,rfl,rfl,by omega,by omega,by omega,by omega,rfl,by omega,by omega,fun hc=>⟨Or.inr (Or.inr (Or.inr (Or.inr (Or.inr (Or.inr (Or.inr (Or.inr (Or.inr (Or.inr (Or.inl ⟨rfl,rfl⟩)))))))))),by omega,by omega,by omega,by omega,by omega⟩,fun hc=>⟨Or.inr (Or.inr (Or.inr (Or.inr (Or.inr (Or.inr (Or.inr (Or.inr (Or.inr (Or.inr (Or.inl ⟨rfl,rfl⟩)))))))))),by omega,by omega,by omega,by omega,by omega⟩⟩
 ·refine ⟨h0,h1,h2,by omega,by omega,d / 32,d / 32%2,16,rfl,rfl,by omega,by omega,by omega,by omega,rfl,by omega,by omega,fun hc=>⟨Or.inr (Or.inr (Or.inr (Or.inr (Or.inr (Or.inr (Or.inr (Or.inr (Or.inr (Or.inr (Or.inr (Or.inl ⟨rfl,rfl⟩))))))))))),by omega,by omega,by omega,by omega,by omega⟩,fun hc=>⟨Or.inr (Or.inr (Or.inr (Or.inr (Or.inr (Or.inr (Or.inr (Or.inr (Or.inr (Or.inr (Or.inr (Or.inl ⟨rfl,rfl⟩))))))))))),by omega,by omega,by omega,by omega,by omega⟩⟩
 ·refine ⟨h0,h1,h2,by omega,by omega,d / 16,d / 16%2,8,rfl,rfl,by omega,by omega,by omega,by omega,rfl,by omega,by omega,fun hc=>⟨Or.inr (Or.inr (Or.inr (Or.inr (Or.inr (Or.inr (Or.inr (Or.inr (Or.inr (Or.inr (Or.inr (Or.inr (Or.inl ⟨rfl,rfl⟩)))))))))))),by omega,by omega,by omega,by omega,by omega⟩,fun hc=>⟨Or.inr (Or.inr (Or.inr (Or.inr (Or.inr (Or.inr (Or.inr (Or.inr (Or.inr (Or.inr (Or.inr (Or.inr (Or.inl ⟨rfl,rfl⟩)))))))))))),by omega,by omega,by omega,by omega,by omega⟩⟩
 ·refine ⟨h0,h1,h2,by omega,by omega,d / 8,d / 8%2,4,rfl,rfl,by omega,by omega,by omega,by omega,rfl,by omega,by omega,fun hc=>⟨Or.inr (Or.inr (Or.inr (Or.inr (Or.inr (Or.inr (Or.inr (Or.inr (Or.inr (Or.inr (Or.inr (Or.inr (Or.inr (Or.inl ⟨rfl,rfl⟩))))))))))))),by omega,by omega,by omega,by omega,by omega⟩,fun hc=>⟨Or.inr (Or.inr (Or.inr (Or.inr (Or.inr (Or.inr (Or.inr (Or.inr (Or.inr (Or.inr (Or.inr (Or.inr (Or.inr (Or.inl ⟨rfl,rfl⟩))))))))))))),by omega,by omega,by omega,by omega,by omega⟩⟩
 ·refine ⟨h0,h1,h2,by omega,by omega,d / 4,d / 4%2,2,rfl,rfl,by omega,by omega,by omega,by omega,rfl,by omega,by omega,fun hc=>⟨Or.inr (Or.inr (Or.inr (Or.inr (Or.inr (Or.inr (Or.inr (Or.inr (Or.inr (Or.inr (Or.inr (Or.inr (Or.inr (Or.inr (Or.inl ⟨rfl,rfl⟩)))))))))))))),by omega,by omega,by omega,by omega,by omega⟩,fun hc=>⟨Or.inr (Or.inr (Or.inr (Or.inr (Or.inr (Or.inr (Or.inr (Or.inr (Or.inr (Or.inr (Or.inr (Or.inr (Or.inr (Or.inr (Or.inl ⟨rfl,rfl⟩)))))))))))))),by omega,by omega,by omega,by omega,by omega⟩⟩
 ·refine ⟨h0,h1,h2,by omega,by omega,d / 2,d / 2%2,1,rfl,rfl,by omega,by omega,by omega,by omega,rfl,by omega,by omega,fun hc=>⟨Or.inr (Or.inr (Or.inr (Or.inr (Or.inr (Or.inr (Or.inr (Or.inr (Or.inr (Or.inr (Or.inr (Or.inr (Or.inr (Or.inr (Or.inr (Or.inl ⟨rfl,rfl⟩))))))))))))))),by omega,by omega,by omega,by omega,by omega⟩,fun hc=>⟨Or.inr (Or.inr (Or.inr (Or.inr (Or.inr (Or.inr (Or.inr (Or.inr (Or.inr (Or.inr (Or.inr (Or.inr (Or.inr (Or.inr (Or.inr (Or.inl ⟨rfl,rfl⟩))))))))))))))),by omega,by omega,by omega,by omega,by omega⟩⟩
 ·refine ⟨h0,h1,h2,by omega,by omega,d / 1,d / 1%2,0,rfl,rfl,by omega,by omega,by omega,by omega,rfl,by omega,by omega,fun hc=>⟨Or.inr (Or.inr (Or.inr (Or.inr (Or.inr (Or.inr (Or.inr (Or.inr (Or.inr (Or.inr (Or.inr (Or.inr (Or.inr (Or.inr (Or.inr (Or.inr (⟨rfl,rfl⟩)))))))))))))))),by omega,by omega,by omega,by omega,by omega⟩,fun hc=>⟨Or.inr (Or.inr (Or.inr (Or.inr (Or.inr (Or.inr (Or.inr (Or.inr (Or.inr (Or.inr (Or.inr (Or.inr (Or.inr (Or.inr (Or.inr (Or.inr (⟨rfl,rfl⟩)))))))))))))))),by omega,by omega,by omega,by omega,by omega⟩⟩
 ·omega

theorem dq_ex {L b d:Int}(h0:0≤L)(h1:L<b)(c:Dg d):∃ q r:Int,q*b+r=L*65536+d∧0≤r∧r<b∧Dg q:=by
 unfold Dg at *
 refine ⟨(L*65536+d) / b,(L*65536+d)%b,by rw [Int.mul_comm];exact Int.mul_ediv_add_emod _ _,Int.emod_nonneg _ (by omega),Int.emod_lt_of_pos _ (by omega),Int.ediv_nonneg (by omega) (by omega),?_⟩
 have:(L*65536+d) / b<65536:=Int.ediv_lt_of_lt_mul (by omega) (by omega)
 omega

def Rnd (L b d q r:Int):Prop:=0≤L∧L<b∧Dg d∧q*b+r=L*65536+d∧0≤r∧r<b∧Dg q

theorem div_ex {x b d0 d1 d2 d3 d4 d5 d6 d7:Int}(hb:0<b)(D:D8 x d0 d1 d2 d3 d4 d5 d6 d7) :
  ∃ q0 q1 q2 q3 q4 q5 q6 q7 r0 r1 r2 r3 r4 r5 r6 r7 Q:Int,Rnd 0 b d7 q7 r7∧Rnd r7 b d6 q6 r6∧Rnd r6 b d5 q5 r5∧Rnd r5 b d4 q4 r4∧Rnd r4 b d3 q3 r3∧Rnd r3 b d2 q2 r2∧Rnd r2 b d1 q1 r1∧Rnd r1 b d0 q0 r0∧D8 Q q0 q1 q2 q3 q4 q5 q6 q7∧Q*b+r0=x:=by
 obtain ⟨c0,c1,c2,c3,c4,c5,c6,c7,e⟩:=D
 obtain ⟨q7,r7,e7,l7,u7,g7⟩:=dq_ex (L:=0) (Int.le_refl _) hb c7
 obtain ⟨q6,r6,e6,l6,u6,g6⟩:=dq_ex l7 u7 c6
 obtain ⟨q5,r5,e5,l5,u5,g5⟩:=dq_ex l6 u6 c5
 obtain ⟨q4,r4,e4,l4,u4,g4⟩:=dq_ex l5 u5 c4
 obtain ⟨q3,r3,e3,l3,u3,g3⟩:=dq_ex l4 u4 c3
 obtain ⟨q2,r2,e2,l2,u2,g2⟩:=dq_ex l3 u3 c2
 obtain ⟨q1,r1,e1,l1,u1,g1⟩:=dq_ex l2 u2 c1
 obtain ⟨q0,r0,e0,l0,u0,g0⟩:=dq_ex l1 u1 c0
 refine ⟨q0,q1,q2,q3,q4,q5,q6,q7,r0,r1,r2,r3,r4,r5,r6,r7,q0+q1*65536+q2*4294967296+q3*281474976710656+q4*18446744073709551616+q5*1208925819614629174706176+q6*79228162514264337593543950336+q7*5192296858534827628530496329220096,⟨Int.le_refl _,hb,c7,e7,l7,u7,g7⟩,⟨l7,u7,c6,e6,l6,u6,g6⟩,⟨l6,u6,c5,e5,l5,u5,g5⟩,⟨l5,u5,c4,e4,l4,u4,g4⟩,⟨l4,u4,c3,e3,l3,u3,g3⟩,⟨l3,u3,c2,e2,l2,u2,g2⟩,⟨l2,u2,c1,e1,l1,u1,g1⟩,⟨l1,u1,c0,e0,l0,u0,g0⟩,⟨g0,g1,g2,g3,g4,g5,g6,g7,rfl⟩,?_⟩
 have ex:(q0+q1*65536+q2*4294967296+q3*281474976710656+q4*18446744073709551616+q5*1208925819614629174706176+q6*79228162514264337593543950336+q7*5192296858534827628530496329220096)*b=q0*b+q1*b*65536+q2*b*4294967296+q3*b*281474976710656+q4*b*18446744073709551616+q5*b*1208925819614629174706176+q6*b*79228162514264337593543950336+q7*b*5192296858534827628530496329220096:=by
  simp only [Int.add_mul,Int.mul_right_comm]
 rw [ex]
 clear ex l0 u0 g0 c0 l1 u1 g1 c1 l2 u2 g2 c2 l3 u3 g3 c3 l4 u4 g4 c4 l5 u5 g5 c5 l6 u6 g6 c6 l7 u7 g7 c7
 generalize q0*b=p0 at *
 generalize q1*b=p1 at *
 generalize q2*b=p2 at *
 generalize q3*b=p3 at *
 generalize q4*b=p4 at *
 generalize q5*b=p5 at *
 generalize q6*b=p6 at *
 generalize q7*b=p7 at *
 omega

end Go.Proofs.YtoilomigceijaaaGreatDoor.Vm

namespace Go.Proofs.YtoilomigceijaaaGreatDoor.Vr
open Go.RowKit Vm Vc Vl
attribute [local go_sem] alloc_drewN setCell_drewN

set_option maxHeartbeats 20000000

theorem rDiv_pos (h1 l1 b:Int)(s:Bool)(x:Int)(w:World)(b1:Bd h1 l1)(hp:0<b)(hb:b≤9223372036854775807)(hs:decide (h1<0)=s)(hx:((num h1 l1).natAbs:Int)=x) :
  Calls Tryz.prog 39 #[.agg #[.int .i64 h1,.int .u64 l1],.int .i64 b] w fun e w'=>∃ h l r:Int,e= .returned (.tuple #[.agg #[.int .i64 h,.int .u64 l],.int .i64 r,.int .i64 0])∧Bd h l∧num h l*b+r=num h1 l1∧0≤r∧r<b∧Below w.heap.size w w':=by
 obtain ⟨n0,n1,n2⟩:=num_abs h1 l1 b1
 obtain ⟨d0,d1,d2,d3,d4,d5,d6,d7,D⟩:=d8_ex n0 n1
 have co:=fun w=>of_at h1 l1 d0 d1 d2 d3 d4 d5 d6 d7 w b1 D
 obtain ⟨q0,q1,q2,q3,q4,q5,q6,q7,r0,r1,r2,r3,r4,r5,r6,r7,Q,H7,H6,H5,H4,H3,H2,H1,H0,DQ,EQ⟩:=div_ex hp D
 rw [hs] at co n2
 replace H0:=Lib.hid H0
 replace H1:=Lib.hid H1
 replace H2:=Lib.hid H2
 replace H3:=Lib.hid H3
 replace H4:=Lib.hid H4
 replace H5:=Lib.hid H5
 replace H6:=Lib.hid H6
 replace H7:=Lib.hid H7
 have keyA:∀ (h l:Int) (is:Bool),(s=true→r0=0)→((is=true∧Res (sgn s Q) h l 0)∨(is=false∧¬ Fits (sgn s Q)))→Bd h l∧num h l*b+r0=num h1 l1:=by
  intro h l is hz r
  have f0:=bd_fits b1
  have hQ:=(d8_bd DQ).1
  have hQb:Q*1≤Q*b:=Int.mul_le_mul_of_nonneg_left (by omega) hQ
  have r00:0≤r0:=H0.2.2.2.2.1
  have fit:Fits (sgn s Q):=by
   unfold Fits at *
   rw [← n2] at f0
   unfold sgn at *
   cases s<;>simp at *<;>omega
  rcases r with ⟨_,⟨_,hn,bd⟩|⟨h0,_⟩⟩|⟨_,nf⟩
  ·refine ⟨bd,?_⟩
   rw [hn,← n2,← EQ]
   unfold sgn
   cases s
   ·simp
   ·have:=hz rfl
    subst this
    simp [Int.neg_mul]
  ·omega
  ·exact absurd fit nf
 have keyB:s=true→0<r0→∀ (v:Bool) (z h l:Int) (is ok:Bool),((ok=true∧sgn v z=sgn true Q+sgn true 1)∨(ok=false∧true=true∧340282366920938463463374607431768211456≤Q+1))→((is=true∧Res (sgn v z) h l 0)∨(is=false∧¬ Fits (sgn v z)))→Bd h l∧num h l*b+(b - r0)=num h1 l1:=by
  intro hs' hr v z h l is ok hv r
  have f0:=bd_fits b1
  have hQ:=(d8_bd DQ).1
  have hQb:Q*1≤Q*b:=Int.mul_le_mul_of_nonneg_left (by omega) hQ
  subst hs'
  rcases hv with ⟨_,hv⟩|⟨_,_,hv⟩
  ·have e1:sgn true Q+sgn true 1= -(Q+1):=by unfold sgn;simp;omega
   have e2:sgn true ((num h1 l1).natAbs:Int)= -((num h1 l1).natAbs:Int):=by unfold sgn;simp
   rw [e1] at hv
   rw [e2] at n2
   rw [hv] at r
   have fit:Fits (-(Q+1)):=by
    unfold Fits at *
    omega
   rcases r with ⟨_,⟨_,hn,bd⟩|⟨h0,_⟩⟩|⟨_,nf⟩
   ·refine ⟨bd,?_⟩
    have e3: -(Q+1)*b= -(Q*b) - b:=by rw [Int.neg_mul,Int.add_mul,Int.one_mul];omega
    rw [hn,e3]
    omega
   ·omega
   ·exact absurd fit nf
  ·exfalso
   unfold Fits at f0
   omega
 have bkA:=fun w=>back_tells s Q q0 q1 q2 q3 q4 q5 q6 q7 w DQ
 have pt:=fun w=>plus_tells true true Q 1 q0 q1 q2 q3 q4 q5 q6 q7 1 0 0 0 0 0 0 0 w DQ (by unfold D8 Dg;omega)
 have pp:=fun w=>put_at true 0 1 1 0 0 0 0 0 0 0 w (by omega) (by omega) (by omega) (by omega) (by unfold D8 Dg num;omega)
 have rb:0≤r0∧r0<b:=⟨H0.2.2.2.2.1,H0.2.2.2.2.2.1⟩
 replace rb:=Lib.hid rb
 replace keyA:=Lib.hid keyA
 replace keyB:=Lib.hid keyB
 replace DQ:=Lib.hid DQ
 replace EQ:=Lib.hid EQ
 replace n2:=Lib.hid n2
 have NX:=Lib.hid (And.intro n0 n1)
 replace b1:=Lib.hid b1
 have d1':(b==0)=false:=beq_eq_false_iff_ne.2 (by omega)
 have d2':decide (b<0)=false:=decide_eq_false (by omega)
 clear D n0 n1 hs hx
 go_enter Tryz.func39,Tryz.ntmps39
 go_wp2_with fail
 refine (co _).mono ?_
 rintro e w' ⟨rfl,rfl⟩
 clear co
 go_wp2
 refine wp_loop_rounds 9 ?_
 have HH:=H7.out
 unfold Rnd at HH
 obtain ⟨z1,z2,z3,z4,z5,z6,z7⟩:=HH
 have st:=dj_start z1 z2 z3
 replace z3:=Lib.hid z3
 replace z4:=Lib.hid z4
 replace z7:=Lib.hid z7
 clear H7
 rw [rounds_succ]
 go_wp2
 go_loop [8,10,11] (fun x8 x10 x11=>∃ (P B u g:Int),x8= .int .u64 u∧x10= .int .u64 g∧x11= .int .u64 B∧0≤B∧DJ 0 b d7 P B u g) (fun _ _ x11=>(intOf x11).toNat)
 case atStart=>exact ⟨65536,32768,0,0,rfl,rfl,rfl,by omega,st⟩
 case round =>
  obtain ⟨P,B,u,g,rfl,rfl,rfl,hB,hd⟩:=hrel
  by_cases hlt:0<B
  ·obtain ⟨b1,b2,b3,b4,b5,m,t,B',e1,e2,b6,b7,b8,b9,e3,b10,b11,n1,n2'⟩:=dj_step hlt z3.out hd
   have e1t:d7.tdiv B=m:=by rw [Int.tdiv_eq_ediv_of_nonneg (by have:=z3.out;unfold Dg at this;omega)];exact e1
   have e2t:m.tmod 2=t:=by rw [Int.tmod_eq_emod_of_nonneg b6];exact e2
   have e3t:B.tdiv 2=B':=by rw [Int.tdiv_eq_ediv_of_nonneg hB];exact e3
   clear st hd
   by_cases c:b≤u*2+t
   ·have N:=Lib.hid (n1 c)
    clear n1 n2'
    go_wp2
    go_round
    case rel=>exact ⟨B,B',_,_,by go_num,by go_num,by go_num,b10,N.out⟩
    case measure=>simp [intOf];omega
   ·have N:=Lib.hid (n2' (by omega))
    clear n1 n2'
    go_wp2
    go_round
    case rel=>exact ⟨B,B',_,_,by go_num,by go_num,by go_num,b10,N.out⟩
    case measure=>simp [intOf];omega
  ·obtain rfl:B=0:=by omega
   obtain ⟨f1,f2,f3⟩:=dj_end hd
   obtain ⟨rfl,rfl⟩:=div_same (z4.out.trans f1.symm) z5 z6 f2 f3
   have HQ:=z7.out
   unfold Dg at HQ
   obtain ⟨v1,v2⟩:=HQ
   clear f1 f2 f3 st hd hB hlt z1 z2 z3 z4 z7
   go_wp2
   clear v1 v2
   have HH:=H6.out
   unfold Rnd at HH
   obtain ⟨z1,z2,z3,z4,z5,z6,z7⟩:=HH
   have st:=dj_start z1 z2 z3
   replace z3:=Lib.hid z3
   replace z4:=Lib.hid z4
   replace z7:=Lib.hid z7
   clear H6
   rw [rounds_succ]
   go_wp2
   go_loop [8,10,11] (fun x8 x10 x11=>∃ (P B u g:Int),x8= .int .u64 u∧x10= .int .u64 g∧x11= .int .u64 B∧0≤B∧DJ r7 b d6 P B u g) (fun _ _ x11=>(intOf x11).toNat)
   case atStart=>exact ⟨65536,32768,r7,0,rfl,rfl,rfl,by omega,st⟩
   case round =>
    obtain ⟨P,B,u,g,rfl,rfl,rfl,hB,hd⟩:=hrel
    by_cases hlt:0<B
    ·obtain ⟨b1,b2,b3,b4,b5,m,t,B',e1,e2,b6,b7,b8,b9,e3,b10,b11,n1,n2'⟩:=dj_step hlt z3.out hd
     have e1t:d6.tdiv B=m:=by rw [Int.tdiv_eq_ediv_of_nonneg (by have:=z3.out;unfold Dg at this;omega)];exact e1
     have e2t:m.tmod 2=t:=by rw [Int.tmod_eq_emod_of_nonneg b6];exact e2
     have e3t:B.tdiv 2=B':=by rw [Int.tdiv_eq_ediv_of_nonneg hB];exact e3
     clear st hd
     by_cases c:b≤u*2+t
     ·have N:=Lib.hid (n1 c)
      clear n1 n2'
      go_wp2
      go_round
      case rel=>exact ⟨B,B',_,_,by go_num,by go_num,by go_num,b10,N.out⟩
      case measure=>simp [intOf];omega
     ·have N:=Lib.hid (n2' (by omega))
      clear n1 n2'
      go_wp2
      go_round
      case rel=>exact ⟨B,B',_,_,by go_num,by go_num,by go_num,b10,N.out⟩
      case measure=>simp [intOf];omega
    ·obtain rfl:B=0:=by omega
     obtain ⟨f1,f2,f3⟩:=dj_end hd
     obtain ⟨rfl,rfl⟩:=div_same (z4.out.trans f1.symm) z5 z6 f2 f3
     have HQ:=z7.out
     unfold Dg at HQ
     obtain ⟨v1,v2⟩:=HQ
     clear f1 f2 f3 st hd hB hlt z1 z2 z3 z4 z7
     go_wp2
     clear v1 v2
     have HH:=H5.out
     unfold Rnd at HH
     obtain ⟨z1,z2,z3,z4,z5,z6,z7⟩:=HH
     have st:=dj_start z1 z2 z3
     replace z3:=Lib.hid z3
     replace z4:=Lib.hid z4
     replace z7:=Lib.hid z7
     clear H5
     rw [rounds_succ]
     go_wp2
     go_loop [8,10,11] (fun x8 x10 x11=>∃ (P B u g:Int),x8= .int .u64 u∧x10= .int .u64 g∧x11= .int .u64 B∧0≤B∧DJ r6 b d5 P B u g) (fun _ _ x11=>(intOf x11).toNat)
     case atStart=>exact ⟨65536,32768,r6,0,rfl,rfl,rfl,by omega,st⟩
     case round =>
      obtain ⟨P,B,u,g,rfl,rfl,rfl,hB,hd⟩:=hrel
      by_cases hlt:0<B
      ·obtain ⟨b1,b2,b3,b4,b5,m,t,B',e1,e2,b6,b7,b8,b9,e3,b10,b11,n1,n2'⟩:=dj_step hlt z3.out hd
       have e1t:d5.tdiv B=m:=by rw [Int.tdiv_eq_ediv_of_nonneg (by have:=z3.out;unfold Dg at this;omega)];exact e1
       have e2t:m.tmod 2=t:=by rw [Int.tmod_eq_emod_of_nonneg b6];exact e2
       have e3t:B.tdiv 2=B':=by rw [Int.tdiv_eq_ediv_of_nonneg hB];exact e3
       clear st hd
       by_cases c:b≤u*2+t
       ·have N:=Lib.hid (n1 c)
        clear n1 n2'
        go_wp2
        go_round
        case rel=>exact ⟨B,B',_,_,by go_num,by go_num,by go_num,b10,N.out⟩
        case measure=>simp [intOf];omega
       ·have N:=Lib.hid (n2' (by omega))
        clear n1 n2'
        go_wp2
        go_round
        case rel=>exact ⟨B,B',_,_,by go_num,by go_num,by go_num,b10,N.out⟩
        case measure=>simp [intOf];omega
      ·obtain rfl:B=0:=by omega
       obtain ⟨f1,f2,f3⟩:=dj_end hd
       obtain ⟨rfl,rfl⟩:=div_same (z4.out.trans f1.symm) z5 z6 f2 f3
       have HQ:=z7.out
       unfold Dg at HQ
       obtain ⟨v1,v2⟩:=HQ
       clear f1 f2 f3 st hd hB hlt z1 z2 z3 z4 z7
       go_wp2
       clear v1 v2
       have HH:=H4.out
       unfold Rnd at HH
       obtain ⟨z1,z2,z3,z4,z5,z6,z7⟩:=HH
       have st:=dj_start z1 z2 z3
       replace z3:=Lib.hid z3
       replace z4:=Lib.hid z4
       replace z7:=Lib.hid z7
       clear H4
       rw [rounds_succ]
       go_wp2
       go_loop [8,10,11] (fun x8 x10 x11=>∃ (P B u g:Int),x8= .int .u64 u∧x10= .int .u64 g∧x11= .int .u64 B∧0≤B∧DJ r5 b d4 P B u g) (fun _ _ x11=>(intOf x11).toNat)
       case atStart=>exact ⟨65536,32768,r5,0,rfl,rfl,rfl,by omega,st⟩
       case round =>
        obtain ⟨P,B,u,g,rfl,rfl,rfl,hB,hd⟩:=hrel
        by_cases hlt:0<B
        ·obtain ⟨b1,b2,b3,b4,b5,m,t,B',e1,e2,b6,b7,b8,b9,e3,b10,b11,n1,n2'⟩:=dj_step hlt z3.out hd
         have e1t:d4.tdiv B=m:=by rw [Int.tdiv_eq_ediv_of_nonneg (by have:=z3.out;unfold Dg at this;omega)];exact e1
         have e2t:m.tmod 2=t:=by rw [Int.tmod_eq_emod_of_nonneg b6];exact e2
         have e3t:B.tdiv 2=B':=by rw [Int.tdiv_eq_ediv_of_nonneg hB];exact e3
         clear st hd
         by_cases c:b≤u*2+t
         ·have N:=Lib.hid (n1 c)
          clear n1 n2'
          go_wp2
          go_round
          case rel=>exact ⟨B,B',_,_,by go_num,by go_num,by go_num,b10,N.out⟩
          case measure=>simp [intOf];omega
         ·have N:=Lib.hid (n2' (by omega))
          clear n1 n2'
          go_wp2
          go_round
          case rel=>exact ⟨B,B',_,_,by go_num,by go_num,by go_num,b10,N.out⟩
          case measure=>simp [intOf];omega
        ·obtain rfl:B=0:=by omega
         obtain ⟨f1,f2,f3⟩:=dj_end hd
         obtain ⟨rfl,rfl⟩:=div_same (z4.out.trans f1.symm) z5 z6 f2 f3
         have HQ:=z7.out
         unfold Dg at HQ
         obtain ⟨v1,v2⟩:=HQ
         clear f1 f2 f3 st hd hB hlt z1 z2 z3 z4 z7
         go_wp2
         clear v1 v2
         have HH:=H3.out
         unfold Rnd at HH
         obtain ⟨z1,z2,z3,z4,z5,z6,z7⟩:=HH
         have st:=dj_start z1 z2 z3
         replace z3:=Lib.hid z3
         replace z4:=Lib.hid z4
         replace z7:=Lib.hid z7
         clear H3
         rw [rounds_succ]
         go_wp2
         go_loop [8,10,11] (fun x8 x10 x11=>∃ (P B u g:Int),x8= .int .u64 u∧x10= .int .u64 g∧x11= .int .u64 B∧0≤B∧DJ r4 b d3 P B u g) (fun _ _ x11=>(intOf x11).toNat)
         case atStart=>exact ⟨65536,32768,r4,0,rfl,rfl,rfl,by omega,st⟩
         case round =>
          obtain ⟨P,B,u,g,rfl,rfl,rfl,hB,hd⟩:=hrel
          by_cases hlt:0<B
          ·obtain ⟨b1,b2,b3,b4,b5,m,t,B',e1,e2,b6,b7,b8,b9,e3,b10,b11,n1,n2'⟩:=dj_step hlt z3.out hd
           have e1t:d3.tdiv B=m:=by rw [Int.tdiv_eq_ediv_of_nonneg (by have:=z3.out;unfold Dg at this;omega)];exact e1
           have e2t:m.tmod 2=t:=by rw [Int.tmod_eq_emod_of_nonneg b6];exact e2
           have e3t:B.tdiv 2=B':=by rw [Int.tdiv_eq_ediv_of_nonneg hB];exact e3
           clear st hd
           by_cases c:b≤u*2+t
           ·have N:=Lib.hid (n1 c)
            clear n1 n2'
            go_wp2
            go_round
            case rel=>exact ⟨B,B',_,_,by go_num,by go_num,by go_num,b10,N.out⟩
            case measure=>simp [intOf];omega
           ·have N:=Lib.hid (n2' (by omega))
            clear n1 n2'
            go_wp2
            go_round
            case rel=>exact ⟨B,B',_,_,by go_num,by go_num,by go_num,b10,N.out⟩
            case measure=>simp [intOf];omega
          ·obtain rfl:B=0:=by omega
           obtain ⟨f1,f2,f3⟩:=dj_end hd
           obtain ⟨rfl,rfl⟩:=div_same (z4.out.trans f1.symm) z5 z6 f2 f3
           have HQ:=z7.out
           unfold Dg at HQ
           obtain ⟨v1,v2⟩:=HQ
           clear f1 f2 f3 st hd hB hlt z1 z2 z3 z4 z7
           go_wp2
           clear v1 v2
           have HH:=H2.out
           unfold Rnd at HH
           obtain ⟨z1,z2,z3,z4,z5,z6,z7⟩:=HH
           have st:=dj_start z1 z2 z3
           replace z3:=Lib.hid z3
           replace z4:=Lib.hid z4
           replace z7:=Lib.hid z7
           clear H2
           rw [rounds_succ]
           go_wp2
           go_loop [8,10,11] (fun x8 x10 x11=>∃ (P B u g:Int),x8= .int .u64 u∧x10= .int .u64 g∧x11= .int .u64 B∧0≤B∧DJ r3 b d2 P B u g) (fun _ _ x11=>(intOf x11).toNat)
           case atStart=>exact ⟨65536,32768,r3,0,rfl,rfl,rfl,by omega,st⟩
           case round =>
            obtain ⟨P,B,u,g,rfl,rfl,rfl,hB,hd⟩:=hrel
            by_cases hlt:0<B
            ·obtain ⟨b1,b2,b3,b4,b5,m,t,B',e1,e2,b6,b7,b8,b9,e3,b10,b11,n1,n2'⟩:=dj_step hlt z3.out hd
             have e1t:d2.tdiv B=m:=by rw [Int.tdiv_eq_ediv_of_nonneg (by have:=z3.out;unfold Dg at this;omega)];exact e1
             have e2t:m.tmod 2=t:=by rw [Int.tmod_eq_emod_of_nonneg b6];exact e2
             have e3t:B.tdiv 2=B':=by rw [Int.tdiv_eq_ediv_of_nonneg hB];exact e3
             clear st hd
             by_cases c:b≤u*2+t
             ·have N:=Lib.hid (n1 c)
              clear n1 n2'
              go_wp2
              go_round
              case rel=>exact ⟨B,B',_,_,by go_num,by go_num,by go_num,b10,N.out⟩
              case measure=>simp [intOf];omega
             ·have N:=Lib.hid (n2' (by omega))
              clear n1 n2'
              go_wp2
              go_round
              case rel=>exact ⟨B,B',_,_,by go_num,by go_num,by go_num,b10,N.out⟩
              case measure=>simp [intOf];omega
            ·obtain rfl:B=0:=by omega
             obtain ⟨f1,f2,f3⟩:=dj_end hd
             obtain ⟨rfl,rfl⟩:=div_same (z4.out.trans f1.symm) z5 z6 f2 f3
             have HQ:=z7.out
             unfold Dg at HQ
             obtain ⟨v1,v2⟩:=HQ
             clear f1 f2 f3 st hd hB hlt z1 z2 z3 z4 z7
             go_wp2
             clear v1 v2
             have HH:=H1.out
             unfold Rnd at HH
             obtain ⟨z1,z2,z3,z4,z5,z6,z7⟩:=HH
             have st:=dj_start z1 z2 z3
             replace z3:=Lib.hid z3
             replace z4:=Lib.hid z4
             replace z7:=Lib.hid z7
             clear H1
             rw [rounds_succ]
             go_wp2
             go_loop [8,10,11] (fun x8 x10 x11=>∃ (P B u g:Int),x8= .int .u64 u∧x10= .int .u64 g∧x11= .int .u64 B∧0≤B∧DJ r2 b d1 P B u g) (fun _ _ x11=>(intOf x11).toNat)
             case atStart=>exact ⟨65536,32768,r2,0,rfl,rfl,rfl,by omega,st⟩
             case round =>
              obtain ⟨P,B,u,g,rfl,rfl,rfl,hB,hd⟩:=hrel
              by_cases hlt:0<B
              ·obtain ⟨b1,b2,b3,b4,b5,m,t,B',e1,e2,b6,b7,b8,b9,e3,b10,b11,n1,n2'⟩:=dj_step hlt z3.out hd
               have e1t:d1.tdiv B=m:=by rw [Int.tdiv_eq_ediv_of_nonneg (by have:=z3.out;unfold Dg at this;omega)];exact e1
               have e2t:m.tmod 2=t:=by rw [Int.tmod_eq_emod_of_nonneg b6];exact e2
               have e3t:B.tdiv 2=B':=by rw [Int.tdiv_eq_ediv_of_nonneg hB];exact e3
               clear st hd
               by_cases c:b≤u*2+t
               ·have N:=Lib.hid (n1 c)
                clear n1 n2'
                go_wp2
                go_round
                case rel=>exact ⟨B,B',_,_,by go_num,by go_num,by go_num,b10,N.out⟩
                case measure=>simp [intOf];omega
               ·have N:=Lib.hid (n2' (by omega))
                clear n1 n2'
                go_wp2
                go_round
                case rel=>exact ⟨B,B',_,_,by go_num,by go_num,by go_num,b10,N.out⟩
                case measure=>simp [intOf];omega
              ·obtain rfl:B=0:=by omega
               obtain ⟨f1,f2,f3⟩:=dj_end hd
               obtain ⟨rfl,rfl⟩:=div_same (z4.out.trans f1.symm) z5 z6 f2 f3
               have HQ:=z7.out
               unfold Dg at HQ
               obtain ⟨v1,v2⟩:=HQ
               clear f1 f2 f3 st hd hB hlt z1 z2 z3 z4 z7
               go_wp2
               clear v1 v2
               have HH:=H0.out
               unfold Rnd at HH
               obtain ⟨z1,z2,z3,z4,z5,z6,z7⟩:=HH
               have st:=dj_start z1 z2 z3
               replace z3:=Lib.hid z3
               replace z4:=Lib.hid z4
               replace z7:=Lib.hid z7
               clear H0
               rw [rounds_succ]
               go_wp2
               go_loop [8,10,11] (fun x8 x10 x11=>∃ (P B u g:Int),x8= .int .u64 u∧x10= .int .u64 g∧x11= .int .u64 B∧0≤B∧DJ r1 b d0 P B u g) (fun _ _ x11=>(intOf x11).toNat)
               case atStart=>exact ⟨65536,32768,r1,0,rfl,rfl,rfl,by omega,st⟩
               case round =>
                obtain ⟨P,B,u,g,rfl,rfl,rfl,hB,hd⟩:=hrel
                by_cases hlt:0<B
                ·obtain ⟨b1,b2,b3,b4,b5,m,t,B',e1,e2,b6,b7,b8,b9,e3,b10,b11,n1,n2'⟩:=dj_step hlt z3.out hd
                 have e1t:d0.tdiv B=m:=by rw [Int.tdiv_eq_ediv_of_nonneg (by have:=z3.out;unfold Dg at this;omega)];exact e1
                 have e2t:m.tmod 2=t:=by rw [Int.tmod_eq_emod_of_nonneg b6];exact e2
                 have e3t:B.tdiv 2=B':=by rw [Int.tdiv_eq_ediv_of_nonneg hB];exact e3
                 clear st hd
                 by_cases c:b≤u*2+t
                 ·have N:=Lib.hid (n1 c)
                  clear n1 n2'
                  go_wp2
                  go_round
                  case rel=>exact ⟨B,B',_,_,by go_num,by go_num,by go_num,b10,N.out⟩
                  case measure=>simp [intOf];omega
                 ·have N:=Lib.hid (n2' (by omega))
                  clear n1 n2'
                  go_wp2
                  go_round
                  case rel=>exact ⟨B,B',_,_,by go_num,by go_num,by go_num,b10,N.out⟩
                  case measure=>simp [intOf];omega
                ·obtain rfl:B=0:=by omega
                 obtain ⟨f1,f2,f3⟩:=dj_end hd
                 obtain ⟨rfl,rfl⟩:=div_same (z4.out.trans f1.symm) z5 z6 f2 f3
                 have HQ:=z7.out
                 unfold Dg at HQ
                 obtain ⟨v1,v2⟩:=HQ
                 clear f1 f2 f3 st hd hB hlt z1 z2 z3 z4 z7
                 go_wp2
                 clear v1 v2
                 obtain ⟨u1,u2⟩:=rb.out
                 rw [rounds_succ]
                 by_cases c:s=true∧0<r0
                 ·obtain ⟨rfl,c2⟩:=c
                  go_wp2
                  go_region_law (first|(go_simp;go_at_call 80;refine (pp _).mono ?_;rintro e w1 ⟨rfl,rfl⟩)|(go_simp;go_at_call 79;refine (pt _).mono ?_;rintro e w2 ⟨v,z,z0,z1,z2,z3,z4,z5,z6,z7,ok,rfl,DZ,hv,hb2⟩;have qs:=fun i=>hb2.cell (p:=⟨w.heap.size+1+1+1+1+1+1,i,none⟩) (by simp<;>omega);have fs:=fun i=>hb2.frozen (p:=⟨w.heap.size+1+1+1+1+1+1,i,none⟩) (by simp<;>omega);have c0':w2.cell? ⟨w.heap.size+1+1+1+1+1+1,0,none⟩=some (.bool true):=(qs 0).trans (by simp [go_sem]);have f0':w2.frozen? ⟨w.heap.size+1+1+1+1+1+1,0,none⟩=false:=(fs 0).trans (by simp [go_sem]);have c1':w2.cell? ⟨w.heap.size+1+1+1+1+1+1,1,none⟩=some (.int .u64 q0):=(qs 1).trans (by simp [go_sem]);have f1':w2.frozen? ⟨w.heap.size+1+1+1+1+1+1,1,none⟩=false:=(fs 1).trans (by simp [go_sem]);have c2':w2.cell? ⟨w.heap.size+1+1+1+1+1+1,2,none⟩=some (.int .u64 q1):=(qs 2).trans (by simp [go_sem]);have f2':w2.frozen? ⟨w.heap.size+1+1+1+1+1+1,2,none⟩=false:=(fs 2).trans (by simp [go_sem]);have c3':w2.cell? ⟨w.heap.size+1+1+1+1+1+1,3,none⟩=some (.int .u64 q2):=(qs 3).trans (by simp [go_sem]);have f3':w2.frozen? ⟨w.heap.size+1+1+1+1+1+1,3,none⟩=false:=(fs 3).trans (by simp [go_sem]);have c4':w2.cell? ⟨w.heap.size+1+1+1+1+1+1,4,none⟩=some (.int .u64 q3):=(qs 4).trans (by simp [go_sem]);have f4':w2.frozen? ⟨w.heap.size+1+1+1+1+1+1,4,none⟩=false:=(fs 4).trans (by simp [go_sem]);have c5':w2.cell? ⟨w.heap.size+1+1+1+1+1+1,5,none⟩=some (.int .u64 q4):=(qs 5).trans (by simp [go_sem]);have f5':w2.frozen? ⟨w.heap.size+1+1+1+1+1+1,5,none⟩=false:=(fs 5).trans (by simp [go_sem]);have c6':w2.cell? ⟨w.heap.size+1+1+1+1+1+1,6,none⟩=some (.int .u64 q5):=(qs 6).trans (by simp [go_sem]);have f6':w2.frozen? ⟨w.heap.size+1+1+1+1+1+1,6,none⟩=false:=(fs 6).trans (by simp [go_sem]);have c7':w2.cell? ⟨w.heap.size+1+1+1+1+1+1,7,none⟩=some (.int .u64 q6):=(qs 7).trans (by simp [go_sem]);have f7':w2.frozen? ⟨w.heap.size+1+1+1+1+1+1,7,none⟩=false:=(fs 7).trans (by simp [go_sem]);have c8':w2.cell? ⟨w.heap.size+1+1+1+1+1+1,8,none⟩=some (.int .u64 q7):=(qs 8).trans (by simp [go_sem]);have f8':w2.frozen? ⟨w.heap.size+1+1+1+1+1+1,8,none⟩=false:=(fs 8).trans (by simp [go_sem]);have s0':w2.cell? ⟨w.heap.size+1,0,none⟩=some (.int .i64 0):=(hb2.cell (p:=⟨w.heap.size+1,0,none⟩) (by simp<;>omega)).trans (by simp [go_sem]);have s1':w2.cell? ⟨w.heap.size+1,1,none⟩=some (.int .u64 0):=(hb2.cell (p:=⟨w.heap.size+1,1,none⟩) (by simp<;>omega)).trans (by simp [go_sem]);have t0':w2.frozen? ⟨w.heap.size+1,0,none⟩=false:=(hb2.frozen (p:=⟨w.heap.size+1,0,none⟩) (by simp<;>omega)).trans (by simp [go_sem]);have t1':w2.frozen? ⟨w.heap.size+1,1,none⟩=false:=(hb2.frozen (p:=⟨w.heap.size+1,1,none⟩) (by simp<;>omega)).trans (by simp [go_sem]);have hz2:=hb2.size;clear qs fs))
                  all_goals go_wp2_with fail
                  all_goals refine (back_tells v z z0 z1 z2 z3 z4 z5 z6 z7 _ DZ).mono ?_
                  all_goals rintro e w3 ⟨h,l,is,rfl,R,hb3⟩
                  all_goals obtain ⟨k1,k2⟩:=keyB.out (by simp) c2 v z h l is ok hv R
                  all_goals replace k2:=Lib.hid k2
                  all_goals clear R hv bkA pt pp keyA keyB
                  all_goals have hz:w.heap.size+1+1+1+1+1+1<w2.heap.size:=Nat.lt_of_lt_of_le (by simp<;>omega) hz2
                  all_goals have B2:Below w.heap.size w w2:=Below.trans (by repeat (first|exact Below.refl _ _|(with_reducible refine below_alloc (Nat.le_refl _) ?_ _)|(with_reducible refine Below.drew ?_))) (hb2.mono (by simp<;>omega))
                  all_goals have B3:Below w.heap.size w w3:=Below.trans (below_nine v z0 z1 z2 z3 z4 z5 z6 z7 B2 (by omega)) (hb3.mono (by simp<;>omega))
                  all_goals have s0'':w3.cell? ⟨w.heap.size+1,0,none⟩=some (.int .i64 0):=(hb3.cell (p:=⟨w.heap.size+1,0,none⟩) (by simp<;>omega)).trans (by simp [go_sem,s0'])
                  all_goals have t0'':w3.frozen? ⟨w.heap.size+1,0,none⟩=false:=(hb3.frozen (p:=⟨w.heap.size+1,0,none⟩) (by simp<;>omega)).trans (by simp [go_sem,t0'])
                  all_goals have s1'':w3.cell? ⟨w.heap.size+1,1,none⟩=some (.int .u64 0):=(hb3.cell (p:=⟨w.heap.size+1,1,none⟩) (by simp<;>omega)).trans (by simp [go_sem,s1'])
                  all_goals have t1'':w3.frozen? ⟨w.heap.size+1,1,none⟩=false:=(hb3.frozen (p:=⟨w.heap.size+1,1,none⟩) (by simp<;>omega)).trans (by simp [go_sem,t1'])
                  all_goals have hz3:w.heap.size+1<w3.heap.size:=Nat.lt_of_lt_of_le (by simp<;>omega) hb3.size
                  all_goals clear c0' f0' c1' f1' c2' f2' c3' f3' c4' f4' c5' f5' c6' f6' c7' f7' c8' f8' s0' s1' t0' t1' hb2 hb3 hz2
                  all_goals go_wp2
                  all_goals refine bodyPost_ret (v:=.tuple #[.agg #[.int .i64 h,.int .u64 l],.int .i64 (b - r0),.int .i64 0]) (by simp [results,Tryz.results39,go_sem,s0'',s1'',hz3]) rfl ⟨h,l,b - r0,rfl,k1,k2.out,by omega,by omega,?_⟩
                  all_goals repeat (first|exact B3|(with_reducible refine below_alloc (Nat.le_refl _) ?_ _)|(with_reducible refine Below.setCell ?_ (by simp) _))
                 ·have hz:s=true→r0=0:=fun h=>by
                   by_cases c2:0<r0
                   ·exact absurd ⟨h,c2⟩ c
                   ·omega
                  by_cases c1:s=true
                  ·subst c1
                   have c2:=hz rfl
                   subst c2
                   go_wp2_with fail
                   refine (bkA _).mono ?_
                   rintro e w2 ⟨h,l,is,rfl,R,hb2⟩
                   obtain ⟨k1,k2⟩:=keyA.out h l is hz R
                   replace k2:=Lib.hid k2
                   clear R bkA pt pp keyA keyB
                   have s0':w2.cell? ⟨w.heap.size+1,0,none⟩=some (.int .i64 0):=(hb2.cell (p:=⟨w.heap.size+1,0,none⟩) (by simp<;>omega)).trans (by simp [go_sem])
                   have s1':w2.cell? ⟨w.heap.size+1,1,none⟩=some (.int .u64 0):=(hb2.cell (p:=⟨w.heap.size+1,1,none⟩) (by simp<;>omega)).trans (by simp [go_sem])
                   have t0':w2.frozen? ⟨w.heap.size+1,0,none⟩=false:=(hb2.frozen (p:=⟨w.heap.size+1,0,none⟩) (by simp<;>omega)).trans (by simp [go_sem])
                   have t1':w2.frozen? ⟨w.heap.size+1,1,none⟩=false:=(hb2.frozen (p:=⟨w.heap.size+1,1,none⟩) (by simp<;>omega)).trans (by simp [go_sem])
                   have hz:w.heap.size+1<w2.heap.size:=Nat.lt_of_lt_of_le (by simp<;>omega) hb2.size
                   have hz':w.heap.size+1≠w2.heap.size:=by omega
                   have B2:Below w.heap.size w w2:=Below.trans (by repeat (first|exact Below.refl _ _|refine below_alloc (Nat.le_refl _) ?_ _)) (hb2.mono (by simp<;>omega))
                   go_wp2
                   refine bodyPost_ret (v:=.tuple #[.agg #[.int .i64 h,.int .u64 l],.int .i64 0,.int .i64 0]) (by simp [results,Tryz.results39,go_sem,s0',s1',hz]) rfl ⟨h,l,0,rfl,k1,k2.out,u1,u2,?_⟩
                   repeat (first|exact B2|(with_reducible refine below_alloc (Nat.le_refl _) ?_ _)|(with_reducible refine Below.setCell ?_ (by simp) _))
                  ·obtain rfl:s=false:=by simpa using c1
                   go_wp2_with fail
                   refine (bkA _).mono ?_
                   rintro e w2 ⟨h,l,is,rfl,R,hb2⟩
                   obtain ⟨k1,k2⟩:=keyA.out h l is hz R
                   replace k2:=Lib.hid k2
                   clear R bkA pt pp keyA keyB
                   have s0':w2.cell? ⟨w.heap.size+1,0,none⟩=some (.int .i64 0):=(hb2.cell (p:=⟨w.heap.size+1,0,none⟩) (by simp<;>omega)).trans (by simp [go_sem])
                   have s1':w2.cell? ⟨w.heap.size+1,1,none⟩=some (.int .u64 0):=(hb2.cell (p:=⟨w.heap.size+1,1,none⟩) (by simp<;>omega)).trans (by simp [go_sem])
                   have t0':w2.frozen? ⟨w.heap.size+1,0,none⟩=false:=(hb2.frozen (p:=⟨w.heap.size+1,0,none⟩) (by simp<;>omega)).trans (by simp [go_sem])
                   have t1':w2.frozen? ⟨w.heap.size+1,1,none⟩=false:=(hb2.frozen (p:=⟨w.heap.size+1,1,none⟩) (by simp<;>omega)).trans (by simp [go_sem])
                   have hz:w.heap.size+1<w2.heap.size:=Nat.lt_of_lt_of_le (by simp<;>omega) hb2.size
                   have hz':w.heap.size+1≠w2.heap.size:=by omega
                   have B2:Below w.heap.size w w2:=Below.trans (by repeat (first|exact Below.refl _ _|refine below_alloc (Nat.le_refl _) ?_ _)) (hb2.mono (by simp<;>omega))
                   go_wp2
                   refine bodyPost_ret (v:=.tuple #[.agg #[.int .i64 h,.int .u64 l],.int .i64 r0,.int .i64 0]) (by simp [results,Tryz.results39,go_sem,s0',s1',hz]) rfl ⟨h,l,r0,rfl,k1,k2.out,u1,u2,?_⟩
                   repeat (first|exact B2|(with_reducible refine below_alloc (Nat.le_refl _) ?_ _)|(with_reducible refine Below.setCell ?_ (by simp) _))

end Go.Proofs.YtoilomigceijaaaGreatDoor.Vr

namespace Go.Proofs.YtoilomigceijaaaGreatDoor.Vr
open Go.RowKit Vm Vc Vl

set_option maxHeartbeats 1000000

theorem num_inj {h l h' l':Int}(b:Bd h l)(b':Bd h' l')(e:num h l=num h' l'):h=h'∧l=l':=by
 unfold Bd at b b';unfold num at e;omega

theorem rDiv_any (h1 l1 b h l r er:Int)(w:World)(b1:Bd h1 l1)(hb:Fit1 b)(R:DivRes (num h1 l1) b h l r er) :
  Calls Tryz.prog 39 #[.agg #[.int .i64 h1,.int .u64 l1],.int .i64 b] w fun e w' =>
   e= .returned (.tuple #[.agg #[.int .i64 h,.int .u64 l],.int .i64 r,.int .i64 er])∧Below w.heap.size w w':=by
 rcases R with ⟨rfl,rfl,rfl,rfl,rfl⟩|⟨hn,rfl,rfl,rfl,rfl⟩|⟨hp,rfl,bd,e,r0,r1⟩
 ·go_enter Tryz.func39,Tryz.ntmps39
  go_wp2
  refine bodyPost_ret (v:=.tuple #[.agg #[.int .i64 0,.int .u64 0],.int .i64 0,.int .i64 3]) (by simp [results,Tryz.results39,go_sem]) rfl ⟨rfl,?_⟩
  exact ((Below.refl _ _).alloc (Nat.le_refl _) _).alloc (by simp) _
 ·have d1:(b==0)=false:=beq_eq_false_iff_ne.2 (by omega)
  go_enter Tryz.func39,Tryz.ntmps39
  go_wp2
  refine bodyPost_ret (v:=.tuple #[.agg #[.int .i64 0,.int .u64 0],.int .i64 0,.int .i64 1]) (by simp [results,Tryz.results39,go_sem]) rfl ⟨rfl,?_⟩
  exact ((Below.refl _ _).alloc (Nat.le_refl _) _).alloc (by simp) _
 ·refine (rDiv_pos h1 l1 b (decide (h1<0)) _ w b1 hp hb.2 rfl rfl).mono ?_
  rintro e' w' ⟨h',l',r',he,bd',e2,r0',r1',hB⟩
  obtain ⟨e3,e4⟩:=div_same (e.trans e2.symm) r0 r1 r0' r1'
  obtain ⟨rfl,rfl⟩:=num_inj bd bd' e3
  subst e4
  exact ⟨he,hB⟩

end Go.Proofs.YtoilomigceijaaaGreatDoor.Vr

namespace Go.Proofs.YtoilomigceijaaaGreatDoor.Vr
open Go.RowKit Vm Vc Vl

set_option maxHeartbeats 400000

theorem rMulDiv_any (a b c h l h2 l2 r2 er2 v er v2 r3 er3:Int)(w:World)(ha:Fit1 a)(hb:Fit1 b)(hc:Fit1 c)(bd:Bd h l)(hn:num h l=a*b)(D:DivRes (num h l) c h2 l2 r2 er2)(bd2:Bd h2 l2)
  (F:Res1 (num h2 l2) v er) (O:(er2≠0∧v2=0∧r3=0∧er3=er2)∨(er2=0∧er=2∧v2=0∧r3=0∧er3=2)∨(er2=0∧er=0∧v2=v∧r3=r2∧er3=0)) :
  Calls Tryz.prog 38 #[.int .i64 a,.int .i64 b,.int .i64 c] w fun e w' =>
   e= .returned (.tuple #[.int .i64 v2,.int .i64 r3,.int .i64 er3])∧Below w.heap.size w w':=by
 have cm:=fun w=>rMul_to a b h l w ha hb bd hn
 have cd:=fun w=>rDiv_any h l c h2 l2 r2 er2 w bd hc D
 have cf:=fun w=>rFit_any h2 l2 v er w bd2 F
 clear ha hb hc bd hn D bd2 F
 rcases O with ⟨o1,rfl,rfl,rfl⟩|⟨rfl,rfl,rfl,rfl,rfl⟩|⟨rfl,rfl,rfl,rfl,rfl⟩
 ·have d1:(er3 != 0)=true:=bne_iff_ne.2 o1
  clear o1
  go_enter Tryz.func38,Tryz.ntmps38
  go_wp2_with fail
  refine (cm _).mono ?_
  rintro e w1 ⟨rfl,hb1⟩
  go_wp2_with fail
  refine (cd _).mono ?_
  rintro e w2 ⟨rfl,hb2⟩
  go_wp2
  go_ret3
  exact ⟨rfl,(hb1.trans (hb2.mono hb1.size)).alloc (Nat.le_trans hb1.size hb2.size) _⟩
 all_goals
  go_enter Tryz.func38,Tryz.ntmps38
  go_wp2_with fail
  refine (cm _).mono ?_
  rintro e w1 ⟨rfl,hb1⟩
  go_wp2_with fail
  refine (cd _).mono ?_
  rintro e w2 ⟨rfl,hb2⟩
  go_wp2_with fail
  refine (cf _).mono ?_
  rintro e w3 ⟨rfl,hb3⟩
  go_wp2
  go_ret3
  exact ⟨rfl,((hb1.trans (hb2.mono hb1.size)).alloc (Nat.le_trans hb1.size hb2.size) _).trans (hb3.mono (by simp;exact Nat.le_succ_of_le (Nat.le_trans hb1.size hb2.size)))⟩

theorem rmuldiv_to (a b c v r er:Int)(w:World)(fa:Fit1 a)(fb:Fit1 b)(fc:Fit1 c)(R:MDRes (a*b) c v r er) :
  Calls Tryz.prog 38 #[.int .i64 a,.int .i64 b,.int .i64 c] w fun e w' =>
   e= .returned (.tuple #[.int .i64 v,.int .i64 r,.int .i64 er])∧Below w.heap.size w w':=by
 have pf:=prod_fits fa fb
 have ff:Fits (a*b):=by unfold Fits;omega
 obtain ⟨h,l,n,bd⟩:=words_ex ff
 have b0:Bd 0 0:=by unfold Bd;omega
 have f0:Res1 (num 0 0) 0 0:=Or.inl ⟨rfl,rfl,by unfold Fit1 num;omega⟩
 rcases R with ⟨c0,rfl,rfl,rfl⟩|⟨c0,rfl,rfl,rfl⟩|⟨c0,rfl,rfl,rfl,nf⟩|⟨c0,rfl,fv,rfl,rfl⟩
 ·exact rMulDiv_any a b c h l 0 0 0 3 0 0 0 0 3 w fa fb fc bd n (.inl ⟨c0,rfl,rfl,rfl,rfl⟩) b0 f0 (.inl ⟨by decide,rfl,rfl,rfl⟩)
 ·exact rMulDiv_any a b c h l 0 0 0 1 0 0 0 0 1 w fa fb fc bd n (.inr (.inl ⟨c0,rfl,rfl,rfl,rfl⟩)) b0 f0 (.inl ⟨by decide,rfl,rfl,rfl⟩)
 all_goals
  obtain ⟨hq,lq,nq,bq⟩:=words_ex (quot_fits ff c0)
  have D:DivRes (num h l) c hq lq ((a*b)%c) 0:=.inr (.inr ⟨c0,rfl,bq,by rw [nq,n,Int.mul_comm];exact Int.mul_ediv_add_emod _ _,Int.emod_nonneg _ (by omega),Int.emod_lt_of_pos _ c0⟩)
 ·exact rMulDiv_any a b c h l hq lq ((a*b)%c) 0 0 2 0 0 2 w fa fb fc bd n D bq (Or.inr ⟨rfl,rfl,by rw [nq];exact nf⟩) (.inr (.inl ⟨rfl,rfl,rfl,rfl,rfl⟩))
 ·exact rMulDiv_any a b c h l hq lq ((a*b)%c) 0 (a*b / c) 0 (a*b / c) ((a*b)%c) 0 w fa fb fc bd n D bq (Or.inl ⟨rfl,nq.symm,by rw [nq];exact fv⟩) (.inr (.inr ⟨rfl,rfl,rfl,rfl,rfl⟩))

end Go.Proofs.YtoilomigceijaaaGreatDoor.Vr

namespace Go.Proofs.YtoilomigceijaaaGreatDoor.Sr
open Go.RowKit Vm Vc Pr Rk Sm
attribute [local go_sem ↓] Go.wp_at_zero Go.wp_at_succ

set_option maxHeartbeats 1000000

theorem rSums_any (A:Option Addr)(n cap:Nat)(zs:List Int)(hs ls:Int)(w:World)(hn:zs.length=n)(hm:n≤4096)(hf:∀ z ∈ zs,Fit1 z)(hr:Rd w w.heap.size A zs)(bs:Bd hs ls)(es:num hs ls=zs.sum) :
  Calls Tryz.prog 40 #[.slice A n cap] w fun e w'=>e= .returned (.agg #[.int .i64 hs,.int .u64 ls])∧Below w.heap.size w w':=by
 have HN:=Lib.hid hn
 have HF:=Lib.hid hf
 have HR:=Lib.hid hr
 have HS:=Lib.hid (And.intro bs es)
 clear hn hf hr bs es
 go_enter Tryz.func40,Tryz.ntmps40
 go_wp2
 go_loopw [8] (fun x wr=>∃ (k:Nat) (h l:Int),k≤n∧x= .int .i64 k∧num h l=(zs.take k).sum∧Bd h l∧Below w.heap.size w wr∧Two wr w.heap.size (.int .i64 0) (.int .u64 0)∧Two wr (w.heap.size+1) (.int .i64 h) (.int .u64 l)) (fun x _=>n - (intOf x).toNat)
 case atStart =>
  have T2:=Two.new (w.alloc (.cells #[.int .i64 0,.int .u64 0] 84)) (.int .i64 0) (.int .u64 0) 84
  simp only [World.size_alloc] at T2
  exact ⟨0,0,0,by omega,rfl,by simp [num],by unfold Bd;omega,balloc (balloc (Below.refl _ w) _) _,(Two.new w _ _ _).alloc _,T2⟩
 case round =>
  obtain ⟨k,h,l,hk,rfl,hsum,bd,hb,T1,T2⟩:=hrel
  obtain ⟨hg,q0,q1,f0,f1⟩:=id T2
  by_cases hlt:k<n
  ·have hk2:k<zs.length:=by rw [HN.out];exact hlt
   obtain ⟨b,off,rfl,hb0,hcell⟩:=HR.out.resolve_left (by intro e;rw [e] at hk2;simp at hk2)
   have hc1:=(hb.cell (p:=⟨b,off+k,none⟩) hb0).trans (hcell k hk2)
   obtain ⟨z,hz⟩:∃ s,zs.getD k 0=s:=⟨_,rfl⟩
   rw [hz] at hc1
   clear hcell
   have fz:Fit1 z:=HF.out z (by rw [← hz];exact getD_mem hk2)
   obtain ⟨ho,lo,no,bo⟩:=words_ex (x:=z) (by unfold Fits;unfold Fit1 at fz;omega)
   have tb:=Vr.take_bound zs k HF.out (by omega)
   have ts:=take_sum zs k hk2
   rw [hz] at ts
   obtain ⟨h',l',n',b'⟩:=words_ex (x:=(zs.take k).sum+z) (by unfold Fits;unfold Fit1 at fz;omega)
   have co:=fun w=>Vr.rOf_to z ho lo w fz no bo
   have ca:=fun w=>Vr.rAdd_any h l ho lo h' l' 0 w bd bo (Or.inl ⟨rfl,by rw [hsum,no];exact n',b'⟩)
   have HX:=Lib.hid (n'.trans ts.symm)
   replace b':=Lib.hid b'
   clear no bo tb ts n' hsum bd hz fz hk2
   go_wp2
   go_region_law (first|(go_simp;go_at_call 83;refine (co _).mono ?_;rintro e w1 ⟨rfl,hb1⟩;have T21:=T2.drew.kept hb1;obtain ⟨hg1,q01,q11,f01,f11⟩:=id T21)|(go_simp;go_at_call 82;refine (ca _).mono ?_;rintro e w2 ⟨rfl,hb2⟩;have T22:=T21.kept hb2;obtain ⟨hg2,q02,q12,f02,f12⟩:=id T22))
   all_goals have bx:Below w.heap.size w w2:=bthen (bthen hb.drew hb1) hb2
   all_goals have T12:=(T1.drew.kept hb1).kept hb2
   all_goals go_wp2
   all_goals
    go_roundw
    case rel =>
     exact ⟨k+1,h',l',by omega,by go_num,HX.out,b'.out,bset (bset bx (by omega) _ _) (by omega) _ _,(T12.other (g:=w.heap.size+1) _ _ (by omega)).other (g:=w.heap.size+1) _ _ (by omega),(T22.set0 _).set1 _⟩
    case measure=>simp [intOf];omega
  ·obtain rfl:k=n:=by omega
   have e1:num h l=zs.sum:=by rw [hsum,List.take_of_length_le (by rw [HN.out];omega)]
   obtain ⟨rfl,rfl⟩:=Vr.num_inj bd HS.out.1 (e1.trans HS.out.2.symm)
   obtain ⟨hg0,p0,p1,g0,g1⟩:=id T1
   clear e1 hsum bd
   go_wp2
   refine bodyPost_ret (v:=.agg #[.int .i64 h,.int .u64 l]) (by simp [results,Tryz.results40,go_sem,p0,p1]) rfl ⟨rfl,?_⟩
   exact bset (bset hb (Nat.le_refl _) _ _) (Nat.le_refl _) _ _

end Go.Proofs.YtoilomigceijaaaGreatDoor.Sr

namespace Go.Proofs.YtoilomigceijaaaGreatDoor.Sr
open Go.RowKit Vm Vc Pr Rk Sm Om

set_option maxHeartbeats 2000000

theorem row_congr {W:World}{g n:Nat}{f f':Nat→Int}(p:Row W g n f)(h:∀ i,i<n→f i=f' i):Row W g n f' :=
 ⟨p.lt,fun i hi=>by rw [← h i hi];exact p.c i hi,p.fz⟩

theorem rinfoI:(Tryz.prog.info? 2).map (fun i=>(i.zero,i.size,i.bytes))=some (some (.int .i64 0),1,8):=by kernel_rfl
theorem runderS:Tryz.prog.underlying 29=some (.slice 2):=by kernel_rfl

def rl (o:Nat→Int)(n:Nat):List Int:=(List.range n).map o
theorem rl_len (o:Nat→Int)(n:Nat):(rl o n).length=n:=by simp [rl]
theorem rl_at (o:Nat→Int){n i:Nat}(h:i<n):(rl o n).getD i 0=o i:=by simp [rl,List.getD,h]
theorem rl_sum (o:Nat→Int)(n:Nat):(rl o n).sum=sm o n:=by
 have h:=sm_list (rl o n)
 rw [rl_len] at h
 rw [← h]
 exact sm_congr (fun i hi=>rl_at o hi)

theorem step_pos {a:Int}{w:Nat→Int}{n j:Nat}{C:Nat→Bool}{b:Nat}(h:MayBe w n)(hC:cnt C n=j)(hj:(j:Int)<left a w n)(m:∀ k,k<n→C k=false→rem a w n k≤rem a w n b):0<rem a w n b:=by
 have r0:=(rem_bd (a:=a) h b).1
 by_cases c:0<rem a w n b
 ·exact c
 ·exfalso
  have le:∀ k,k<n→rem a w n k≤tot w n*one (C k):=by
   intro k hk
   have rb:=rem_bd (a:=a) h k
   cases ck:C k
   ·have:=m k hk ck;simp [one];omega
   ·simp [one];omega
  have s:=sm_le le
  rw [sm_mul] at s
  have e1:sm (fun k=>one (C k)) n=j:=hC
  rw [e1,(left_is (a:=a) h).2] at s
  have:=Int.mul_le_mul_of_nonneg_left (show (j:Int)+1≤left a w n by omega) (show 0≤tot w n by have:=h.2;omega)
  rw [Int.mul_add,Int.mul_one] at this
  have:=h.2
  omega

def Found (A:Nat→Int)(i b:Nat):Prop:=b≤i∧∀ k,k<i→A k<A b∨(A k=A b∧b≤k)
theorem found_best {r:Nat→Int}{n j c b:Nat}{C:Nat→Bool}(hb:b<n)(h:Best r n j C)(jc:j<c)(cn:c≤n)(r0:∀ i,i<n→0≤r i)(F:Found (fun i=>if C i=true then -1 else r i) n b) :
  C b=false∧∀ k,k<n→C k=false→k≠b→Ahead r b k:=by
 obtain ⟨k0,h0,c0⟩:=cnt_lt (C:=C) (n:=n) (by rw [h.1];omega)
 have cb:C b=false:=by
  cases e:C b
  ·rfl
  ·have:=F.2 k0 h0
   have:=r0 k0 h0
   simp only [e,c0,if_true] at *
   simp at *
   omega
 refine ⟨cb,fun k hk ck ne=>?_⟩
 have:=F.2 k hk
 simp only [cb,ck] at this
 simp at this
 unfold Ahead;omega

def RSplitRes (w:World)(n:Nat)(P:(Nat→Int)→Prop)(e:Ending)(w':World):Prop :=
 ∃ (g cap:Nat) (o:Nat→Int),e= .returned (.tuple #[.slice (some ⟨g,0,none⟩) n cap,.int .i64 0])∧Row w' g n o∧w.heap.size≤g∧P o∧Below w.heap.size w w'

set_option maxRecDepth 100000 in
theorem rsplit_go (A:Option Addr)(n cap:Nat)(zs:List Int)(a:Int)(w:World)(hn:zs.length=n)(n0:0<n)(n1:n≤4096)(fa:Fit1 a)(hf:∀ z ∈ zs,Fit1 z)(hr:Rd w w.heap.size A zs)(hp:∀ z ∈ zs,0≤z)(hs:0<zs.sum)(fs:Fit1 zs.sum) :
  Calls Tryz.prog 21 #[.int .i64 a,.slice A n cap] w (RSplitRes w n (IsSplit a (wt zs) n)):=by
 have ct:=fun w h=>rAll_any A n cap zs zs.sum 0 w hn (.inl n1) (by omega) hf h (.inr (.inr ⟨by omega,hp,.inr (.inr ⟨hs,fs,rfl,rfl⟩)⟩))
 obtain ⟨b,off,rfl,hb,hcell⟩:=hr.resolve_left (by intro e;rw [e] at hn;simp at hn;omega)
 have M:MayBe (wt zs) n:=by rw [← hn];exact may_list hp hs
 have te:tot (wt zs) n=zs.sum:=by rw [← hn];exact sm_list zs
 obtain ⟨t,ht⟩:∃ t,t=zs.sum:=⟨_,rfl⟩
 rw [← ht] at ct te hs fs
 obtain ⟨x,hx⟩:∃ x,x=wt zs:=⟨_,rfl⟩
 have hcell2:∀ i,i<n→w.cell? ⟨b,off+i,none⟩=some (.int .i64 (x i)):=fun i hi=>by rw [hx];exact hcell i (by omega)
 have fx:∀ i,i<n→Fit1 (x i):=fun i hi=>by rw [hx];exact hf _ (getD_mem (by omega))
 rw [← hx] at M te ⊢
 have CM:Hid (∀ i W,i<n→Calls Tryz.prog 38 #[.int .i64 a,.int .i64 (x i),.int .i64 t] W fun e w'=>e= .returned (.tuple #[.int .i64 (quo a x n i),.int .i64 (rem a x n i),.int .i64 0])∧Below W.heap.size W w') :=
  Lib.hid (fun i W hi=>Vr.rmuldiv_to a (x i) t (quo a x n i) (rem a x n i) 0 W fa (fx i hi) fs (.inr (.inr (.inr ⟨hs,rfl,quo_fit fa M hi,by unfold quo;rw [te],by unfold rem;rw [te]⟩))))
 have lb:=left_bd (a:=a) M
 obtain ⟨c,hc⟩:∃ c:Nat,(c:Int)=left a x n:=⟨(left a x n).toNat,by omega⟩
 have cn:c≤n:=by omega
 have RB:∀ i,0≤rem a x n i∧rem a x n i<t:=fun i=>by have:=rem_bd (a:=a) M i;rw [te] at this;exact this
 have fr:∀ z ∈ rl (rem a x n) n,Fit1 z:=by
  intro z hz
  unfold rl at hz
  obtain ⟨i,_,rfl⟩:=List.mem_map.1 hz
  have:=RB i
  unfold Fit1 at *;omega
 have sr:(rl (rem a x n) n).sum=t*left a x n:=by rw [rl_sum,← te];exact (left_is M).2
 obtain ⟨h1,l1,e1,b1⟩:=words_ex (x:=(rl (rem a x n) n).sum) (by
  rw [sr,← hc]
  have k1:t*(c:Int)≤9223372036854775807*4096:=Int.mul_le_mul (by unfold Fit1 at fs;omega) (by omega) (by omega) (by omega)
  have k2:0≤t*(c:Int):=Int.mul_nonneg (by omega) (by omega)
  unfold Fits;omega)
 obtain ⟨h2,l2,e2,b2⟩:=words_ex (x:=(c:Int)) (by unfold Fits;omega)
 have CD:Hid (∀ W,Calls Tryz.prog 39 #[.agg #[.int .i64 h1,.int .u64 l1],.int .i64 t] W fun e w'=>e= .returned (.tuple #[.agg #[.int .i64 h2,.int .u64 l2],.int .i64 0,.int .i64 0])∧Below W.heap.size W w') :=
  Lib.hid (fun W=>Vr.rDiv_any h1 l1 t h2 l2 0 0 W b1 fs (.inr (.inr ⟨hs,rfl,b2,by rw [e1,e2,sr,hc,Int.mul_comm];omega,by omega,hs⟩)))
 have CF:Hid (∀ W,Calls Tryz.prog 41 #[.agg #[.int .i64 h2,.int .u64 l2]] W fun e w'=>e= .returned (.tuple #[.int .i64 (c:Int),.int .i64 0])∧Below W.heap.size W w') :=
  Lib.hid (fun W=>Vr.rFit_any h2 l2 c 0 W b2 (.inl ⟨rfl,e2.symm,by unfold Fit1;rw [e2];omega⟩))
 have CS:Hid (∀ (g cap:Nat) W,Row W g n (rem a x n)→Calls Tryz.prog 40 #[.slice (some ⟨g,0,none⟩) n cap] W fun e w'=>e= .returned (.agg #[.int .i64 h1,.int .u64 l1])∧Below W.heap.size W w') :=
  Lib.hid (fun g cap W r=>rSums_any (some ⟨g,0,none⟩) n cap (rl (rem a x n) n) h1 l1 W (rl_len _ _) n1 fr (.inr ⟨g,0,rfl,r.lt,fun i hi=>by
   rw [rl_len] at hi
   rw [rl_at _ hi,Nat.zero_add];exact r.c i hi⟩) b1 e1)
 have HX:=Lib.hid hcell2
 have HM:=Lib.hid M
 have HA:=Lib.hid fa
 have HC:=Lib.hid hc
 have ct0:=ct w hr
 obtain ⟨i0,hi,hz0,hz1,hz2⟩:=info_parts rinfoI
 clear ct hcell hcell2 M te fx hr hp hf hn ht hx hs fs lb hc RB fr sr e1 b1 e2 b2
 go_enter Tryz.func21,Tryz.ntmps21
 go_wp2_with fail
 refine ct0.mono ?_
 rintro e w1 ⟨rfl,hb1⟩
 clear ct0
 go_wp2
 go_loopw [8,9,33] (fun O Ab K wr=>∃ k:Nat,k≤n∧K= .int .i64 k∧Duo 2 w wr O Ab k (quo a x n) (rem a x n)) (fun _ _ K _=>n - (intOf K).toNat)
 case atStart=>exact ⟨0,by omega,rfl,Duo.start _ w hb1 _ _⟩
 case round =>
  clear hb1
  obtain ⟨k,hk,rfl,X⟩:=hrel
  by_cases hlt:k<n
  ·have hc:=(X.below.cell (p:=⟨b,off+k,none⟩) hb).trans (HX.out k hlt)
   have cmk:=fun W=>CM.out k W hlt
   obtain ⟨xk,hxk⟩:∃ s,x k=s:=⟨_,rfl⟩
   obtain ⟨qk,hq⟩:∃ s,quo a x n k=s:=⟨_,rfl⟩
   obtain ⟨rk,hr⟩:∃ s,rem a x n k=s:=⟨_,rfl⟩
   rw [hxk] at hc
   rw [hxk,hq,hr] at cmk
   have HK:=Lib.hid (And.intro hq hr)
   clear hxk hq hr
   go_wp2_with fail
   refine (cmk _).mono ?_
   rintro e w2 ⟨rfl,hb2⟩
   replace X:=X.kept hb2
   clear hb2 cmk hc
   have sz:=X.below.size
   go_wp2_with (first
    | (at_builtin;refine wpList_append_lies _ rfl _ _ 29 rfl w.heap.size 2 i0 (.int .i64 0) 1 8 runderS hi hz0 hz1 hz2 rfl (by decide) _ k (lst (quo a x n) k) rfl (X.a.alloc _) ⟨w2.heap.size,0,none⟩ 1 1 [.int .i64 qk] rfl rfl ?c1 ?c2 (by omega) ?c3 ?c4 ?c5 _ rfl ?m1))
   case c1 =>
    intro j u hj
    match j,hj with
    | 0,hj=>simp at hj;subst hj;simp [Addr.add]
   case c2=>intro u hu;simp at hu;subst hu;rfl
   case c3=>unfold maxLen;omega
   case c4=>omega
   case c5=>simp;omega
   case m1 =>
    intro g1 cap1 w3 hown1 hgrow1 hat1 hlt1
    have XB:=(X.b.alloc (.cells #[.int .i64 qk] 2)).kept hgrow1 (X.apart' )
    have sz1:=hgrow1.size
    rw [World.size_alloc] at sz1
    go_wp2_with (first
     | (at_builtin;refine wpList_append_lies _ rfl _ _ 29 rfl w.heap.size 2 i0 (.int .i64 0) 1 8 runderS hi hz0 hz1 hz2 rfl (by decide) _ k (lst (rem a x n) k) rfl (XB.alloc _) ⟨w3.heap.size,0,none⟩ 1 1 [.int .i64 rk] rfl rfl ?d1 ?d2 (by omega) ?d3 ?d4 ?d5 _ rfl ?m2))
    case d1 =>
     intro j u hj
     match j,hj with
     | 0,hj=>simp at hj;subst hj;simp [Addr.add]
    case d2=>intro u hu;simp at hu;subst hu;rfl
    case d3=>unfold maxLen;omega
    case d4=>omega
    case d5=>simp;omega
    case m2 =>
     intro g2 cap2 w4 hown2 hgrow2 hat2 hlt2
     have X2:=X.next (o1:=.cells #[.int .i64 qk] 2) (o2:=.cells #[.int .i64 rk] 2) (by rw [HK.out.1];exact hown1) hgrow1 hat1 hlt1 (by rw [HK.out.2];exact hown2) hgrow2 hat2 hlt2
     clear hown1 hgrow1 hat1 hlt1 hown2 hgrow2 hat2 hlt2 X XB sz1 sz
     go_wp2
     go_roundw
     case rel=>exact ⟨k+1,by omega,by go_num,X2⟩
     case measure=>simp [intOf]<;>omega
  ·obtain rfl:k=n:=by omega
   obtain ⟨g1,cap1,rfl,hg1,lt1⟩:=X.a.form n0
   obtain ⟨g2,cap2,rfl,hg2,lt2⟩:=X.b.form n0
   have RA:=Row.of_owns X.a n0
   have RB:=Row.of_owns X.b n0
   have ne:g1≠g2:=fun e=>X.apart g1 rfl (by rw [e];rfl)
   have B1:=X.below
   clear X
   go_wp2_with fail
   refine (CS.out g2 cap2 _ RB).mono ?_
   rintro e w2 ⟨rfl,hb2⟩
   replace B1:=bthen B1 hb2
   replace RA:=RA.kept hb2
   replace RB:=RB.kept hb2
   clear hb2
   go_wp2_with fail
   refine (CD.out _).mono ?_
   rintro e w3 ⟨rfl,hb2⟩
   replace B1:=bthen B1 hb2
   replace RA:=RA.kept hb2
   replace RB:=RB.kept hb2
   clear hb2
   go_wp2_with fail
   refine (CF.out _).mono ?_
   rintro e w4 ⟨rfl,hb2⟩
   have A3:Below w3.heap.size w3 (w3.alloc (.cells #[.int .i64 h2,.int .u64 l2] 84)):=balloc (Below.refl _ _) _
   replace B1:=bthen (balloc B1 _) hb2
   replace RA:=(RA.kept A3).kept hb2
   replace RB:=(RB.kept A3).kept hb2
   clear hb2 A3
   have HM1:=HM.out
   have R0:∀ i,i<k→0≤rem a x k i:=fun i _=>(rem_bd HM1 i).1
   have HR0:=Lib.hid R0
   clear HM1 R0
   go_wp2
   go_loopw [68] (fun Y wr=>∃ (j:Nat) (C:Nat→Bool),j≤c∧Y= .int .i64 j∧Below w.heap.size w wr∧Row wr g1 k (fun i=>quo a x k i+one (C i))∧Row wr g2 k (fun i=>if C i=true then -1 else rem a x k i)∧Hid (Best (rem a x k) k j C)) (fun Y _=>c - (intOf Y).toNat)
   case atStart=>exact ⟨0,fun _=>false,by omega,rfl,B1,row_congr RA (fun i _=>by simp [one]),row_congr RB (fun i _=>by simp),Lib.hid (best_none _ _)⟩
   case round =>
    clear B1 RA RB
    obtain ⟨j,C,jc,rfl,B1,RA,RB,HB⟩:=hrel
    by_cases jlt:j<c
    ·obtain ⟨Am,hAm⟩:∃ Am:Nat→Int,Am=fun i=>if C i=true then -1 else rem a x k i:=⟨_,rfl⟩
     rw [← hAm] at RB
     have HAm:=Lib.hid hAm
     clear hAm
     go_wp2
     go_loop [20,72] (fun Bv I=>∃ b i:Nat,i≤k∧b<k∧Bv= .int .i64 b∧I= .int .i64 i∧Hid (Found Am i b)) (fun _ I=>k - (intOf I).toNat)
     case atStart=>exact ⟨0,0,by omega,n0,rfl,rfl,Lib.hid ⟨by omega,fun q hq=>by omega⟩⟩
     case round =>
      obtain ⟨bb,i,hi,hbb,rfl,rfl,F⟩:=hrel
      by_cases ilt:i<k
      ·have k1:=RB.c i ilt
       have k2:=RB.c bb hbb
       have pi:(0:Int)≤(i:Int):=by omega
       have bi:(i:Int)<(k:Int):=by omega
       have pb:(0:Int)≤(bb:Int):=by omega
       have bb':(bb:Int)<(k:Int):=by omega
       by_cases gt:Am bb<Am i
       ·have F2:Hid (Found Am (i+1) i):=Lib.hid ⟨by omega,fun q hq=>by
         by_cases e:q=i
         ·subst e;exact .inr ⟨rfl,Nat.le_refl _⟩
         ·rcases F.out.2 q (by omega) with h|⟨h,_⟩
          ·exact .inl (by omega)
          ·exact .inl (by omega)⟩
        have d1:decide (Am bb<Am i)=true:=decide_eq_true gt
        generalize Am bb=u at k2 d1 gt
        generalize Am i=v at k1 d1 gt
        clear F gt
        go_wp2
        go_round
        case rel=>exact ⟨i,i+1,by omega,ilt,rfl,by go_num,F2⟩
        case measure=>simp [intOf]<;>omega
       ·have F2:Hid (Found Am (i+1) bb):=Lib.hid ⟨by have:=F.out.1;omega,fun q hq=>by
         by_cases e:q=i
         ·subst e
          have:=F.out.1
          omega
         ·exact F.out.2 q (by omega)⟩
        have d1:decide (Am bb<Am i)=false:=decide_eq_false gt
        generalize Am bb=u at k2 d1 gt
        generalize Am i=v at k1 d1 gt
        clear F gt
        go_wp2
        go_round
        case rel=>exact ⟨bb,i+1,by omega,hbb,rfl,by go_num,F2⟩
        case measure=>simp [intOf]<;>omega
      ·obtain rfl:i=k:=by omega
       have FB:=found_best hbb HB.out jlt cn HR0.out (by rw [← HAm.out];exact F.out)
       have sp:=step_pos HM.out HB.out.1 (by rw [← HC.out];omega) (fun q hq cq=>by
        by_cases e:q=bb
        ·rw [e];exact Int.le_refl _
        ·have:=FB.2 q hq cq e;unfold Ahead at this;omega)
       have up:=quo_up HA.out HM.out hbb sp
       have qf:=quo_fit HA.out HM.out hbb
       unfold Fit1 at qf
       obtain ⟨q0,_⟩:=qf
       have k1:=RA.c bb hbb
       have f1:=RA.fz bb hbb
       rw [FB.1,show quo a x i bb+one false=quo a x i bb by simp [one]] at k1
       have k2:=RB.c bb hbb
       have f2:=RB.fz bb hbb
       have k3:∀ v,((_:World).setCell ⟨g1,bb,none⟩ v).cell? ⟨g2,bb,none⟩=some (.int .i64 (Am bb)):=fun v=>by
        rw [World.cell?_setCell_other _ _ _ _ (by intro e;simp only [Addr.mk.injEq] at e;omega)];exact k2
       have RA2:=row_congr ((RA.set (quo a x i bb+1) hbb).other (b:=g2) bb (.int .i64 (-1)) ne) (f':=fun q=>quo a x i q+one (if q=bb then true else C q)) (fun q _=>by
        by_cases e:q=bb
        ·subst e;simp [one]
        ·simp [e])
       have RB2:=row_congr ((RB.other (b:=g1) bb (.int .i64 (quo a x i bb+1)) (fun e=>ne e.symm)).set (-1) hbb) (f':=fun q=>if (if q=bb then true else C q)=true then -1 else rem a x i q) (fun q _=>by
        by_cases e:q=bb
        ·subst e;simp
        ·rw [HAm.out];simp [e])
       have HB2:Hid (Best (rem a x i) i ((j+1:Nat):Int) (fun q=>if q=bb then true else C q)):=Lib.hid (by
        have:=best_step HB.out hbb FB.1 FB.2
        rw [show ((j+1:Nat):Int)=(j:Int)+1 by omega];exact this)
       have B2:=bset (bset B1 hg1 bb (.int .i64 (quo a x i bb+1))) hg2 bb (.int .i64 (-1))
       have pb:(0:Int)≤(bb:Int):=by omega
       have bb':(bb:Int)<(i:Int):=by omega
       generalize quo a x i bb=qv at k1 up q0 RA2 RB2 B2
       generalize Am bb=av at k2 k3
       clear FB sp RA RB B1 F
       go_wp2
       go_roundw
       case rel=>exact ⟨j+1,_,by omega,by go_num,B2,RA2,RB2,HB2⟩
       case measure=>simp [intOf]<;>omega
    ·obtain rfl:j=c:=by omega
     have Y:RSplitRes w k (IsSplit a x k) (.returned (.tuple #[.slice (some ⟨g1,0,none⟩) k cap1,.int .i64 0])) _ :=
      ⟨g1,cap1,_,rfl,RA,hg1,⟨C,by rw [← HC.out];exact HB.out,fun i _=>rfl⟩,B1⟩
     have HY:=Lib.hid Y
     clear Y RA RB B1
     go_wp2
     exact bodyPost_ret (v:=.tuple #[.slice (some ⟨g1,0,none⟩) k cap1,.int .i64 0]) (by simp [results,Tryz.results21,go_sem]) rfl HY.out

end Go.Proofs.YtoilomigceijaaaGreatDoor.Sr

