/- Texts that are joined: Vmath, Vcode, Vadd, Vneg, Vmath2, Vfit, Vmath3, Vmul, Vmath4, Wmath, Ucode, Vdiv, Vmath5, Vsum, Vmath6, Llive, Lmd. -/
import Derived.RowKit
import Derived.Laws.BitsAllLaws
import Derived.Test.YtoilomigceijaaaGreatDoorChecked
import Derived.WalkKit
import Derived.RowKit3
import Derived.Below
import Derived.Outline
import Derived.Deep.QuietTactic
import Derived.BigQuiet
import Derived.Lib.Hide
import Derived.Deep.RegionHeld3
import Derived.Deep.DeepCutAuto
import Derived.Deep.DrawnRows
import Derived.Deep.RegionLaw
import Derived.OpenShut
set_option linter.unusedSimpArgs false
set_option linter.unusedVariables false
namespace Go.Proofs.YtoilomigceijaaaGreatDoor.Vm
open Go.RowKit (wrap32 wrap64)

theorem xor_all (b:Nat)(hb:b<18446744073709551616):18446744073709551615 ^^^ b=18446744073709551615 - b:=by
 have h:=congrArg BitVec.toNat (BitVec.allOnes_xor (x:=BitVec.ofNat 64 b))
 rw [BitVec.toNat_xor,BitVec.toNat_not,BitVec.toNat_allOnes,BitVec.toNat_ofNat,Nat.mod_eq_of_lt hb] at h
 exact h

theorem u64_not {a:Int}(h1:0≤a)(h2:a≤18446744073709551615):bits .xor .u64 IntKind.u64.max a=18446744073709551615 - a:=by
 have e:IntKind.u64.max=18446744073709551615:=rfl
 rw [e,u64_xor 18446744073709551615 a (by omega) (by omega) h1 (by omega)]
 have h:=xor_all a.toNat (by omega)
 have e2:(18446744073709551615:Int).toNat=18446744073709551615:=rfl
 rw [e2,h]
 omega

theorem or_half {x y:Int}(hx0:0≤x)(hx1:x≤18446744073709551615)(hx:x%4294967296=0)(hy0:0≤y)(hy1:y≤4294967295):bits .or .u64 x y=x+y:=by
 rw [u64_or x y hx0 (by omega) hy0 (by omega)]
 have h:=Nat.shiftLeft_add_eq_or_of_lt (b:=y.toNat) (i:=32) (by omega) (x.toNat / 4294967296)
 have e:(x.toNat / 4294967296) <<< 32=x.toNat:=by rw [Nat.shiftLeft_eq];omega
 rw [e] at h
 rw [← h]
 omega

theorem or_bit {x y:Int}(hx0:0≤x)(hx1:x≤18446744073709551615)(hx:x%2=0)(hy0:0≤y)(hy1:y≤1):bits .or .u64 x y=x+y:=by
 rw [u64_or x y hx0 (by omega) hy0 (by omega)]
 have h:=Nat.shiftLeft_add_eq_or_of_lt (b:=y.toNat) (i:=1) (by omega) (x.toNat / 2)
 have e:(x.toNat / 2) <<< 1=x.toNat:=by rw [Nat.shiftLeft_eq];omega
 rw [e] at h
 rw [← h]
 omega

def num (h l:Int):Int:=h*18446744073709551616+l
def cv (a b:Int):Int:=if a<b then -1 else if b<a then 1 else 0
def Bd (h l:Int):Prop:= -9223372036854775808≤h∧h≤9223372036854775807∧0≤l∧l≤18446744073709551615
def Fits (x:Int):Prop:= -170141183460469231731687303715884105728≤x∧x≤170141183460469231731687303715884105727
def Res (x h l er:Int):Prop:=(er=0∧num h l=x∧Bd h l)∨(er=2∧h=0∧l=0∧¬ Fits x)
theorem bd_fits {h l:Int}(b:Bd h l):Fits (num h l):=by unfold Bd at b;unfold Fits num;omega
theorem num_inj {h l h' l':Int}(b:Bd h l)(b':Bd h' l')(e:num h l=num h' l'):h=h'∧l=l':=by unfold Bd at b b';unfold num at e;omega
theorem res_unique {x h l er h' l' er':Int}(r:Res x h l er)(r':Res x h' l' er'):h=h'∧l=l'∧er=er':=by
 rcases r with ⟨e1,e2,e3⟩|⟨e1,e2,e3,e4⟩<;>rcases r' with ⟨f1,f2,f3⟩|⟨f1,f2,f3,f4⟩
 ·have:=num_inj e3 f3 (e2.trans f2.symm)
  exact ⟨this.1,this.2,e1.trans f1.symm⟩
 ·exact absurd (e2 ▸ bd_fits e3) f4
 ·exact absurd (f2 ▸ bd_fits f3) e4
 ·exact ⟨e2.trans f2.symm,e3.trans f3.symm,e1.trans f1.symm⟩
end Go.Proofs.YtoilomigceijaaaGreatDoor.Vm

namespace Go.Proofs.YtoilomigceijaaaGreatDoor.Vc
open Go.RowKit Vm

set_option maxHeartbeats 400000

theorem ret_agg {k1 k2:IntKind}{a b c d:Int}(h1:a=c)(h2:b=d):Ending.returned (.agg #[.int k1 a,.int k2 b])=Ending.returned (.agg #[.int k1 c,.int k2 d]):=by rw [h1,h2]
theorem bcell {W w1:World}(hb:Below W.heap.size W w1):(∀ b o,b<W.heap.size→w1.cell? ⟨b,o,none⟩=W.cell? ⟨b,o,none⟩)∧(∀ b o,b<W.heap.size→w1.frozen? ⟨b,o,none⟩=W.frozen? ⟨b,o,none⟩) :=
 ⟨fun b o h=>hb.cell (p:=⟨b,o,none⟩) h,fun b o h=>hb.frozen (p:=⟨b,o,none⟩) h⟩
theorem ret_one {k1:IntKind}{a c:Int}(h1:a=c):Ending.returned (.int k1 a)=Ending.returned (.int k1 c):=by rw [h1]

theorem wordsOf_any (h l:Int)(w:World) :
  Calls Tryz.prog 116 #[.agg #[.int .i64 h,.int .u64 l]] w fun e w'=>e= .returned (.agg #[.int .u64 l,.int .u64 (h%18446744073709551616)])∧Below w.heap.size w w':=by
 go_enter Tryz.func116,Tryz.ntmps116
 go_wp2
 refine bodyPost_ret (v:=.agg #[.int .u64 l,.int .u64 (IntKind.u64.wrap h)]) (by simp [results,Tryz.results116,go_sem]) rfl ⟨ret_agg rfl (IntKind.wrap_u64 h),?_⟩
 exact ((Below.refl _ _).alloc (Nat.le_refl _) _).alloc (by simp) _

theorem plus_any (a0 a1 b0 b1:Int)(w:World)(h1:0≤a0)(h2:a0≤18446744073709551615)(h3:0≤b0)(h4:b0≤18446744073709551615) :
  Calls Tryz.prog 115 #[.agg #[.int .u64 a0,.int .u64 a1],.agg #[.int .u64 b0,.int .u64 b1]] w fun e w' =>
   e= .returned (.agg #[.int .u64 ((a0+b0)%18446744073709551616),.int .u64 ((a1+b1+(a0+b0) / 18446744073709551616)%18446744073709551616)])∧Below w.heap.size w w':=by
 by_cases c:a0+b0≤18446744073709551615
 ·have d:decide (a0+b0<a0)=false:=decide_eq_false (by omega)
  go_enter Tryz.func115,Tryz.ntmps115
  go_wp2
  refine bodyPost_ret (v:=.agg #[.int .u64 (a0+b0),.int .u64 (IntKind.u64.wrap (a1+b1))]) (by simp [results,Tryz.results115,go_sem]) rfl ⟨ret_agg (by omega) (by rw [IntKind.wrap_u64];omega),?_⟩
  exact ((((Below.refl _ _).alloc (Nat.le_refl _) _).alloc (by simp) _).alloc (by simp;omega) _).alloc (by simp;omega) _
 ·have d:decide (IntKind.u64.wrap (a0+b0)<a0)=true:=decide_eq_true (by rw [IntKind.wrap_u64];omega)
  go_enter Tryz.func115,Tryz.ntmps115
  go_wp2
  refine bodyPost_ret (v:=.agg #[.int .u64 (IntKind.u64.wrap (a0+b0)),.int .u64 (IntKind.u64.wrap (IntKind.u64.wrap (a1+b1)+1))]) (by simp [results,Tryz.results115,go_sem]) rfl ⟨ret_agg (IntKind.wrap_u64 _) (by rw [IntKind.wrap_u64,IntKind.wrap_u64];omega),?_⟩
  exact ((((Below.refl _ _).alloc (Nat.le_refl _) _).alloc (by simp) _).alloc (by simp;omega) _).alloc (by simp;omega) _

theorem wide_any (a0 a1:Int)(w:World) :
  Calls Tryz.prog 118 #[.agg #[.int .u64 a0,.int .u64 a1]] w fun e w' =>
   e= .returned (.agg #[.int .i64 (wrap64 a1),.int .u64 a0])∧Below w.heap.size w w':=by
 go_enter Tryz.func118,Tryz.ntmps118
 go_wp2
 refine bodyPost_ret (v:=.agg #[.int .i64 (wrap64 a1),.int .u64 a0]) (by simp [results,Tryz.results118,go_sem]) rfl ⟨rfl,?_⟩
 exact ((Below.refl _ _).alloc (Nat.le_refl _) _).alloc (by simp) _

theorem Of_any (a:Int)(w:World) :
  Calls Tryz.prog 117 #[.int .i64 a] w fun e w' =>
   e= .returned (.agg #[.int .i64 (a / 9223372036854775808),.int .u64 (a%18446744073709551616)])∧Below w.heap.size w w':=by
 go_enter Tryz.func117,Tryz.ntmps117
 go_wp2
 refine bodyPost_ret (v:=.agg #[.int .i64 (a / 9223372036854775808),.int .u64 (IntKind.u64.wrap a)]) (by simp [results,Tryz.results117,go_sem]) rfl ⟨ret_agg rfl (IntKind.wrap_u64 a),?_⟩
 exact (Below.refl _ _).alloc (Nat.le_refl _) _

theorem lowHalf_any (a:Int)(w:World)(_h1:0≤a)(_h2:a≤18446744073709551615) :
  Calls Tryz.prog 148 #[.int .u64 a] w fun e w'=>e= .returned (.int .u64 (a%4294967296))∧w=w':=by
 go_enter Tryz.func148,Tryz.ntmps148
 go_wp2
 go_ret
 exact ⟨rfl,rfl⟩

theorem highHalf_any (a:Int)(w:World)(_h1:0≤a)(_h2:a≤18446744073709551615) :
  Calls Tryz.prog 149 #[.int .u64 a] w fun e w'=>e= .returned (.int .u64 (a / 4294967296))∧w=w':=by
 go_enter Tryz.func149,Tryz.ntmps149
 go_wp2
 go_ret
 exact ⟨rfl,rfl⟩

theorem size_any (a:Int)(w:World)(h1: -9223372036854775808≤a)(h2:a≤9223372036854775807) :
  Calls Tryz.prog 122 #[.int .i64 a] w fun e w'=>e= .returned (.int .u64 (a.natAbs:Int))∧w=w':=by
 by_cases c:a<0
 ·have e1:IntKind.u64.wrap (wrap64 (-a))=(a.natAbs:Int):=by rw [IntKind.wrap_u64];unfold wrap64;omega
  go_enter Tryz.func122,Tryz.ntmps122
  go_wp2
  go_ret
  exact ⟨ret_one rfl,rfl⟩
 ·have e1:a=(a.natAbs:Int):=by omega
  have E:=Lib.hid e1
  clear e1
  go_enter Tryz.func122,Tryz.ntmps122
  go_wp2
  go_ret
  exact ⟨ret_one E.out,rfl⟩

theorem opposite_any (a0 a1:Int)(w:World)(h1:0≤a0)(h2:a0≤18446744073709551615)(h3:0≤a1)(h4:a1≤18446744073709551615) :
  Calls Tryz.prog 123 #[.agg #[.int .u64 a0,.int .u64 a1]] w fun e w' =>
   e= .returned (.agg #[.int .u64 ((18446744073709551616 - a0)%18446744073709551616),.int .u64 ((18446744073709551615 - a1+(18446744073709551616 - a0) / 18446744073709551616)%18446744073709551616)])∧Below w.heap.size w w':=by
 have hs:IntKind.u64.signed=false:=rfl
 have x0:=u64_not h1 h2
 have x1:=u64_not h3 h4
 go_enter Tryz.func123,Tryz.ntmps123
 go_wp2_with fail
 clear x0 x1 hs
 refine (plus_any _ _ _ _ _ (by omega) (by omega) (by omega) (by omega)).mono ?_
 rintro e w' ⟨rfl,hb⟩
 obtain ⟨hc,hf⟩:=bcell hb
 go_wp2
 refine bodyPost_ret (v:=.agg #[.int .u64 ((18446744073709551615 - a0+1)%18446744073709551616),.int .u64 ((18446744073709551615 - a1+(18446744073709551615 - a0+1) / 18446744073709551616)%18446744073709551616)]) (by simp [results,Tryz.results123,go_sem,hc]) rfl ⟨ret_agg (by omega) (by omega),?_⟩
 exact ((((((Below.refl _ _).alloc (Nat.le_refl _) _).alloc (by simp) _).trans (hb.mono (by simp;omega))).setCell (by simp) _).setCell (by simp) _)

end Go.Proofs.YtoilomigceijaaaGreatDoor.Vc

namespace Go.Proofs.YtoilomigceijaaaGreatDoor.Vc
open Go.RowKit Vm
attribute [local go_sem ↓] Go.wp_at_zero Go.wp_at_succ

set_option maxHeartbeats 400000

def Tells (x:Int)(w:World)(e:Ending)(w':World):Prop:=∃ h l er:Int,e= .returned (.tuple #[.agg #[.int .i64 h,.int .u64 l],.int .i64 er])∧Res x h l er∧Below w.heap.size w w'

end Go.Proofs.YtoilomigceijaaaGreatDoor.Vc

namespace Go.Proofs.YtoilomigceijaaaGreatDoor.Vc
open Go.RowKit Vm
attribute [local go_sem ↓] Go.wp_at_zero Go.wp_at_succ

set_option maxHeartbeats 400000

theorem wordsOf_to (h l r:Int)(w:World)(e:Hid (h%18446744073709551616=r)) :
  Calls Tryz.prog 116 #[.agg #[.int .i64 h,.int .u64 l]] w fun e w'=>e= .returned (.agg #[.int .u64 l,.int .u64 r])∧Below w.heap.size w w':=by
 rw [← e.out];exact wordsOf_any h l w

theorem opposite_to (a0 a1 r0 r1:Int)(w:World)(h1:0≤a0)(h2:a0≤18446744073709551615)(h3:0≤a1)(h4:a1≤18446744073709551615)
  (e0:Hid ((18446744073709551616 - a0)%18446744073709551616=r0)) (e1:Hid ((18446744073709551615 - a1+(18446744073709551616 - a0) / 18446744073709551616)%18446744073709551616=r1)) :
  Calls Tryz.prog 123 #[.agg #[.int .u64 a0,.int .u64 a1]] w fun e w'=>e= .returned (.agg #[.int .u64 r0,.int .u64 r1])∧Below w.heap.size w w':=by
 rw [← e0.out,← e1.out];exact opposite_any a0 a1 w h1 h2 h3 h4

theorem wide_to (a0 a1 r:Int)(w:World)(e:Hid (wrap64 a1=r)) :
  Calls Tryz.prog 118 #[.agg #[.int .u64 a0,.int .u64 a1]] w fun e w'=>e= .returned (.agg #[.int .i64 r,.int .u64 a0])∧Below w.heap.size w w':=by
 rw [← e.out];exact wide_any a0 a1 w

theorem below_step {B:Nat}{W0 W w1:World}{R:Prop}(hB:B≤W0.heap.size)(h:Below B W0 W∧R)(hb:Below W.heap.size W w1):Below B W0 w1:=h.1.trans (hb.mono (Nat.le_trans hB h.1.size))
theorem bcellB {B:Nat}{W w1:World}(hb:Below B W w1):(∀ b o,b<B→w1.cell? ⟨b,o,none⟩=W.cell? ⟨b,o,none⟩)∧(∀ b o,b<B→w1.frozen? ⟨b,o,none⟩=W.frozen? ⟨b,o,none⟩) :=
 ⟨fun b o h=>hb.cell (p:=⟨b,o,none⟩) h,fun b o h=>hb.frozen (p:=⟨b,o,none⟩) h⟩

end Go.Proofs.YtoilomigceijaaaGreatDoor.Vc

namespace Go.Proofs.YtoilomigceijaaaGreatDoor.Vm
open Go.RowKit (wrap32 wrap64)

def Fit1 (x:Int):Prop:= -9223372036854775808≤x∧x≤9223372036854775807
def Res1 (x v er:Int):Prop:=(er=0∧v=x∧Fit1 x)∨(er=2∧v=0∧¬ Fit1 x)
theorem res1_unique {x v er v' er':Int}(r:Res1 x v er)(r':Res1 x v' er'):v=v'∧er=er':=by
 rcases r with ⟨e1,e2,e3⟩|⟨e1,e2,e3⟩<;>rcases r' with ⟨f1,f2,f3⟩|⟨f1,f2,f3⟩
 ·exact ⟨e2.trans f2.symm,e1.trans f1.symm⟩
 ·exact absurd e3 f3
 ·exact absurd f3 e3
 ·exact ⟨e2.trans f2.symm,e1.trans f1.symm⟩
theorem res1_ex (x:Int):∃ v er,Res1 x v er:=by
 by_cases f:Fit1 x
 ·exact ⟨x,0,Or.inl ⟨rfl,rfl,f⟩⟩
 ·exact ⟨0,2,Or.inr ⟨rfl,rfl,f⟩⟩
theorem fit_yes {h l n q:Int}(b:Bd h l)(e:wrap64 l=n)(eq:n / 9223372036854775808=q)(c:q=h):Res1 (num h l) n 0:=by
 refine Or.inl ⟨rfl,?_,?_⟩
 ·unfold wrap64 at e;unfold Bd at b;unfold num;omega
 ·unfold wrap64 at e;unfold Bd at b;unfold num Fit1;omega
theorem fit_no {h l n q:Int}(b:Bd h l)(e:wrap64 l=n)(eq:n / 9223372036854775808=q)(c:q≠h):Res1 (num h l) 0 2:=by
 refine Or.inr ⟨rfl,rfl,?_⟩
 unfold wrap64 at e;unfold Bd at b;unfold num Fit1;omega

end Go.Proofs.YtoilomigceijaaaGreatDoor.Vm

namespace Go.Proofs.YtoilomigceijaaaGreatDoor.Vc
open Go.RowKit Vm
attribute [local go_sem ↓] Go.wp_at_zero Go.wp_at_succ

set_option maxHeartbeats 400000

def Tells1 (x:Int)(w:World)(e:Ending)(w':World):Prop:=∃ v er:Int,e= .returned (.tuple #[.int .i64 v,.int .i64 er])∧Res1 x v er∧Below w.heap.size w w'

theorem Of_to (a h l:Int)(w:World)(e1:Hid (a / 9223372036854775808=h))(e0:Hid (a%18446744073709551616=l)) :
  Calls Tryz.prog 117 #[.int .i64 a] w fun e w' =>
   e= .returned (.agg #[.int .i64 h,.int .u64 l])∧Below w.heap.size w w':=by
 rw [← e1.out,← e0.out];exact Of_any a w

theorem Fit_tells (h l:Int)(w:World)(b1:Bd h l) :
  Calls Tryz.prog 72 #[.agg #[.int .i64 h,.int .u64 l]] w (Tells1 (num h l) w):=by
 have B1:=b1
 unfold Bd at b1
 obtain ⟨_,_,b1,b2⟩:=b1
 obtain ⟨n,hn⟩:∃ s,wrap64 l=s:=⟨_,rfl⟩
 obtain ⟨q,hq⟩:∃ s,n / 9223372036854775808=s:=⟨_,rfl⟩
 have hl:n%18446744073709551616=l:=by unfold wrap64 at hn;omega
 have HN:=Lib.hid hn
 replace hq:=Lib.hid hq
 replace hl:=Lib.hid hl
 clear b1 b2
 by_cases c:q=h
 ·have R:=Lib.hid (fit_yes B1 HN.out hq.out c)
  subst c
  go_enter Tryz.func72,Tryz.ntmps72
  go_wp2
  go_region_held3 (fun w'=>Below (w.heap.size+1) (w.alloc (.cells #[.int .i64 q,.int .u64 l] 84)) w'∧w'.cell? ⟨w.heap.size,0,none⟩=some (.int .i64 q)∧w'.cell? ⟨w.heap.size,1,none⟩=some (.int .u64 l))
   (first|exact ⟨(Below.refl _ _).drew,by simp [go_sem],by simp [go_sem]⟩|exact ⟨hB,by simp [hc,go_sem],by simp [hc,go_sem]⟩)
   (first|(go_at_call 117;refine (Of_to _ q l _ hq hl).mono ?_;rintro e w1 ⟨rfl,hb⟩;have hB:=below_step (B:=w.heap.size+1) (W0:=w.alloc (.cells #[.int .i64 q,.int .u64 l] 84)) (by simp) (by assumption) hb;obtain ⟨hc,hf⟩:=bcellB hB))
  all_goals go_wp2
  all_goals
   go_ret2
   exact ⟨n,0,rfl,R.out,((Below.refl _ _).alloc (Nat.le_refl _) _).trans (hB.mono (by omega))⟩
 ·have R:=Lib.hid (fit_no B1 HN.out hq.out c)
  have d1:(q==h)=false:=beq_eq_false_iff_ne.2 c
  have d2:decide (q=h)=false:=decide_eq_false c
  go_enter Tryz.func72,Tryz.ntmps72
  go_wp2
  go_region_held3 (fun w'=>Below (w.heap.size+1) (w.alloc (.cells #[.int .i64 h,.int .u64 l] 84)) w'∧w'.cell? ⟨w.heap.size,0,none⟩=some (.int .i64 h)∧w'.cell? ⟨w.heap.size,1,none⟩=some (.int .u64 l))
   (first|exact ⟨(Below.refl _ _).drew,by simp [go_sem],by simp [go_sem]⟩|exact ⟨hB,by simp [hc,go_sem],by simp [hc,go_sem]⟩)
   (first|(go_at_call 117;refine (Of_to _ q l _ hq hl).mono ?_;rintro e w1 ⟨rfl,hb⟩;have hB:=below_step (B:=w.heap.size+1) (W0:=w.alloc (.cells #[.int .i64 h,.int .u64 l] 84)) (by simp) (by assumption) hb;obtain ⟨hc,hf⟩:=bcellB hB))
  all_goals go_wp2
  all_goals
   go_ret2
   exact ⟨0,2,rfl,R.out,((Below.refl _ _).alloc (Nat.le_refl _) _).trans (hB.mono (by omega))⟩

theorem Fit_any (h l v er:Int)(w:World)(b1:Bd h l)(r:Res1 (num h l) v er) :
  Calls Tryz.prog 72 #[.agg #[.int .i64 h,.int .u64 l]] w fun e w' =>
   e= .returned (.tuple #[.int .i64 v,.int .i64 er])∧Below w.heap.size w w' :=
 (Fit_tells h l w b1).mono fun e w' ⟨v',er',he,r',hb⟩=>by
  obtain ⟨rfl,rfl⟩:=res1_unique r r'
  exact ⟨he,hb⟩

end Go.Proofs.YtoilomigceijaaaGreatDoor.Vc

namespace Go.Proofs.YtoilomigceijaaaGreatDoor.Vm
open Go.RowKit (wrap32 wrap64)

theorem half_prod {x y:Int}(hx0:0≤x)(hx:x≤4294967295)(hy0:0≤y)(hy:y≤4294967295):0≤x*y∧x*y≤18446744065119617025:=by
 refine ⟨Int.mul_nonneg hx0 hy0,?_⟩
 have h1:x*y≤4294967295*y:=Int.mul_le_mul_of_nonneg_right hx hy0
 omega

theorem prod_halves {x y xl xh yl yh lh ll fl fh sh sl:Int}(ex:x=xh*4294967296+xl)(ey:y=yh*4294967296+yl)
  (e1:xl*yl=lh*4294967296+ll) (e2:xh*yl+lh=fh*4294967296+fl) (e3:xl*yh+fl=sh*4294967296+sl) :
  x*y=(xh*yh+fh+sh)*18446744073709551616+(sl*4294967296+ll):=by
 subst ex ey
 have e:(xh*4294967296+xl)*(yh*4294967296+yl)=xh*yh*18446744073709551616+(xh*yl+xl*yh)*4294967296+xl*yl:=by
  simp only [Int.add_mul,Int.mul_add]
  have e1:xh*4294967296*(yh*4294967296)=xh*yh*18446744073709551616:=by
   rw [Int.mul_assoc,Int.mul_left_comm 4294967296,← Int.mul_assoc];rfl
  have e2:xh*4294967296*yl=xh*yl*4294967296:=by rw [Int.mul_right_comm]
  have e3:xl*(yh*4294967296)=xl*yh*4294967296:=by rw [Int.mul_assoc]
  omega
 rw [e]
 omega

theorem prod_size {a b:Int}(ha:Fit1 a)(hb:Fit1 b):0≤(a.natAbs:Int)*(b.natAbs:Int)∧(a.natAbs:Int)*(b.natAbs:Int)≤85070591730234615865843651857942052864:=by
 unfold Fit1 at ha hb
 have h1:a.natAbs*b.natAbs≤9223372036854775808*9223372036854775808:=Nat.mul_le_mul (by omega) (by omega)
 have e:(a.natAbs:Int)*(b.natAbs:Int)=((a.natAbs*b.natAbs:Nat):Int):=(Int.natCast_mul _ _).symm
 omega
theorem prod_same {a b:Int}(h:(a<0∧b<0)∨(0≤a∧0≤b)):(a.natAbs:Int)*(b.natAbs:Int)=a*b:=by
 rcases h with ⟨h1,h2⟩|⟨h1,h2⟩
 ·have ea:(a.natAbs:Int)= -a:=by omega
  have eb:(b.natAbs:Int)= -b:=by omega
  rw [ea,eb,Int.neg_mul_neg]
 ·have ea:(a.natAbs:Int)=a:=by omega
  have eb:(b.natAbs:Int)=b:=by omega
  rw [ea,eb]
theorem prod_diff {a b:Int}(h:(a<0∧0≤b)∨(0≤a∧b<0)):(a.natAbs:Int)*(b.natAbs:Int)= -(a*b):=by
 rcases h with ⟨h1,h2⟩|⟨h1,h2⟩
 ·have ea:(a.natAbs:Int)= -a:=by omega
  have eb:(b.natAbs:Int)=b:=by omega
  rw [ea,eb,Int.neg_mul]
 ·have ea:(a.natAbs:Int)=a:=by omega
  have eb:(b.natAbs:Int)= -b:=by omega
  rw [ea,eb,Int.mul_neg]
theorem mul_same {p x h l:Int}(h0:0≤p)(h1:p≤85070591730234615865843651857942052864)(e:p=x)(b:Bd h l)(n:num h l=x):p%18446744073709551616=l∧wrap64 (p / 18446744073709551616)=h:=by
 subst e;unfold wrap64;unfold Bd at b;unfold num at n;omega
theorem mul_diff {p x h l:Int}(h0:0≤p)(h1:p≤85070591730234615865843651857942052864)(e:p= -x)(b:Bd h l)(n:num h l=x) :
  (18446744073709551616 - p%18446744073709551616)%18446744073709551616=l∧wrap64 ((18446744073709551615 - p / 18446744073709551616+(18446744073709551616 - p%18446744073709551616) / 18446744073709551616)%18446744073709551616)=h:=by
 subst e;unfold wrap64;unfold Bd at b;unfold num at n;omega

end Go.Proofs.YtoilomigceijaaaGreatDoor.Vm

namespace Go.Proofs.YtoilomigceijaaaGreatDoor.Vc
open Go.RowKit Vm

set_option maxHeartbeats 400000

theorem low_to (a r:Int)(w:World)(h1:0≤a)(h2:a≤18446744073709551615)(e:Hid (a%4294967296=r)) :
  Calls Tryz.prog 148 #[.int .u64 a] w fun e w'=>e= .returned (.int .u64 r)∧w=w':=by
 rw [← e.out];exact lowHalf_any a w h1 h2
theorem high_to (a r:Int)(w:World)(h1:0≤a)(h2:a≤18446744073709551615)(e:Hid (a / 4294967296=r)) :
  Calls Tryz.prog 149 #[.int .u64 a] w fun e w'=>e= .returned (.int .u64 r)∧w=w':=by
 rw [← e.out];exact highHalf_any a w h1 h2

set_option maxHeartbeats 1000000 in
theorem multiply_any (x y:Int)(w:World)(bx0:0≤x)(bx:x≤18446744073709551615)(by0:0≤y)(by1:y≤18446744073709551615) :
  Calls Tryz.prog 121 #[.int .u64 x,.int .u64 y] w fun e w' =>
   e= .returned (.agg #[.int .u64 (x*y%18446744073709551616),.int .u64 (x*y / 18446744073709551616)])∧Below w.heap.size w w':=by
 obtain ⟨xl,hxl⟩:∃ s,x%4294967296=s:=⟨_,rfl⟩
 obtain ⟨xh,hxh⟩:∃ s,x / 4294967296=s:=⟨_,rfl⟩
 obtain ⟨yl,hyl⟩:∃ s,y%4294967296=s:=⟨_,rfl⟩
 obtain ⟨yh,hyh⟩:∃ s,y / 4294967296=s:=⟨_,rfl⟩
 have c1:0≤xl∧xl≤4294967295:=by omega
 have c2:0≤xh∧xh≤4294967295:=by omega
 have c3:0≤yl∧yl≤4294967295:=by omega
 have c4:0≤yh∧yh≤4294967295:=by omega
 obtain ⟨p1,p2⟩:=half_prod c1.1 c1.2 c3.1 c3.2
 obtain ⟨p3,p4⟩:=half_prod c2.1 c2.2 c3.1 c3.2
 obtain ⟨p5,p6⟩:=half_prod c1.1 c1.2 c4.1 c4.2
 obtain ⟨p7,p8⟩:=half_prod c2.1 c2.2 c4.1 c4.2
 obtain ⟨ll,hll⟩:∃ s,xl*yl%4294967296=s:=⟨_,rfl⟩
 obtain ⟨lh,hlh⟩:∃ s,xl*yl / 4294967296=s:=⟨_,rfl⟩
 have c5:0≤lh∧lh≤4294967294:=by omega
 have c5':0≤ll∧ll≤4294967295:=by omega
 obtain ⟨fl,hfl⟩:∃ s,(xh*yl+lh)%4294967296=s:=⟨_,rfl⟩
 obtain ⟨fh,hfh⟩:∃ s,(xh*yl+lh) / 4294967296=s:=⟨_,rfl⟩
 have c6:0≤fl∧fl≤4294967295:=by omega
 have c7:0≤fh∧fh≤4294967295:=by omega
 obtain ⟨sl,hsl⟩:∃ s,(xl*yh+fl)%4294967296=s:=⟨_,rfl⟩
 obtain ⟨sh,hsh⟩:∃ s,(xl*yh+fl) / 4294967296=s:=⟨_,rfl⟩
 have c8:0≤sh∧sh≤4294967295:=by omega
 have c9:0≤sl∧sl≤4294967295:=by omega
 have P:=prod_halves (x:=x) (y:=y) (xl:=xl) (xh:=xh) (yl:=yl) (yh:=yh) (lh:=lh) (ll:=ll) (fl:=fl) (fh:=fh) (sh:=sh) (sl:=sl) (by omega) (by omega) (by omega) (by omega) (by omega)
 have q1:xh*yh+fh+sh≤18446744073709551615:=by
  have l1:x*y≤18446744073709551615*y:=Int.mul_le_mul_of_nonneg_right bx by0
  omega
 have R0:=Lib.hid (show x*y%18446744073709551616=sl*4294967296+ll by omega)
 have R1:=Lib.hid (show x*y / 18446744073709551616=xh*yh+fh+sh by omega)
 have q2:xl*yh+fl≤18446744073709551615:=by omega
 have q3:xh*yl+lh≤18446744073709551615:=by omega
 have q4:0≤xh*yl+lh:=by omega
 have q5:0≤xl*yh+fl:=by omega
 have SH:=Lib.hid (show (xl*yh+fl)*4294967296%18446744073709551616=sl*4294967296 by omega)
 have orf:bits .or .u64 (sl*4294967296) ll=sl*4294967296+ll:=or_half (by omega) (by omega) (by omega) c5'.1 c5'.2
 clear P
 obtain ⟨c51,c52⟩:=c5
 obtain ⟨c61,c62⟩:=c6
 obtain ⟨c71,c72⟩:=c7
 obtain ⟨c81,c82⟩:=c8
 replace hxl:=Lib.hid hxl
 replace hxh:=Lib.hid hxh
 replace hyl:=Lib.hid hyl
 replace hyh:=Lib.hid hyh
 replace hll:=Lib.hid hll
 replace hlh:=Lib.hid hlh
 replace hfl:=Lib.hid hfl
 replace hfh:=Lib.hid hfh
 replace hsl:=Lib.hid hsl
 replace hsh:=Lib.hid hsh
 rw [R0.out,R1.out]
 have p9:xl*yl≤18446744073709551615:=by omega
 clear c1 c2 c3 c4 c5' c9
 go_enter Tryz.func121,Tryz.ntmps121
 go_wp2_with fail
 refine (low_to x _ _ bx0 bx hxl).mono ?_
 rintro e w' ⟨rfl,rfl⟩
 go_wp2_with fail
 refine (low_to y _ _ by0 by1 hyl).mono ?_
 rintro e w' ⟨rfl,rfl⟩
 go_wp2_with fail
 refine (high_to x _ _ bx0 bx hxh).mono ?_
 rintro e w' ⟨rfl,rfl⟩
 go_wp2_with fail
 refine (low_to y _ _ by0 by1 hyl).mono ?_
 rintro e w' ⟨rfl,rfl⟩
 go_wp2_with fail
 refine (high_to (xl*yl) _ _ p1 p9 hlh).mono ?_
 rintro e w' ⟨rfl,rfl⟩
 go_wp2_with fail
 refine (low_to x _ _ bx0 bx hxl).mono ?_
 rintro e w' ⟨rfl,rfl⟩
 go_wp2_with fail
 refine (high_to y _ _ by0 by1 hyh).mono ?_
 rintro e w' ⟨rfl,rfl⟩
 go_wp2_with fail
 refine (low_to (xh*yl+lh) _ _ q4 q3 hfl).mono ?_
 rintro e w' ⟨rfl,rfl⟩
 go_wp2_with fail
 refine (high_to x _ _ bx0 bx hxh).mono ?_
 rintro e w' ⟨rfl,rfl⟩
 go_wp2_with fail
 refine (high_to y _ _ by0 by1 hyh).mono ?_
 rintro e w' ⟨rfl,rfl⟩
 go_wp2_with fail
 refine (high_to (xh*yl+lh) _ _ q4 q3 hfh).mono ?_
 rintro e w' ⟨rfl,rfl⟩
 go_wp2_with fail
 refine (high_to (xl*yh+fl) _ _ q5 q2 hsh).mono ?_
 rintro e w' ⟨rfl,rfl⟩
 go_wp2_with fail
 refine (low_to (xl*yl) _ _ p1 p9 hll).mono ?_
 rintro e w' ⟨rfl,rfl⟩
 go_wp2
 refine bodyPost_ret (v:=.agg #[.int .u64 (bits BinOp.or IntKind.u64 (IntKind.u64.wrap ((xl*yh+fl)*4294967296)) ll),.int .u64 (xh*yh+fh+sh)]) (by simp [results,Tryz.results121,go_sem]) rfl ⟨ret_agg (by rw [IntKind.wrap_u64,SH.out,orf]) rfl,?_⟩
 exact (Below.refl _ _).alloc (Nat.le_refl _) _

theorem multiply_to (x y r0 r1:Int)(w:World)(bx0:0≤x)(bx:x≤18446744073709551615)(by0:0≤y)(by1:y≤18446744073709551615)
  (e0:Hid (x*y%18446744073709551616=r0)) (e1:Hid (x*y / 18446744073709551616=r1)) :
  Calls Tryz.prog 121 #[.int .u64 x,.int .u64 y] w fun e w'=>e= .returned (.agg #[.int .u64 r0,.int .u64 r1])∧Below w.heap.size w w':=by
 rw [← e0.out,← e1.out];exact multiply_any x y w bx0 bx by0 by1

theorem Mul_any (a b h l:Int)(w:World)(ha:Fit1 a)(hb:Fit1 b)(bd:Bd h l)(hn:num h l=a*b) :
  Calls Tryz.prog 71 #[.int .i64 a,.int .i64 b] w fun e w'=>e= .returned (.agg #[.int .i64 h,.int .u64 l])∧Below w.heap.size w w':=by
 obtain ⟨p0,p1⟩:=prod_size ha hb
 have sa:=fun w=>size_any a w ha.1 ha.2
 have sb:=fun w=>size_any b w hb.1 hb.2
 obtain ⟨x,hx⟩:∃ s,(a.natAbs:Int)=s:=⟨_,rfl⟩
 obtain ⟨y,hy⟩:∃ s,(b.natAbs:Int)=s:=⟨_,rfl⟩
 rw [hx] at sa
 rw [hy] at sb
 have bx:0≤x∧x≤18446744073709551615:=by unfold Fit1 at ha;omega
 have by_:0≤y∧y≤18446744073709551615:=by unfold Fit1 at hb;omega
 obtain ⟨u0,hu0⟩:∃ s,x*y%18446744073709551616=s:=⟨_,rfl⟩
 obtain ⟨u1,hu1⟩:∃ s,x*y / 18446744073709551616=s:=⟨_,rfl⟩
 have bu0:0≤u0∧u0≤18446744073709551615:=by omega
 rw [hx,hy] at p0 p1
 have bu1:0≤u1∧u1≤18446744073709551615:=by omega
 have D:=fun (c:(a<0∧0≤b)∨(0≤a∧b<0))=>mul_diff (p:=x*y) p0 p1 (by rw [← hx,← hy];exact prod_diff c) bd hn
 have E:=fun (c:(a<0∧b<0)∨(0≤a∧0≤b))=>mul_same (p:=x*y) p0 p1 (by rw [← hx,← hy];exact prod_same c) bd hn
 rw [hu0,hu1] at D E
 replace hu0:=Lib.hid hu0
 replace hu1:=Lib.hid hu1
 clear hx hy hn p0 p1 ha hb
 by_cases s:(a<0∧b<0)∨(0≤a∧0≤b)
 ·obtain ⟨d0,d1⟩:=E s
  replace d1:=Lib.hid d1
  subst d0
  clear E D
  have cs:(decide (a<0)=true∧decide (b<0)=true)∨(decide (a<0)=false∧decide (b<0)=false):=by
   simp only [decide_eq_true_eq,decide_eq_false_iff_not];omega
  clear s
  rcases cs with ⟨s1,s2⟩|⟨s1,s2⟩
  all_goals
   go_enter Tryz.func71,Tryz.ntmps71
   go_wp2_with fail
   refine (sa _).mono ?_
   rintro e w' ⟨rfl,rfl⟩
   go_wp2_with fail
   refine (sb _).mono ?_
   rintro e w' ⟨rfl,rfl⟩
   go_wp2_with fail
   refine (multiply_to _ _ _ _ _ bx.1 bx.2 by_.1 by_.2 hu0 hu1).mono ?_
   rintro e w1 ⟨rfl,hb1⟩
   obtain ⟨hc1,hf1⟩:=bcell hb1
   have z1:w.heap.size<w1.heap.size:=by have:=hb1.size;simp at this;omega
   go_wp2_with fail
   refine (wide_to _ _ h _ d1).mono ?_
   rintro e w2 ⟨rfl,hb2⟩
   have hbs:=hb2.size
   obtain ⟨hc2,hf2⟩:=bcell hb2
   have k0':w2.cell? ⟨w.heap.size,0,none⟩=some (.int .i64 0):=by rw [hc2 _ _ (by simp<;>omega)];simp [z1,hc1,go_sem]
   have k1':w2.cell? ⟨w.heap.size,1,none⟩=some (.int .u64 0):=by rw [hc2 _ _ (by simp<;>omega)];simp [z1,hc1,go_sem]
   have f0':w2.frozen? ⟨w.heap.size,0,none⟩=false:=by rw [hf2 _ _ (by simp<;>omega)];simp [z1,hf1,go_sem]
   have f1':w2.frozen? ⟨w.heap.size,1,none⟩=false:=by rw [hf2 _ _ (by simp<;>omega)];simp [z1,hf1,go_sem]
   clear hc2 hf2 hc1 hf1
   go_wp2
   refine bodyPost_ret (v:=.agg #[.int .i64 h,.int .u64 u0]) (by simp [results,Tryz.results71,go_sem,k0',k1']) rfl ⟨rfl,?_⟩
   exact (((((Below.refl _ _).alloc (Nat.le_refl _) _).trans (hb1.mono (by simp))).alloc (by omega) _).trans (hb2.mono (by simp;omega))).setCell (by simp) _ |>.setCell (by simp) _
 ·obtain ⟨d0,d1⟩:=D (by omega)
  obtain ⟨t1,ht1⟩:∃ s,(18446744073709551615 - u1+(18446744073709551616 - u0) / 18446744073709551616)%18446744073709551616=s:=⟨_,rfl⟩
  rw [ht1] at d1
  replace d0:=Lib.hid d0
  replace d1:=Lib.hid d1
  replace ht1:=Lib.hid ht1
  clear E D
  have cs:(decide (a<0)=true∧decide (b<0)=false)∨(decide (a<0)=false∧decide (b<0)=true):=by
   simp only [decide_eq_true_eq,decide_eq_false_iff_not];omega
  clear s
  rcases cs with ⟨s1,s2⟩|⟨s1,s2⟩
  all_goals
   go_enter Tryz.func71,Tryz.ntmps71
   go_wp2_with fail
   refine (sa _).mono ?_
   rintro e w' ⟨rfl,rfl⟩
   go_wp2_with fail
   refine (sb _).mono ?_
   rintro e w' ⟨rfl,rfl⟩
   go_wp2_with fail
   refine (multiply_to _ _ _ _ _ bx.1 bx.2 by_.1 by_.2 hu0 hu1).mono ?_
   rintro e w1 ⟨rfl,hb1⟩
   obtain ⟨hc1,hf1⟩:=bcell hb1
   have z1:w.heap.size<w1.heap.size:=by have:=hb1.size;simp at this;omega
   go_wp2_with fail
   refine (opposite_to _ _ l t1 _ bu0.1 bu0.2 bu1.1 bu1.2 d0 ht1).mono ?_
   rintro e w3 ⟨rfl,hb3⟩
   obtain ⟨hc3,hf3⟩:=bcell hb3
   have z3:w1.heap.size<w3.heap.size:=by have:=hb3.size;simp at this;omega
   have z4:w.heap.size<w3.heap.size:=by omega
   have z5:¬ w.heap.size=w1.heap.size:=by omega
   have k0:w3.cell? ⟨w.heap.size,0,none⟩=some (.int .i64 0):=by simp [hc3,hc1,z1,go_sem]
   have k1:w3.cell? ⟨w.heap.size,1,none⟩=some (.int .u64 0):=by simp [hc3,hc1,z1,go_sem]
   have f0:w3.frozen? ⟨w.heap.size,0,none⟩=false:=by simp [hf3,hf1,z1,go_sem]
   have f1:w3.frozen? ⟨w.heap.size,1,none⟩=false:=by simp [hf3,hf1,z1,go_sem]
   have b3:Below w.heap.size w w3:=((((Below.refl _ _).alloc (Nat.le_refl _) _).trans (hb1.mono (by simp))).alloc (by omega) _).trans (hb3.mono (by simp;omega))
   go_wp2_with fail
   refine (wide_to _ _ h _ d1).mono ?_
   rintro e w2 ⟨rfl,hb2⟩
   have hbs:=hb2.size
   obtain ⟨hc2,hf2⟩:=bcell hb2
   have k0':w2.cell? ⟨w.heap.size,0,none⟩=some (.int .i64 0):=by rw [hc2 _ _ (by simp<;>omega)];simp [k0,go_sem]
   have k1':w2.cell? ⟨w.heap.size,1,none⟩=some (.int .u64 0):=by rw [hc2 _ _ (by simp<;>omega)];simp [k1,go_sem]
   have f0':w2.frozen? ⟨w.heap.size,0,none⟩=false:=by rw [hf2 _ _ (by simp<;>omega)];simp [f0,go_sem]
   have f1':w2.frozen? ⟨w.heap.size,1,none⟩=false:=by rw [hf2 _ _ (by simp<;>omega)];simp [f1,go_sem]
   clear hc2 hf2 hc1 hf1 hc3 hf3
   go_wp2
   refine bodyPost_ret (v:=.agg #[.int .i64 h,.int .u64 l]) (by simp [results,Tryz.results71,go_sem,k0',k1']) rfl ⟨rfl,?_⟩
   exact ((b3.setCell (by simp<;>omega) _).setCell (by simp<;>omega) _).trans (hb2.mono (by simp<;>omega)) |>.setCell (by simp) _ |>.setCell (by simp) _

end Go.Proofs.YtoilomigceijaaaGreatDoor.Vc

namespace Go.Proofs.YtoilomigceijaaaGreatDoor.Vm
open Go.RowKit (wrap32 wrap64)

def DI (T b:Int)(k:Nat)(r l q:Int):Prop :=
 0≤r∧r<b∧0≤q∧q<2 ^ k∧∃ t:Int,0≤t∧t<2 ^ (64 - k)∧l=t*2 ^ k∧T=(q*b+r)*2 ^ (64 - k)+t

theorem di_start {b r l:Int}(h0:0≤r)(h1:r<b)(h2:0≤l)(h3:l≤18446744073709551615):DI (r*18446744073709551616+l) b 0 r l 0 :=
 ⟨h0,h1,Int.le_refl _,by omega,l,h2,by omega,by omega,by rw [Int.zero_mul,Int.zero_add];rfl⟩

theorem di_end {T b r l q:Int}(h:DI T b 64 r l q):T=q*b+r∧0≤r∧r<b∧0≤q∧q≤18446744073709551615:=by
 obtain ⟨h0,h1,h2,h3,t,h4,h5,_,h6⟩:=h
 have e:(2:Int) ^ (64 - 64)=1:=rfl
 rw [e] at h5 h6
 have e2:(2:Int) ^ 64=18446744073709551616:=rfl
 rw [e2] at h3
 exact ⟨by omega,h0,h1,h2,by omega⟩

theorem div_same {q b r q' r':Int}(h:q*b+r=q'*b+r')(h1:0≤r)(h2:r<b)(h3:0≤r')(h4:r'<b):q=q'∧r=r':=by
 have e1:(q*b+r) / b=q:=by rw [Int.add_comm,Int.add_mul_ediv_right _ _ (by omega),Int.ediv_eq_zero_of_lt h1 h2,Int.zero_add]
 have e2:(q'*b+r') / b=q':=by rw [Int.add_comm,Int.add_mul_ediv_right _ _ (by omega),Int.ediv_eq_zero_of_lt h3 h4,Int.zero_add]
 have e:q=q':=by rw [← e1,← e2,h]
 subst e
 exact ⟨rfl,by omega⟩

theorem pow_split (k:Nat)(hk:k<64):∃ P m:Int,(2:Int) ^ (64 - k)=2*P∧(2:Int) ^ (64 - (k+1))=P∧(2:Int) ^ k=m∧(2:Int) ^ (k+1)=2*m∧P*m=9223372036854775808∧0<P∧0<m:=by
 refine ⟨2 ^ (63 - k),2 ^ k,?_,?_,rfl,?_,?_,?_,?_⟩
 ·have:64 - k=(63 - k)+1:=by omega
  rw [this,Int.pow_succ,Int.mul_comm]
 ·have:64 - (k+1)=63 - k:=by omega
  rw [this]
 ·rw [Int.pow_succ,Int.mul_comm]
 ·rw [← Int.pow_add]
  have:63 - k+k=63:=by omega
  rw [this];rfl
 ·exact Int.pow_pos (by omega)
 ·exact Int.pow_pos (by omega)

theorem di_step {T b r l q:Int}{k:Nat}(hk:k<64)(h:DI T b k r l q) :
  0≤r∧r<b∧0≤l∧l≤18446744073709551615∧0≤q∧q≤9223372036854775807∧∃ bit l':Int,l / 9223372036854775808=bit∧0≤bit∧bit≤1∧IntKind.u64.wrap (l*2)=l'∧
   (b≤r*2+bit→DI T b (k+1) (r*2+bit - b) l' (q*2+1))∧(r*2+bit<b→DI T b (k+1) (r*2+bit) l' (q*2)):=by
 obtain ⟨P,m,e1,e2,e3,e4,e5,hP,hm⟩:=pow_split k hk
 unfold DI at h ⊢
 obtain ⟨h0,h1,h2,h3,t,h4,h5,h6,h7⟩:=h
 rw [e1] at h5 h7
 rw [e3] at h3 h6
 rw [e2,e4]
 have hm2:m≤9223372036854775808:=by
  have:1*m≤P*m:=Int.mul_le_mul_of_nonneg_right (by omega) (by omega)
  omega
 have ex:(q*b+r)*(2*P)=2*((q*b+r)*P):=by rw [← Int.mul_assoc,Int.mul_comm _ 2,Int.mul_assoc]
 have eq1:(q*2+1)*b=2*(q*b)+b:=by rw [Int.add_mul,Int.one_mul,Int.mul_right_comm,Int.mul_comm _ 2]
 have eq2:q*2*b=2*(q*b):=by rw [Int.mul_right_comm,Int.mul_comm _ 2]
 have ey:∀ c:Int,(2*(q*b+r)+c)*P=2*((q*b+r)*P)+c*P:=fun c=>by rw [Int.add_mul,Int.mul_assoc]
 by_cases c:t<P
 ·have l1:0≤t*m:=Int.mul_nonneg h4 (by omega)
  have l2:t*m<P*m:=Int.mul_lt_mul_of_pos_right c hm
  refine ⟨h0,h1,by omega,by omega,h2,by omega,0,l*2,by omega,by omega,by omega,by rw [IntKind.wrap_u64];omega,fun hc=>?_,fun hc=>?_⟩
  ·refine ⟨by omega,by omega,by omega,by omega,t,h4,c,by rw [h6,Int.mul_comm 2 m,← Int.mul_assoc],?_⟩
   rw [h7,ex,eq1]
   have:=ey 0
   rw [Int.zero_mul] at this
   have e9:2*(q*b)+b+(r*2+0 - b)=2*(q*b+r)+0:=by omega
   rw [e9,this];omega
  ·refine ⟨by omega,by omega,by omega,by omega,t,h4,c,by rw [h6,Int.mul_comm 2 m,← Int.mul_assoc],?_⟩
   rw [h7,ex,eq2]
   have:=ey 0
   rw [Int.zero_mul] at this
   have e9:2*(q*b)+(r*2+0)=2*(q*b+r)+0:=by omega
   rw [e9,this];omega
 ·obtain ⟨s,rfl⟩:∃ s,t=P+s:=⟨t - P,by omega⟩
  rw [Int.add_mul] at h6
  have l1:0≤s*m:=Int.mul_nonneg (by omega) (by omega)
  have l2:s*m<P*m:=Int.mul_lt_mul_of_pos_right (by omega) hm
  refine ⟨h0,h1,by omega,by omega,h2,by omega,1,s*(2*m),by omega,by omega,by omega,by rw [IntKind.wrap_u64,h6,Int.mul_comm 2 m,← Int.mul_assoc];omega,fun hc=>?_,fun hc=>?_⟩
  ·refine ⟨by omega,by omega,by omega,by omega,s,by omega,by omega,rfl,?_⟩
   rw [h7,ex,eq1]
   have:=ey 1
   rw [Int.one_mul] at this
   have e9:2*(q*b)+b+(r*2+1 - b)=2*(q*b+r)+1:=by omega
   rw [e9,this];omega
  ·refine ⟨by omega,by omega,by omega,by omega,s,by omega,by omega,rfl,?_⟩
   rw [h7,ex,eq2]
   have:=ey 1
   rw [Int.one_mul] at this
   have e9:2*(q*b)+(r*2+1)=2*(q*b+r)+1:=by omega
   rw [e9,this];omega

theorem div_two {h1 l1 b qh rh h l r:Int}(eh:qh*b+rh=h1)(rh0:0≤rh)(rh1:rh<b)(a3:0≤l1)(a4:l1≤18446744073709551615)(bd:Bd h l)
  (e:num h l*b+r=num h1 l1) (r0:0≤r) (r1:r<b):qh=h∧rh*18446744073709551616+l1=l*b+r:=by
 unfold Bd at bd
 unfold num at e
 have ex:(h*18446744073709551616+l)*b=h*b*18446744073709551616+l*b:=by rw [Int.add_mul,Int.mul_right_comm]
 have l0:0≤l*b:=Int.mul_nonneg bd.2.2.1 (by omega)
 have l2:l*b≤18446744073709551615*b:=Int.mul_le_mul_of_nonneg_right bd.2.2.2 (by omega)
 -- what is left of the high word beside h times b is 0 to b less 1
 have hq:=div_same (q:=qh) (r:=rh) (q':=h) (r':=h1 - h*b) (b:=b) (by omega) rh0 rh1 (by omega) (by omega)
 refine ⟨hq.1,?_⟩
 have:=hq.2
 omega

end Go.Proofs.YtoilomigceijaaaGreatDoor.Vm

namespace Go.Proofs.YtoilomigceijaaaGreatDoor.Wm
open Go.RowKit (wrap32 wrap64)

def Fit (x:Int):Prop:= -9223372036854775808≤x∧x≤9223372036854775807
instance (x:Int):Decidable (Fit x):=by unfold Fit;infer_instance

theorem tdiv_fit {a b:Int}(ha:Fit a)(h:¬ (a= -9223372036854775808∧b= -1)):Fit (a.tdiv b):=by
 have h1:(a.tdiv b).natAbs=a.natAbs / b.natAbs:=Int.natAbs_tdiv a b
 have h2:a.natAbs / b.natAbs≤a.natAbs:=Nat.div_le_self _ _
 unfold Fit at *
 by_cases hb:b= -1
 ·subst hb
  have h3:a.tdiv (-1)= -a:=by rw [Int.tdiv_neg,Int.tdiv_one]
  omega
 ·by_cases hb1:b.natAbs≤1
  ·have:b=0∨b=1:=by omega
   rcases this with h|h<;>subst h<;>simp [Int.tdiv_zero,Int.tdiv_one]
   omega
  ·have h4:a.natAbs / b.natAbs≤a.natAbs / 2:=Nat.div_le_div_left (by omega) (by omega)
   omega

def dq (a b:Int):Int:=if a.tmod b≠0∧¬ ((a.tmod b<0)↔(b<0)) then a.tdiv b - 1 else a.tdiv b
def dr (a b:Int):Int:=if a.tmod b≠0∧¬ ((a.tmod b<0)↔(b<0)) then a.tmod b+b else a.tmod b

theorem dq_dr (a b:Int):b*dq a b+dr a b=a:=by
 have h:=Int.mul_tdiv_add_tmod a b
 unfold dq dr
 split
 ·rw [Int.mul_sub];omega
 ·exact h

theorem tmod_abs (a:Int){b:Int}(hb:b≠0):(a.tmod b).natAbs<b.natAbs:=by
 rw [Int.natAbs_tmod];exact Nat.mod_lt _ (by omega)

theorem dr_pos (a:Int){b:Int}(hb:0<b):0≤dr a b∧dr a b<b:=by
 have:=tmod_abs a (b:=b) (by omega)
 unfold dr
 generalize a.tmod b=r at *
 split<;>omega

theorem dr_neg (a:Int){b:Int}(hb:b<0):b<dr a b∧dr a b≤0:=by
 have:=tmod_abs a (b:=b) (by omega)
 unfold dr
 generalize a.tmod b=r at *
 split<;>omega

theorem dq_fit {a b:Int}(ha:Fit a)(hb:b≠0)(h:¬ (a= -9223372036854775808∧b= -1)):Fit (dq a b):=by
 have h1:=tdiv_fit ha h
 unfold dq
 split
 ·rename_i hr
  have h2:(a.tdiv b).natAbs=a.natAbs / b.natAbs:=Int.natAbs_tdiv a b
  have h3:=Int.natAbs_tmod a b
  by_cases hb1:b.natAbs=1
  ·exfalso
   rw [hb1,Nat.mod_one] at h3
   omega
  ·have h4:a.natAbs / b.natAbs≤a.natAbs / 2:=Nat.div_le_div_left (by omega) (by omega)
   unfold Fit at *
   omega
 ·exact h1

theorem gcd_step (a b:Int):Nat.gcd b.natAbs (a.tmod b).natAbs=Nat.gcd a.natAbs b.natAbs:=by
 rw [Int.natAbs_tmod,Nat.gcd_comm a.natAbs,Nat.gcd_rec b.natAbs a.natAbs,Nat.gcd_comm]

theorem gcd_zero (a:Int):Nat.gcd a.natAbs (0:Int).natAbs=a.natAbs:=by simp

end Go.Proofs.YtoilomigceijaaaGreatDoor.Wm

namespace Go.Proofs.YtoilomigceijaaaGreatDoor.Wc
open Go.RowKit Wm

set_option maxHeartbeats 400000

theorem neg_yes (a:Int)(w:World)(h:Fit a)(h1:a≠ -9223372036854775808) :
  Calls Tryz.prog 168 #[.int .i64 a] w fun e w'=>e= .returned (.tuple #[.int .i64 (-a),.int .i64 0])∧w=w':=by
 unfold Fit at h
 have d1:(a == -9223372036854775808)=false:=beq_eq_false_iff_ne.2 h1
 have h2: -9223372036854775807≤a:=by omega
 obtain ⟨h3,h4⟩:=h
 clear h1 h3
 go_enter Tryz.func168,Tryz.ntmps168
 go_wp2
 go_ret2
 exact ⟨rfl,rfl⟩

theorem neg_no (w:World) :
  Calls Tryz.prog 168 #[.int .i64 (-9223372036854775808)] w fun e w'=>e= .returned (.tuple #[.int .i64 0,.int .i64 2])∧w=w':=by
 go_enter Tryz.func168,Tryz.ntmps168
 go_wp2
 go_ret2
 exact ⟨rfl,rfl⟩

def Drew (w w':World):Prop:=∃ n,w'=w.drewN n

theorem div_tests {a b:Int}(c2:¬ (a= -9223372036854775808∧b= -1)) :
  ((a == -9223372036854775808)=true∧(b == -1)=false)∨((a == -9223372036854775808)=false∧True):=by
 by_cases c7:a= -9223372036854775808
 ·exact Or.inl ⟨beq_iff_eq.2 c7,beq_eq_false_iff_ne.2 (fun h=>c2 ⟨c7,h⟩)⟩
 ·exact Or.inr ⟨beq_eq_false_iff_ne.2 c7,trivial⟩

theorem div_yes (a b:Int)(w:World)(ha:Fit a)(hb:Fit b)(c1:b≠0)(c2:¬ (a= -9223372036854775808∧b= -1)) :
  Calls Tryz.prog 119 #[.int .i64 a,.int .i64 b] w fun e w'=>e= .returned (.tuple #[.int .i64 (dq a b),.int .i64 (dr a b),.int .i64 0])∧Drew w w':=by
 have d0:(b==0)=false:=beq_eq_false_iff_ne.2 c1
 have k1:IntKind.i64.wrap (a.tdiv b)=a.tdiv b:=IntWalk.i64_in _ (tdiv_fit ha c2)
 have k2:=dq_fit ha c1 c2
 have k3:Fit (dr a b):=by
  unfold Fit at *
  by_cases hp:0<b
  ·have:=dr_pos a hp;omega
  ·have:=dr_neg a (b:=b) (by omega);omega
 have fin:∀ n,Drew w (w.drewN n):=fun n=>⟨n,rfl⟩
 have c8:=div_tests c2
 clear c2 ha hb
 by_cases c3:a.tmod b≠0∧¬ ((a.tmod b<0)↔(b<0))
 ·have e1:dq a b=a.tdiv b - 1:=by unfold dq;rw [if_pos c3]
  have e2:dr a b=a.tmod b+b:=by unfold dr;rw [if_pos c3]
  rw [e1] at k2 ⊢;rw [e2] at k3 ⊢
  clear e1 e2
  obtain ⟨c4,c5⟩:=c3
  have d4:(a.tmod b != 0)=true:=by rw [bne_iff_ne];exact c4
  unfold Fit at k2 k3
  obtain ⟨k4,k5⟩:=k2
  obtain ⟨k6,k7⟩:=k3
  have c9:(decide (b<0)=true∧decide (a.tmod b<0)=false)∨(decide (b<0)=false∧decide (a.tmod b<0)=true):=by
   simp only [decide_eq_true_eq,decide_eq_false_iff_not];omega
  clear c5 c4
  rcases c9 with ⟨d6,d7⟩|⟨d6,d7⟩<;>rcases c8 with ⟨d8,d9⟩|⟨d8,d9⟩
  all_goals
   go_enter Tryz.func119,Tryz.ntmps119
   go_wp2
   go_quiet (fail)
   go_wp2
   go_ret3
   exact ⟨rfl,fin _⟩
 ·have e1:dq a b=a.tdiv b:=by unfold dq;rw [if_neg c3]
  have e2:dr a b=a.tmod b:=by unfold dr;rw [if_neg c3]
  rw [e1,e2]
  clear e1 e2 k2 k3
  have c9:((a.tmod b != 0)=false∧True)∨((a.tmod b != 0)=true∧decide (b<0)=true∧decide (a.tmod b<0)=true)∨((a.tmod b != 0)=true∧decide (b<0)=false∧decide (a.tmod b<0)=false):=by
   by_cases c4:a.tmod b=0
   ·exact Or.inl ⟨by rw [bne_eq_false_iff_eq];exact c4,trivial⟩
   ·have c5:(a.tmod b<0)↔(b<0):=by
     by_cases c6:(a.tmod b<0)↔(b<0)
     ·exact c6
     ·exact absurd ⟨c4,c6⟩ c3
    have c7:(a.tmod b != 0)=true:=by rw [bne_iff_ne];exact c4
    by_cases c6:b<0
    ·exact Or.inr (Or.inl ⟨c7,decide_eq_true c6,decide_eq_true (c5.2 c6)⟩)
    ·exact Or.inr (Or.inr ⟨c7,decide_eq_false c6,decide_eq_false (fun h=>c6 (c5.1 h))⟩)
  clear c3
  rcases c9 with ⟨d4,_⟩|⟨d4,d6,d7⟩|⟨d4,d6,d7⟩<;>rcases c8 with ⟨d8,d9⟩|⟨d8,d9⟩
  all_goals
   go_enter Tryz.func119,Tryz.ntmps119
   go_wp2
   go_quiet (fail)
   go_wp2
   go_ret3
   exact ⟨rfl,fin _⟩

end Go.Proofs.YtoilomigceijaaaGreatDoor.Wc

namespace Go.Proofs.YtoilomigceijaaaGreatDoor.Vc
open Go.RowKit Vm

set_option maxHeartbeats 400000

theorem divide_any (rest low b q r:Int)(w:World)(h0:0≤rest)(h1:rest<b)(h2:0≤low)(h3:low≤18446744073709551615)(hb:b≤9223372036854775807)
  (e:rest*18446744073709551616+low=q*b+r) (h4:0≤r) (h5:r<b) :
  Calls Tryz.prog 120 #[.int .u64 rest,.int .u64 low,.int .u64 b] w fun e w'=>e= .returned (.tuple #[.int .u64 q,.int .u64 r])∧w=w':=by
 obtain ⟨T,hT⟩:∃ s,rest*18446744073709551616+low=s:=⟨_,rfl⟩
 have st:=di_start h0 h1 h2 h3
 rw [hT] at st e
 have E:=Lib.hid e
 clear e h0 h1 h2 h3 hT
 go_enter Tryz.func120,Tryz.ntmps120
 go_wp2
 go_loop [0,1,6,8] (fun x0 x1 x6 x8=>∃ (k:Nat) (u l v:Int),k≤64∧x0= .int .u64 u∧x1= .int .u64 l∧x6= .int .u64 v∧x8= .int .i64 k∧DI T b k u l v) (fun _ _ _ x8=>64 - (intOf x8).toNat)
 case atStart=>exact ⟨0,rest,low,0,by omega,rfl,rfl,rfl,rfl,st⟩
 case round =>
  obtain ⟨k,u,l,v,hk,rfl,rfl,rfl,rfl,hd⟩:=hrel
  by_cases hlt:k<64
  ·obtain ⟨b1,b2,b3,b4,b5,b6,bit,l',e1,e2,e3,e4,n1,n2⟩:=di_step hlt hd
   have o1:bits .or .u64 (u*2) bit=u*2+bit:=or_bit (by omega) (by omega) (by omega) e2 e3
   have o2:bits .or .u64 (v*2) 1=v*2+1:=or_bit (by omega) (by omega) (by omega) (by omega) (by omega)
   clear st hd
   by_cases c:b≤u*2+bit
   ·have N:=Lib.hid (n1 c)
    clear n1 n2
    go_wp2
    go_round
    case rel=>exact ⟨k+1,_,_,_,by omega,rfl,rfl,rfl,by go_num,N.out⟩
    case measure=>simp [intOf];omega
   ·have N:=Lib.hid (n2 (by omega))
    clear n1 n2
    go_wp2
    go_round
    case rel=>exact ⟨k+1,_,_,_,by omega,rfl,rfl,rfl,by go_num,N.out⟩
    case measure=>simp [intOf];omega
  ·obtain rfl:k=64:=by omega
   obtain ⟨f1,f2,f3,f4,f5⟩:=di_end hd
   obtain ⟨rfl,rfl⟩:=div_same (f1.symm.trans E.out) f2 f3 h4 h5
   clear f1 E st hd
   go_wp2
   go_ret2
   exact ⟨rfl,rfl⟩

theorem below_drewN {B:Nat}{a w:World}(h:Below B a w)(n:Nat):Below B a (w.drewN n):=⟨h.os,h.tape,h.output,h.size,h.block⟩

theorem wholeDiv_to (a b q r:Int)(w:World)(ha:Fit1 a)(hb0:0<b)(hb1:b≤9223372036854775807)(e1:Hid (a / b=q))(e2:Hid (a%b=r)) :
  Calls Tryz.prog 119 #[.int .i64 a,.int .i64 b] w fun e w'=>e= .returned (.tuple #[.int .i64 q,.int .i64 r,.int .i64 0])∧Wc.Drew w w':=by
 have h:=Wc.div_yes a b w ha ⟨by omega,hb1⟩ (by omega) (by omega)
 have h1:=Wm.dq_dr a b
 have h2:=Wm.dr_pos a hb0
 have h3:=div_same (q:=a / b) (r:=a%b) (q':=Wm.dq a b) (r':=Wm.dr a b) (b:=b) (by rw [Int.mul_comm,Int.mul_ediv_add_emod,Int.mul_comm];exact h1.symm) (Int.emod_nonneg _ (by omega)) (Int.emod_lt_of_pos _ hb0) h2.1 h2.2
 rw [← e1.out,← e2.out,h3.1,h3.2]
 exact h

def DivRes (x b h l r er:Int):Prop:=(b=0∧h=0∧l=0∧r=0∧er=3)∨(b<0∧h=0∧l=0∧r=0∧er=1)∨(0<b∧er=0∧Bd h l∧num h l*b+r=x∧0≤r∧r<b)

theorem Div_any (h1 l1 b h l r er:Int)(w:World)(b1:Bd h1 l1)(hb:Fit1 b)(R:DivRes (num h1 l1) b h l r er) :
  Calls Tryz.prog 70 #[.agg #[.int .i64 h1,.int .u64 l1],.int .i64 b] w fun e w' =>
   e= .returned (.tuple #[.agg #[.int .i64 h,.int .u64 l],.int .i64 r,.int .i64 er])∧Below w.heap.size w w':=by
 rcases R with ⟨rfl,rfl,rfl,rfl,rfl⟩|⟨hn,rfl,rfl,rfl,rfl⟩|⟨hp,rfl,bd,e,r0,r1⟩
 ·go_enter Tryz.func70,Tryz.ntmps70
  go_wp2
  refine bodyPost_ret (v:=.tuple #[.agg #[.int .i64 0,.int .u64 0],.int .i64 0,.int .i64 3]) (by simp [results,Tryz.results70,go_sem]) rfl ⟨rfl,?_⟩
  exact ((Below.refl _ _).alloc (Nat.le_refl _) _).alloc (by simp) _
 ·have d1:(b==0)=false:=beq_eq_false_iff_ne.2 (by omega)
  go_enter Tryz.func70,Tryz.ntmps70
  go_wp2
  refine bodyPost_ret (v:=.tuple #[.agg #[.int .i64 0,.int .u64 0],.int .i64 0,.int .i64 1]) (by simp [results,Tryz.results70,go_sem]) rfl ⟨rfl,?_⟩
  exact ((Below.refl _ _).alloc (Nat.le_refl _) _).alloc (by simp) _
 ·have d1:(b==0)=false:=beq_eq_false_iff_ne.2 (by omega)
  have d2:decide (b<0)=false:=decide_eq_false (by omega)
  unfold Bd at b1
  unfold Fit1 at hb
  obtain ⟨a1,a2,a3,a4⟩:=b1
  obtain ⟨qh,hqh⟩:∃ s,h1 / b=s:=⟨_,rfl⟩
  obtain ⟨rh,hrh⟩:∃ s,h1%b=s:=⟨_,rfl⟩
  have rh0:0≤rh:=by rw [← hrh];exact Int.emod_nonneg _ (by omega)
  have rh1:rh<b:=by rw [← hrh];exact Int.emod_lt_of_pos _ hp
  have rh2:rh≤9223372036854775807:=by omega
  have eh:qh*b+rh=h1:=by rw [← hqh,← hrh,Int.mul_comm];exact Int.mul_ediv_add_emod _ _
  have DM:=div_two eh rh0 rh1 a3 a4 bd e r0 r1
  obtain ⟨rfl,DM⟩:=DM
  replace hqh:=Lib.hid hqh
  replace hrh:=Lib.hid hrh
  have hd:=fun w=>divide_any rh l1 b l r w rh0 rh1 a3 a4 hb.2 DM r0 r1
  have hw:=fun w=>wholeDiv_to h1 b qh rh w ⟨a1,a2⟩ hp hb.2 hqh hrh
  have r2:r≤9223372036854775807:=by omega
  obtain ⟨c1,c2,c3,c4⟩:=bd
  obtain ⟨hb1,hb2⟩:=hb
  clear e eh DM hqh hrh
  go_enter Tryz.func70,Tryz.ntmps70
  go_wp2_with fail
  refine (hw _).mono ?_
  rintro e w1 ⟨rfl,n,rfl⟩
  go_wp2_with fail
  refine (hd _).mono ?_
  rintro e w1 ⟨rfl,rfl⟩
  go_wp2
  refine bodyPost_ret (v:=.tuple #[.agg #[.int .i64 qh,.int .u64 l],.int .i64 r,.int .i64 0]) (by simp [results,Tryz.results70,go_sem]) rfl ⟨rfl,?_⟩
  exact ((below_drewN (((Below.refl _ _).alloc (Nat.le_refl _) _).alloc (by simp) _) _).setCell (by simp) _).setCell (by simp) _

def MDRes (x c q r er:Int):Prop:=(c=0∧q=0∧r=0∧er=3)∨(c<0∧q=0∧r=0∧er=1)∨(0<c∧er=2∧q=0∧r=0∧¬ Fit1 (x / c))∨(0<c∧er=0∧Fit1 q∧q=x / c∧r=x%c)

theorem MulDiv_any (a b c h l h2 l2 r2 er2 v er v2 r3 er3:Int)(w:World)(ha:Fit1 a)(hb:Fit1 b)(hc:Fit1 c)(bd:Bd h l)(hn:num h l=a*b)(D:DivRes (num h l) c h2 l2 r2 er2)(bd2:Bd h2 l2)
  (F:Res1 (num h2 l2) v er) (O:(er2≠0∧v2=0∧r3=0∧er3=er2)∨(er2=0∧er=2∧v2=0∧r3=0∧er3=2)∨(er2=0∧er=0∧v2=v∧r3=r2∧er3=0)) :
  Calls Tryz.prog 35 #[.int .i64 a,.int .i64 b,.int .i64 c] w fun e w' =>
   e= .returned (.tuple #[.int .i64 v2,.int .i64 r3,.int .i64 er3])∧Below w.heap.size w w':=by
 have cm:=fun w=>Mul_any a b h l w ha hb bd hn
 have cd:=fun w=>Div_any h l c h2 l2 r2 er2 w bd hc D
 have cf:=fun w=>Fit_any h2 l2 v er w bd2 F
 clear ha hb hc bd hn D bd2 F
 rcases O with ⟨o1,rfl,rfl,rfl⟩|⟨rfl,rfl,rfl,rfl,rfl⟩|⟨rfl,rfl,rfl,rfl,rfl⟩
 ·have d1:(er3 != 0)=true:=bne_iff_ne.2 o1
  clear o1
  go_enter Tryz.func35,Tryz.ntmps35
  go_wp2_with fail
  refine (cm _).mono ?_
  rintro e w1 ⟨rfl,hb1⟩
  go_wp2_with fail
  refine (cd _).mono ?_
  rintro e w2 ⟨rfl,hb2⟩
  go_wp2
  go_ret3
  exact ⟨rfl,(hb1.trans (hb2.mono hb1.size)).alloc (Nat.le_trans hb1.size hb2.size) _⟩
 all_goals
  go_enter Tryz.func35,Tryz.ntmps35
  go_wp2_with fail
  refine (cm _).mono ?_
  rintro e w1 ⟨rfl,hb1⟩
  go_wp2_with fail
  refine (cd _).mono ?_
  rintro e w2 ⟨rfl,hb2⟩
  go_wp2_with fail
  refine (cf _).mono ?_
  rintro e w3 ⟨rfl,hb3⟩
  go_wp2
  go_ret3
  exact ⟨rfl,((hb1.trans (hb2.mono hb1.size)).alloc (Nat.le_trans hb1.size hb2.size) _).trans (hb3.mono (by simp;exact Nat.le_succ_of_le (Nat.le_trans hb1.size hb2.size)))⟩

end Go.Proofs.YtoilomigceijaaaGreatDoor.Vc

namespace Go.Proofs.YtoilomigceijaaaGreatDoor.Vm
open Go.RowKit (wrap32 wrap64)

def SI (l:List Int)(k:Nat)(a0 a1:Int):Prop :=
 0≤a0∧a0≤18446744073709551615∧0≤a1∧a1≤18446744073709551615∧∃ m:Int,num a1 a0=(l.take k).sum+m*340282366920938463463374607431768211456

theorem si_start (l:List Int):SI l 0 0 0:=⟨by omega,by omega,by omega,by omega,0,by simp [num]⟩

theorem take_sum (l:List Int)(k:Nat)(h:k<l.length):(l.take (k+1)).sum=(l.take k).sum+l.getD k 0:=by
 rw [List.take_succ_eq_append_getElem h,List.sum_append_int]
 simp [List.getD,h]

theorem si_step {l:List Int}{k:Nat}{a0 a1 n h lo m r0 r1:Int}(hk:k<l.length)(s:SI l k a0 a1)(hn:l.getD k 0=n)(f:Fit1 n)
  (e1:n / 9223372036854775808=h) (e0:n%18446744073709551616=lo) (e2:h%18446744073709551616=m)
  (e3:(a0+lo)%18446744073709551616=r0) (e4:(a1+m+(a0+lo) / 18446744073709551616)%18446744073709551616=r1):SI l (k+1) r0 r1:=by
 obtain ⟨h0,h1,h2,h3,t,ht⟩:=s
 refine ⟨by omega,by omega,by omega,by omega,t - (a1+m+(a0+lo) / 18446744073709551616) / 18446744073709551616+(if n<0 then 1 else 0),?_⟩
 rw [take_sum l k hk,hn]
 unfold num at ht ⊢
 unfold Fit1 at f
 generalize (l.take k).sum=S at *
 split<;>omega

theorem sum_bound (l:List Int)(h:∀ z ∈ l,Fit1 z): -(l.length*9223372036854775808:Int)≤l.sum∧l.sum≤l.length*9223372036854775808:=by
 induction l with
 | nil=>simp
 | cons z t ih =>
   have h1:=ih (fun y hy=>h y (List.mem_cons_of_mem _ hy))
   have h2:=h z (List.mem_cons_self)
   unfold Fit1 at h2
   rw [List.sum_cons,List.length_cons]
   omega

theorem si_end {l:List Int}{k:Nat}{a0 a1 h:Int}(hk:l.length≤k)(s:SI l k a0 a1)(hf:∀ z ∈ l,Fit1 z)(hl:(l.length:Int)≤9223372036854775807)(e:wrap64 a1=h):num h a0=l.sum∧Bd h a0:=by
 obtain ⟨h0,h1,h2,h3,t,ht⟩:=s
 rw [List.take_of_length_le hk] at ht
 have b:=sum_bound l hf
 unfold wrap64 at e
 unfold num at *
 unfold Bd
 generalize l.sum=S at *
 omega

end Go.Proofs.YtoilomigceijaaaGreatDoor.Vm

namespace Go.Proofs.YtoilomigceijaaaGreatDoor.Vc
open Go.RowKit Vm
attribute [local go_sem ↓] Go.wp_at_zero Go.wp_at_succ

set_option maxHeartbeats 400000

def Rd (w:World)(B:Nat)(A:Option Addr)(zs:List Int):Prop:=zs= []∨∃ b off,A=some ⟨b,off,none⟩∧b<B∧∀ i,i<zs.length→w.cell? ⟨b,off+i,none⟩=some (.int .i64 (zs.getD i 0))

theorem plus_to (a0 a1 b0 b1 r0 r1:Int)(w:World)(h1:0≤a0)(h2:a0≤18446744073709551615)(h3:0≤b0)(h4:b0≤18446744073709551615)
  (e0:Hid ((a0+b0)%18446744073709551616=r0)) (e1:Hid ((a1+b1+(a0+b0) / 18446744073709551616)%18446744073709551616=r1)) :
  Calls Tryz.prog 115 #[.agg #[.int .u64 a0,.int .u64 a1],.agg #[.int .u64 b0,.int .u64 b1]] w fun e w' =>
   e= .returned (.agg #[.int .u64 r0,.int .u64 r1])∧Below w.heap.size w w':=by
 rw [← e0.out,← e1.out];exact plus_any a0 a1 b0 b1 w h1 h2 h3 h4

def SumW (w wr:World)(g:Nat)(a0 a1:Int):Prop :=
 Below w.heap.size w wr∧w.heap.size≤g∧g<wr.heap.size∧wr.cell? ⟨g,0,none⟩=some (.int .u64 a0)∧wr.cell? ⟨g,1,none⟩=some (.int .u64 a1)∧wr.frozen? ⟨g,0,none⟩=false∧wr.frozen? ⟨g,1,none⟩=false

theorem Sum_tells (A:Option Addr)(n cap:Nat)(zs:List Int)(w:World)(hn:zs.length=n)(hm:(n:Int)≤9223372036854775807)(hf:∀ z ∈ zs,Fit1 z)(hr:Rd w w.heap.size A zs) :
  Calls Tryz.prog 69 #[.slice A n cap] w (Tells1 zs.sum w):=by
 have HN:=Lib.hid hn
 have HF:=Lib.hid hf
 have HR:=Lib.hid hr
 clear hn hf hr
 go_enter Tryz.func69,Tryz.ntmps69
 go_wp2
 go_loopw [10] (fun x10 wr=>∃ (k:Nat) (a0 a1:Int),k≤n∧x10= .int .i64 k∧SI zs k a0 a1∧SumW w wr w.heap.size a0 a1) (fun x10 _=>n - (intOf x10).toNat)
 case atStart =>
  refine ⟨0,0,0,by omega,rfl,si_start zs,?_,Nat.le_refl _,by simp,?_,?_,?_,?_⟩
  ·exact (Below.refl _ _).alloc (Nat.le_refl _) _
  all_goals simp [go_sem]
 case round =>
  obtain ⟨k,a0,a1,hk,rfl,si,hb,_,hg,q0,q1,f0,f1⟩:=hrel
  by_cases hlt:k<n
  ·have ht:zs≠[]:=by intro e;have:=HN.out;rw [e] at this;simp at this;omega
   obtain ⟨b,off,rfl,hb0,hcell⟩:=HR.out.resolve_left ht
   have hk2:k<zs.length:=by rw [HN.out];exact hlt
   have hc1:=(hb.cell (p:=⟨b,off+k,none⟩) hb0).trans (hcell k hk2)
   obtain ⟨z,hz⟩:∃ s,zs.getD k 0=s:=⟨_,rfl⟩
   rw [hz] at hc1
   clear hcell
   have fz:Fit1 z:=HF.out z (by rw [← hz,show zs.getD k 0=zs[k] by simp [List.getD,hk2]];exact List.getElem_mem hk2)
   obtain ⟨h,hh⟩:∃ s,z / 9223372036854775808=s:=⟨_,rfl⟩
   obtain ⟨lo,hlo⟩:∃ s,z%18446744073709551616=s:=⟨_,rfl⟩
   obtain ⟨m,hmm⟩:∃ s,h%18446744073709551616=s:=⟨_,rfl⟩
   obtain ⟨r0,hr0⟩:∃ s,(a0+lo)%18446744073709551616=s:=⟨_,rfl⟩
   obtain ⟨r1,hr1⟩:∃ s,(a1+m+(a0+lo) / 18446744073709551616)%18446744073709551616=s:=⟨_,rfl⟩
   have sn:=si_step hk2 si hz fz hh hlo hmm hr0 hr1
   have b0:0≤a0:=si.1
   have b1:a0≤18446744073709551615:=si.2.1
   have b2:0≤lo:=by omega
   have b3:lo≤18446744073709551615:=by omega
   replace hh:=Lib.hid hh
   replace hlo:=Lib.hid hlo
   replace hmm:=Lib.hid hmm
   replace hr0:=Lib.hid hr0
   replace hr1:=Lib.hid hr1
   replace hz:=Lib.hid hz
   clear ht
   go_wp2
   go_region_law (first|(go_simp;go_at_call 117;refine (Of_to _ h lo _ hh hlo).mono ?_;rintro e w1 ⟨rfl,hb1⟩;have q01:=(hb1.cell (p:=⟨w.heap.size,0,none⟩) hg).trans q0;have q11:=(hb1.cell (p:=⟨w.heap.size,1,none⟩) hg).trans q1;have f01:=(hb1.frozen (p:=⟨w.heap.size,0,none⟩) hg).trans f0;have f11:=(hb1.frozen (p:=⟨w.heap.size,1,none⟩) hg).trans f1;have hg1:=Nat.lt_of_lt_of_le hg hb1.size)|(go_simp;go_at_call 116;refine (wordsOf_to _ _ m _ hmm).mono ?_;rintro e w2 ⟨rfl,hb2⟩;have q02:=(hb2.cell (p:=⟨w.heap.size,0,none⟩) hg1).trans q01;have q12:=(hb2.cell (p:=⟨w.heap.size,1,none⟩) hg1).trans q11;have f02:=(hb2.frozen (p:=⟨w.heap.size,0,none⟩) hg1).trans f01;have f12:=(hb2.frozen (p:=⟨w.heap.size,1,none⟩) hg1).trans f11;have hg2:=Nat.lt_of_lt_of_le hg1 hb2.size)|(go_simp;go_at_call 115;refine (plus_to _ _ _ _ r0 r1 _ b0 b1 b2 b3 hr0 hr1).mono ?_;rintro e w3 ⟨rfl,hb3⟩;have q03:=(hb3.cell (p:=⟨w.heap.size,0,none⟩) hg2).trans q02;have q13:=(hb3.cell (p:=⟨w.heap.size,1,none⟩) hg2).trans q12;have f03:=(hb3.frozen (p:=⟨w.heap.size,0,none⟩) hg2).trans f02;have f13:=(hb3.frozen (p:=⟨w.heap.size,1,none⟩) hg2).trans f12;have hg3:=Nat.lt_of_lt_of_le hg2 hb3.size))
   all_goals have bx:Below w.heap.size w w3:=hb.drew.trans ((hb1.mono (Nat.le_of_lt hg)).trans ((hb2.mono (Nat.le_of_lt hg1)).trans (hb3.mono (Nat.le_of_lt hg2))))
   all_goals go_wp2
   all_goals
    go_roundw
    case rel =>
     refine ⟨k+1,r0,r1,by omega,by go_num,sn,?_,Nat.le_refl _,?_,?_,?_,?_,?_⟩
     ·exact (bx.setCell (by simp) _).setCell (by simp) _
     ·simp [hg3]
     all_goals simp [go_sem,q03,q13,f03,f13]
    case measure=>simp [intOf];omega
  ·obtain rfl:k=n:=by omega
   obtain ⟨h,hh⟩:∃ s,wrap64 a1=s:=⟨_,rfl⟩
   have SE:=si_end (Nat.le_of_eq HN.out) si HF.out (by rw [HN.out];exact hm) hh
   replace hh:=Lib.hid hh
   go_wp2_with fail
   refine (wide_to _ _ h _ hh).mono ?_
   rintro e w1 ⟨rfl,hb1⟩
   go_wp2_with fail
   refine (Fit_tells _ _ _ SE.2).mono ?_
   rintro e w2 ⟨v,er,rfl,R,hb2⟩
   rw [SE.1] at R
   replace R:=Lib.hid R
   clear SE
   go_wp2
   go_ret2
   exact ⟨v,er,rfl,R.out,hb.trans ((hb1.mono (Nat.le_of_lt hg)).trans (hb2.mono (Nat.le_trans (Nat.le_of_lt hg) hb1.size)))⟩

theorem Sum_any (A:Option Addr)(n cap:Nat)(zs:List Int)(v er:Int)(w:World)(hn:zs.length=n)(hm:(n:Int)≤9223372036854775807)(hf:∀ z ∈ zs,Fit1 z)(hr:Rd w w.heap.size A zs)(R:Res1 zs.sum v er) :
  Calls Tryz.prog 69 #[.slice A n cap] w fun e w'=>e= .returned (.tuple #[.int .i64 v,.int .i64 er])∧Below w.heap.size w w' :=
 (Sum_tells A n cap zs w hn hm hf hr).mono fun e w' ⟨v',er',he,r',hb⟩=>by
  obtain ⟨rfl,rfl⟩:=res1_unique R r'
  exact ⟨he,hb⟩

end Go.Proofs.YtoilomigceijaaaGreatDoor.Vc

namespace Go.Proofs.YtoilomigceijaaaGreatDoor.Vm
open Go.RowKit (wrap32 wrap64)

theorem words_ex {x:Int}(f:Fits x):∃ h l,num h l=x∧Bd h l :=
 ⟨x / 18446744073709551616,x%18446744073709551616,by unfold num;omega,by unfold Fits at f;unfold Bd;omega⟩

theorem quot_fits {x c:Int}(f:Fits x)(hc:0<c):Fits (x / c):=by
 unfold Fits at *
 constructor
 ·refine Int.le_ediv_of_mul_le hc ?_
  have: -170141183460469231731687303715884105728*c≤ -170141183460469231731687303715884105728*1:=Int.mul_le_mul_of_nonpos_left (by omega) (by omega)
  omega
 ·have:x / c<170141183460469231731687303715884105728:=by
   refine Int.ediv_lt_of_lt_mul hc ?_
   have:170141183460469231731687303715884105728*1≤170141183460469231731687303715884105728*c:=Int.mul_le_mul_of_nonneg_left (by omega) (by omega)
   omega
  omega

theorem prod_fits {a b:Int}(ha:Fit1 a)(hb:Fit1 b): -85070591730234615865843651857942052864≤a*b∧a*b≤85070591730234615865843651857942052864:=by
 have h:=prod_size ha hb
 have e:((a*b).natAbs:Int)=(a.natAbs:Int)*(b.natAbs:Int):=by rw [Int.natAbs_mul,Int.natCast_mul]
 omega

end Go.Proofs.YtoilomigceijaaaGreatDoor.Vm

namespace Go.Proofs.YtoilomigceijaaaGreatDoor.Vl
open Go.RowKit Vm Vc
attribute [local go_sem ↓] Go.wp_at_zero Go.wp_at_succ

set_option maxHeartbeats 400000

structure Pair (W:World) (b:Nat) (u v:Value):Prop where
 lt:b<W.heap.size
 c0:W.cell? ⟨b,0,none⟩=some u
 c1:W.cell? ⟨b,1,none⟩=some v
theorem Pair.kept {W w1:World}{b:Nat}{u v:Value}(p:Pair W b u v)(hb:Below W.heap.size W w1):Pair w1 b u v :=
 ⟨Nat.lt_of_lt_of_le p.lt hb.size,(hb.cell (p:=⟨b,0,none⟩) p.lt).trans p.c0,(hb.cell (p:=⟨b,1,none⟩) p.lt).trans p.c1⟩
theorem Pair.alloc {W:World}{b:Nat}{u v:Value}(p:Pair W b u v)(o:Obj):Pair (W.alloc o) b u v :=
 p.kept ((Below.refl _ _).alloc (Nat.le_refl _) o)
theorem Pair.new (W:World)(u v:Value)(t:TypeId):Pair (W.alloc (.cells #[u,v] t)) W.heap.size u v :=
 ⟨by simp,by simp [go_sem],by simp [go_sem]⟩
theorem Pair.drewN {W:World}{b:Nat}{u v:Value}(p:Pair W b u v)(n:Nat):Pair (W.drewN n) b u v:=⟨p.lt,p.c0,p.c1⟩
theorem Pair.drew {W:World}{b:Nat}{u v:Value}(p:Pair W b u v):Pair W.drew b u v:=⟨p.lt,p.c0,p.c1⟩

theorem bthen {w W w1:World}(h:Below w.heap.size w W)(hb:Below W.heap.size W w1):Below w.heap.size w w1:=h.trans (hb.mono h.size)
theorem balloc {w W:World}(h:Below w.heap.size w W)(o:Obj):Below w.heap.size w (W.alloc o):=h.alloc h.size o
theorem bdrewN {w W:World}(h:Below w.heap.size w W)(n:Nat):Below w.heap.size w (W.drewN n):=below_drewN h n

end Go.Proofs.YtoilomigceijaaaGreatDoor.Vl

namespace Go.Proofs.YtoilomigceijaaaGreatDoor.Vl
open Go.RowKit Vm Vc

theorem muldiv_to (a b c v r er:Int)(w:World)(fa:Fit1 a)(fb:Fit1 b)(fc:Fit1 c)(R:MDRes (a*b) c v r er) :
  Calls Tryz.prog 35 #[.int .i64 a,.int .i64 b,.int .i64 c] w fun e w' =>
   e= .returned (.tuple #[.int .i64 v,.int .i64 r,.int .i64 er])∧Below w.heap.size w w':=by
 have pf:=prod_fits fa fb
 have ff:Fits (a*b):=by unfold Fits;omega
 obtain ⟨h,l,n,bd⟩:=words_ex ff
 have b0:Bd 0 0:=by unfold Bd;omega
 have f0:Res1 (num 0 0) 0 0:=Or.inl ⟨rfl,rfl,by unfold Fit1 num;omega⟩
 rcases R with ⟨c0,rfl,rfl,rfl⟩|⟨c0,rfl,rfl,rfl⟩|⟨c0,rfl,rfl,rfl,nf⟩|⟨c0,rfl,fv,rfl,rfl⟩
 ·exact MulDiv_any a b c h l 0 0 0 3 0 0 0 0 3 w fa fb fc bd n (.inl ⟨c0,rfl,rfl,rfl,rfl⟩) b0 f0 (.inl ⟨by decide,rfl,rfl,rfl⟩)
 ·exact MulDiv_any a b c h l 0 0 0 1 0 0 0 0 1 w fa fb fc bd n (.inr (.inl ⟨c0,rfl,rfl,rfl,rfl⟩)) b0 f0 (.inl ⟨by decide,rfl,rfl,rfl⟩)
 all_goals
  obtain ⟨hq,lq,nq,bq⟩:=words_ex (quot_fits ff c0)
  have D:DivRes (num h l) c hq lq ((a*b)%c) 0:=.inr (.inr ⟨c0,rfl,bq,by rw [nq,n,Int.mul_comm];exact Int.mul_ediv_add_emod _ _,Int.emod_nonneg _ (by omega),Int.emod_lt_of_pos _ c0⟩)
 ·exact MulDiv_any a b c h l hq lq ((a*b)%c) 0 0 2 0 0 2 w fa fb fc bd n D bq (Or.inr ⟨rfl,rfl,by rw [nq];exact nf⟩) (.inr (.inl ⟨rfl,rfl,rfl,rfl,rfl⟩))
 ·exact MulDiv_any a b c h l hq lq ((a*b)%c) 0 (a*b / c) 0 (a*b / c) ((a*b)%c) 0 w fa fb fc bd n D bq (Or.inl ⟨rfl,nq.symm,by rw [nq];exact fv⟩) (.inr (.inr ⟨rfl,rfl,rfl,rfl,rfl⟩))

end Go.Proofs.YtoilomigceijaaaGreatDoor.Vl

