/- Texts that are joined: Rowp, Gcode, Qmath, Qchk, Qtimes, Qops, Qlaw, Qplus, Qcmp, Qops2, Sexact, Sexlaw. -/
import Derived.Test.YtoilomigceijaaaGreatDoorQrJK
import Derived.Test.YtoilomigceijaaaGreatDoorQrJV
import Derived.Deep.RegionHeld3
import Derived.Deep.DeepCutAuto
import Derived.Test.YtoilomigceijaaaGreatDoorQrJS
set_option linter.unusedSimpArgs false
set_option linter.unusedVariables false
namespace Go.Proofs.YtoilomigceijaaaGreatDoor.Rk
open Go.RowKit

structure Rowp (W:World) (g n:Nat) (f d:Nat→Int):Prop where
 lt:g<W.heap.size
 c0:∀ i,i<n→W.cell? ⟨g,i*2,none⟩=some (.int .i64 (f i))
 c1:∀ i,i<n→W.cell? ⟨g,i*2+1,none⟩=some (.int .i64 (d i))
 z0:∀ i,i<n→W.frozen? ⟨g,i*2,none⟩=false
 z1:∀ i,i<n→W.frozen? ⟨g,i*2+1,none⟩=false
section
variable {W w1:World} {g n:Nat} {f d:Nat→Int}
theorem Rowp.kept (p:Rowp W g n f d)(hb:Below W.heap.size W w1):Rowp w1 g n f d :=
 ⟨Nat.lt_of_lt_of_le p.lt hb.size,fun i hi=>(hb.cell (p:=⟨g,i*2,none⟩) p.lt).trans (p.c0 i hi),fun i hi=>(hb.cell (p:=⟨g,i*2+1,none⟩) p.lt).trans (p.c1 i hi),
  fun i hi=>(hb.frozen (p:=⟨g,i*2,none⟩) p.lt).trans (p.z0 i hi),fun i hi=>(hb.frozen (p:=⟨g,i*2+1,none⟩) p.lt).trans (p.z1 i hi)⟩
theorem Rowp.congr {f' d':Nat→Int}(p:Rowp W g n f d)(h:∀ i,i<n→f i=f' i)(h':∀ i,i<n→d i=d' i):Rowp W g n f' d' :=
 ⟨p.lt,fun i hi=>by rw [← h i hi];exact p.c0 i hi,fun i hi=>by rw [← h' i hi];exact p.c1 i hi,p.z0,p.z1⟩
theorem Rowp.set (p:Rowp W g n f d){k:Nat}(hk:k<n)(u v:Int) :
  Rowp ((W.setCell ⟨g,k*2,none⟩ (.int .i64 u)).setCell ⟨g,k*2+1,none⟩ (.int .i64 v)) g n (fun i=>if i=k then u else f i) (fun i=>if i=k then v else d i):=by
 have ot:∀ (W:World) (a b:Nat) (x:Value),a≠b→(W.setCell ⟨g,a,none⟩ x).cell? ⟨g,b,none⟩=W.cell? ⟨g,b,none⟩:=fun W a b x h =>
  World.cell?_setCell_other _ _ _ _ (by intro e;simp only [Addr.mk.injEq] at e;omega)
 have sm:∀ (W:World) (a:Nat) (x y:Value),W.cell? ⟨g,a,none⟩=some y→(W.setCell ⟨g,a,none⟩ x).cell? ⟨g,a,none⟩=some x:=fun W a x y h=>World.cell?_setCell_same _ _ _ h
 refine ⟨by simp;exact p.lt,fun i hi=>?_,fun i hi=>?_,fun i hi=>by simp [go_sem,p.z0 i hi],fun i hi=>by simp [go_sem,p.z1 i hi]⟩
 ·rw [ot _ _ _ _ (by omega)]
  by_cases e:i=k
  ·subst e;rw [if_pos rfl];exact sm _ _ _ _ (p.c0 i hi)
  ·rw [if_neg e,ot _ _ _ _ (by omega)];exact p.c0 i hi
 ·by_cases e:i=k
  ·subst e;rw [if_pos rfl];exact sm _ _ _ _ (by rw [ot _ _ _ _ (by omega)];exact p.c1 i hi)
  ·rw [if_neg e,ot _ _ _ _ (by omega),ot _ _ _ _ (by omega)];exact p.c1 i hi
theorem Rowp.other {b:Nat}(p:Rowp W g n f d)(k:Nat)(v:Value)(h:g≠b):Rowp (W.setCell ⟨b,k,none⟩ v) g n f d :=
 have ot:∀ a,(W.setCell ⟨b,k,none⟩ v).cell? ⟨g,a,none⟩=W.cell? ⟨g,a,none⟩:=fun a=>World.cell?_setCell_other _ _ _ _ (by intro e;simp only [Addr.mk.injEq] at e;omega)
 ⟨by simp;exact p.lt,fun i hi=>(ot _).trans (p.c0 i hi),fun i hi=>(ot _).trans (p.c1 i hi),fun i hi=>by simp [go_sem,p.z0 i hi],fun i hi=>by simp [go_sem,p.z1 i hi]⟩
end

end Go.Proofs.YtoilomigceijaaaGreatDoor.Rk

namespace Go.Proofs.YtoilomigceijaaaGreatDoor.Wc
open Go.RowKit Wm

set_option maxHeartbeats 400000

theorem tmod_fit {a b:Int}(hb:Fit b)(h:b≠0):Fit (a.tmod b):=by
 have:=tmod_abs a h
 unfold Fit at *;omega

theorem gcd_any (a b:Int)(w:World)(ha:Fit a)(hb:Fit b)(v e1:Int)
  (hv:(Fit (Nat.gcd a.natAbs b.natAbs:Int)∧v=(Nat.gcd a.natAbs b.natAbs:Int)∧e1=0)∨(¬ Fit (Nat.gcd a.natAbs b.natAbs:Int)∧v=0∧e1=2)) :
  Calls Tryz.prog 152 #[.int .i64 a,.int .i64 b] w fun e w'=>e= .returned (.tuple #[.int .i64 v,.int .i64 e1])∧Drew w w':=by
 have HV:=Lib.hid hv
 clear hv
 go_enter Tryz.func152,Tryz.ntmps152
 go_wp2
 go_loopw [0,1] (fun x y w'=>∃ p q:Int,x= .int .i64 p∧y= .int .i64 q∧Fit p∧Fit q∧Hid (Nat.gcd p.natAbs q.natAbs=Nat.gcd a.natAbs b.natAbs)∧Drew w w') (fun _ y _=>(intOf y).natAbs)
 case atStart=>exact ⟨a,b,rfl,rfl,ha,hb,Lib.hid rfl,0,rfl⟩
 case round =>
  obtain ⟨p,q,rfl,rfl,hp,hq,hg,n,rfl⟩:=hrel
  by_cases hz:q=0
  ·subst hz
   rw [gcd_zero] at hg
   by_cases c1:p<0
   ·have d1:decide (p<0)=true:=decide_eq_true c1
    by_cases c2:p= -9223372036854775808
    ·subst c2
     have hv:v=0∧e1=2:=by
      rcases HV.out with ⟨h1,h2,h3⟩|⟨h1,h2,h3⟩
      ·rw [← hg.out] at h1;exact absurd h1 (by decide)
      ·exact ⟨h2,h3⟩
     obtain ⟨rfl,rfl⟩:=hv
     clear HV hg hp hq c1
     go_wp2_with (go_at_call 168;refine (neg_no _).mono ?_;rintro e w' ⟨rfl,rfl⟩)
     go_ret2
     exact ⟨rfl,n,rfl⟩
    ·have hv:v= -p∧e1=0:=by
      rcases HV.out with ⟨h1,h2,h3⟩|⟨h1,h2,h3⟩
      ·rw [← hg.out] at h2;exact ⟨by omega,h3⟩
      ·rw [← hg.out] at h1;exact absurd (by unfold Fit at *;omega) h1
     obtain ⟨rfl,rfl⟩:=hv
     have ct:=fun w0=>neg_yes p w0 hp c2
     clear HV hg hp hq c1 c2
     go_wp2_with (go_at_call 168;refine (ct _).mono ?_;rintro e w' ⟨rfl,rfl⟩)
     go_ret2
     exact ⟨rfl,n,rfl⟩
   ·have d1:decide (p<0)=false:=decide_eq_false c1
    have hv:v=p∧e1=0:=by
     rcases HV.out with ⟨h1,h2,h3⟩|⟨h1,h2,h3⟩
     ·rw [← hg.out] at h2;exact ⟨by omega,h3⟩
     ·rw [← hg.out] at h1;exact absurd (by unfold Fit at *;omega) h1
    obtain ⟨rfl,rfl⟩:=hv
    clear HV hg hp hq
    go_wp2
    go_ret2
    exact ⟨rfl,n,rfl⟩
  ·have d0:(q != 0)=true:=by rw [bne_iff_ne];exact hz
   have hs:Hid (Nat.gcd q.natAbs (p.tmod q).natAbs=Nat.gcd a.natAbs b.natAbs):=Lib.hid (by rw [gcd_step];exact hg.out)
   have ht:p.natAbs%q.natAbs<q.natAbs:=Nat.mod_lt _ (by omega)
   have hf:=tmod_fit (a:=p) hq hz
   go_wp2
   go_quiet (fail)
   go_wp2
   go_roundw
   case rel=>exact ⟨q,p.tmod q,rfl,rfl,hq,hf,hs,_,by rw [World.drewN_drewN]⟩
   case measure=>simp [intOf];omega

theorem gcd_to (a b g:Int)(w:World)(ha:Vm.Fit1 a)(hb:Vm.Fit1 b)(hg:g=(Int.gcd a b:Int))(fg:Vm.Fit1 g) :
  Calls Tryz.prog 152 #[.int .i64 a,.int .i64 b] w fun e w'=>e= .returned (.tuple #[.int .i64 g,.int .i64 0])∧Drew w w' :=
 gcd_any a b w ha hb g 0 (Or.inl ⟨by subst hg;exact fg,hg,rfl⟩)

theorem gcd_lost (a b:Int)(w:World)(ha:Vm.Fit1 a)(hb:Vm.Fit1 b)(fg:¬ Vm.Fit1 (Int.gcd a b:Int)) :
  Calls Tryz.prog 152 #[.int .i64 a,.int .i64 b] w fun e w'=>e= .returned (.tuple #[.int .i64 0,.int .i64 2])∧Drew w w' :=
 gcd_any a b w ha hb 0 2 (Or.inr ⟨fg,rfl,rfl⟩)

end Go.Proofs.YtoilomigceijaaaGreatDoor.Wc

namespace Go.Proofs.YtoilomigceijaaaGreatDoor.Qm
open Vm

def Low (N D:Int):Prop:=0<D∧Int.gcd N D=1

theorem cop_dvd {a b c:Int}(h:Int.gcd a b=1)(d:a ∣ b*c):a ∣ c:=by
 have h1:a.natAbs.Coprime b.natAbs:=h
 have h2:a.natAbs ∣ b.natAbs*c.natAbs:=by rw [← Int.natAbs_mul];exact Int.natAbs_dvd_natAbs.2 d
 exact Int.natAbs_dvd_natAbs.1 (h1.dvd_of_dvd_mul_left h2)

theorem cop_mul {a b c:Int}(h1:Int.gcd a c=1)(h2:Int.gcd b c=1):Int.gcd (a*b) c=1:=by
 have h3:a.natAbs.Coprime c.natAbs:=h1
 have h4:b.natAbs.Coprime c.natAbs:=h2
 show Nat.gcd (a*b).natAbs c.natAbs=1
 rw [Int.natAbs_mul];exact h3.mul_left h4

theorem cop_mul' {a b c:Int}(h1:Int.gcd a b=1)(h2:Int.gcd a c=1):Int.gcd a (b*c)=1:=by
 rw [Int.gcd_comm];exact cop_mul (by rw [Int.gcd_comm];exact h1) (by rw [Int.gcd_comm];exact h2)

theorem cop_left {a b c:Int}(h:Int.gcd b c=1)(d:a ∣ b):Int.gcd a c=1:=by
 have:=Int.gcd_dvd_gcd_of_dvd_left c d
 rw [h] at this;exact Nat.dvd_one.1 this
theorem cop_right {a b c:Int}(h:Int.gcd c b=1)(d:a ∣ b):Int.gcd c a=1:=by
 rw [Int.gcd_comm];exact cop_left (by rw [Int.gcd_comm];exact h) d

theorem eq_of_dvd {a b:Int}(ha:0<a)(hb:0<b)(h1:a ∣ b)(h2:b ∣ a):a=b:=by
 have:=Int.le_of_dvd hb h1
 have:=Int.le_of_dvd ha h2
 omega

theorem mul_same {a b c:Int}(h:a≠0)(e:a*b=a*c):b=c:=Int.eq_of_mul_eq_mul_left h e

theorem low_eq {N D N' D':Int}(h:Low N D)(h':Low N' D')(e:N*D'=N'*D):N=N'∧D=D':=by
 have d1:D ∣ D':=by
  apply cop_dvd (b:=N) (by rw [Int.gcd_comm];exact h.2)
  exact ⟨N',by rw [e,Int.mul_comm]⟩
 have d2:D' ∣ D:=by
  apply cop_dvd (b:=N') (by rw [Int.gcd_comm];exact h'.2)
  exact ⟨N,by rw [← e,Int.mul_comm]⟩
 have ed:=eq_of_dvd h.1 h'.1 d1 d2
 subst ed
 refine ⟨?_,rfl⟩
 rw [Int.mul_comm,Int.mul_comm N'] at e
 exact mul_same (by have:=h.1;omega) e

theorem low_unique {N D N' D' n d:Int}(hd:d≠0)(h:Low N D)(h':Low N' D')(e:N*d=n*D)(e':N'*d=n*D'):N=N'∧D=D':=by
 apply low_eq h h'
 apply mul_same hd
 calc d*(N*D')=N*d*D':=by rw [← Int.mul_assoc,Int.mul_comm d N]
  _=n*D*D':=by rw [e]
  _=n*D'*D:=by rw [Int.mul_assoc,Int.mul_comm D,← Int.mul_assoc]
  _=N'*d*D:=by rw [e']
  _=d*(N'*D):=by rw [← Int.mul_assoc,Int.mul_comm d N']

theorem gcd_out {a b:Int}(h:b≠0):∃ g x y:Int,0<g∧g=(Int.gcd a b:Int)∧a=g*x∧b=g*y∧Int.gcd x y=1∧y≠0:=by
 have h1:0<Int.gcd a b:=Int.gcd_pos_of_ne_zero_right a h
 obtain ⟨x,hx⟩:=Int.gcd_dvd_left a b
 obtain ⟨y,hy⟩:=Int.gcd_dvd_right a b
 refine ⟨(Int.gcd a b:Int),x,y,by omega,rfl,hx,hy,?_,?_⟩
 ·have h2:Int.gcd a b=Int.gcd ((Int.gcd a b:Int)*x) ((Int.gcd a b:Int)*y):=by rw [← hx,← hy]
  rw [Int.gcd_mul_left] at h2
  simp only [Int.natAbs_natCast] at h2
  exact Nat.eq_of_mul_eq_mul_left h1 (by omega)
 ·intro e;subst e;rw [Int.mul_zero] at hy;exact h hy

theorem low_ex (n:Int){d:Int}(hd:d≠0):∃ N D,Low N D∧N*d=n*D:=by
 obtain ⟨g,x,y,h0,_,ea,eb,hc,hy⟩:=gcd_out (a:=n) hd
 subst ea eb
 by_cases c:0<y
 ·exact ⟨x,y,⟨c,hc⟩,by rw [Int.mul_comm g x,Int.mul_assoc]⟩
 ·exact ⟨-x, -y,⟨by omega,by rw [Int.neg_gcd,Int.gcd_neg];exact hc⟩,by rw [Int.neg_mul,Int.mul_neg,Int.mul_comm g x,Int.mul_assoc]⟩

def Rat1 (n d N D er:Int):Prop:=(er=0∧Low N D∧N*d=n*D∧Fit1 N∧Fit1 D)∨(er=2∧N=0∧D=0∧∀ N' D',Low N' D'→N'*d=n*D'→¬ (Fit1 N'∧Fit1 D'))

theorem rat1_ex (n:Int){d:Int}(hd:d≠0):∃ N D er,Rat1 n d N D er:=by
 obtain ⟨N,D,hl,he⟩:=low_ex n hd
 by_cases c:Fit1 N∧Fit1 D
 ·exact ⟨N,D,0,.inl ⟨rfl,hl,he,c.1,c.2⟩⟩
 ·exact ⟨0,0,2,.inr ⟨rfl,rfl,rfl,fun N' D' hl' he'=>by have:=low_unique hd hl hl' he he';rw [← this.1,← this.2];exact c⟩⟩

def FitRes (n d N D er:Int):Prop:=(er=0∧N=n∧D=d∧Fit1 n∧Fit1 d)∨(er=2∧N=0∧D=0∧¬ (Fit1 n∧Fit1 d))

theorem fitres_of {n d n' d' N D er:Int}(hd:d≠0)(l:Low n' d')(e:n'*d=n*d')(r:Rat1 n d N D er):FitRes n' d' N D er:=by
 rcases r with ⟨rfl,l',e',f⟩|⟨rfl,rfl,rfl,no⟩
 ·have:=low_unique hd l l' e e';rw [this.1,this.2];exact .inl ⟨rfl,rfl,rfl,f⟩
 ·exact .inr ⟨rfl,rfl,rfl,no _ _ l e⟩

theorem times_low {x p n d g1 x' d' g2 n' p':Int}(hx:Int.gcd x p=1)(hn:Int.gcd n d=1)(ex:x=g1*x')(ed:d=g1*d')(h1:Int.gcd x' d'=1)
  (en:n=g2*n') (ep:p=g2*p') (h2:Int.gcd n' p'=1) (hD:0<p'*d') :
  Low (x'*n') (p'*d')∧x'*n'*(p*d)=x*n*(p'*d'):=by
 have c1:Int.gcd x' p'=1:=cop_right (cop_left hx ⟨g1,by rw [ex,Int.mul_comm]⟩) ⟨g2,by rw [ep,Int.mul_comm]⟩
 have c2:Int.gcd n' d'=1:=cop_right (cop_left hn ⟨g2,by rw [en,Int.mul_comm]⟩) ⟨g1,by rw [ed,Int.mul_comm]⟩
 refine ⟨⟨hD,cop_mul (cop_mul' c1 h1) (cop_mul' h2 c2)⟩,?_⟩
 rw [ex,ed,en,ep]
 ac_rfl

def MakeRes (n d N D er:Int):Prop:=(d=0∧N=0∧D=0∧er=3)∨(d≠0∧Rat1 n d N D er)
theorem makeres_ex (n d:Int):∃ N D er,MakeRes n d N D er:=by
 by_cases c:d=0
 ·exact ⟨0,0,3,.inl ⟨c,rfl,rfl,rfl⟩⟩
 ·obtain ⟨N,D,er,r⟩:=rat1_ex n c
  exact ⟨N,D,er,.inr ⟨c,r⟩⟩

def OpRes (a b c d n m N D er:Int):Prop:=(Low a b∧Low c d∧Rat1 n m N D er)∨(¬ (Low a b∧Low c d)∧N=0∧D=0∧er=1)
end Go.Proofs.YtoilomigceijaaaGreatDoor.Qm

namespace Go.Proofs.YtoilomigceijaaaGreatDoor.Qc
open Go.RowKit Vm Vc Pr Qm

set_option maxHeartbeats 400000

theorem gcd_le {N D:Int}(h:0<D):(Int.gcd N D:Int)≤D∧0<(Int.gcd N D:Int):=by
 have h1:=Int.le_of_dvd h (Int.gcd_dvd_right N D)
 have h2:0<Int.gcd N D:=Int.gcd_pos_of_ne_zero_right N (by omega)
 omega

theorem Check_yes (N D:Int)(w:World)(fN:Fit1 N)(fD:Fit1 D)(h:Low N D) :
  Calls Tryz.prog 129 #[.agg #[.int .i64 N,.int .i64 D]] w fun e w'=>e= .returned (.int .i64 0)∧Below w.heap.size w w':=by
 have cg:=fun w=>Wc.gcd_to N D 1 w fN fD (by rw [h.2];rfl) (by unfold Fit1;omega)
 have d1:decide (D≤0)=false:=decide_eq_false (by have:=h.1;omega)
 clear h fN fD
 go_enter Tryz.func129,Tryz.ntmps129
 go_wp2_with fail
 refine (cg _).mono ?_
 rintro e w' ⟨rfl,n,rfl⟩
 go_wp2
 go_ret
 exact ⟨rfl,below_drewN ((Below.refl _ _).alloc (Nat.le_refl _) _) _⟩

theorem Check_no (N D:Int)(w:World)(fN:Fit1 N)(fD:Fit1 D)(h:¬ Low N D) :
  Calls Tryz.prog 129 #[.agg #[.int .i64 N,.int .i64 D]] w fun e w'=>e= .returned (.int .i64 1)∧Below w.heap.size w w':=by
 by_cases c:D≤0
 ·clear h fN fD
  go_enter Tryz.func129,Tryz.ntmps129
  go_wp2
  go_ret
  exact ⟨rfl,(Below.refl _ _).alloc (Nat.le_refl _) _⟩
 ·have g0:=gcd_le (N:=N) (D:=D) (by omega)
  obtain ⟨g,hg⟩:∃ g,g=(Int.gcd N D:Int):=⟨_,rfl⟩
  rw [← hg] at g0
  have cg:=fun w=>Wc.gcd_to N D g w fN fD hg (by unfold Fit1 at *;omega)
  have d1:decide (D≤0)=false:=decide_eq_false c
  have d2:(g != 1)=true:=by
   rw [bne_iff_ne];intro e;exact h ⟨by omega,by omega⟩
  clear h fN fD hg c g0
  go_enter Tryz.func129,Tryz.ntmps129
  go_wp2_with fail
  refine (cg _).mono ?_
  rintro e w' ⟨rfl,n,rfl⟩
  go_wp2
  go_ret
  exact ⟨rfl,below_drewN ((Below.refl _ _).alloc (Nat.le_refl _) _) _⟩

theorem fitting_any (h1 l1 h2 l2 N D er:Int)(w:World)(b1:Bd h1 l1)(b2:Bd h2 l2)(F:FitRes (num h1 l1) (num h2 l2) N D er) :
  Calls Tryz.prog 128 #[.agg #[.int .i64 h1,.int .u64 l1],.agg #[.int .i64 h2,.int .u64 l2]] w fun e w' =>
   e= .returned (.tuple #[.agg #[.int .i64 N,.int .i64 D],.int .i64 er])∧Below w.heap.size w w':=by
 obtain ⟨v1,e1,r1⟩:=res1_ex (num h1 l1)
 obtain ⟨v2,e2,r2⟩:=res1_ex (num h2 l2)
 have cf1:=fun w=>Fit_any h1 l1 v1 e1 w b1 r1
 have cf2:=fun w=>Fit_any h2 l2 v2 e2 w b2 r2
 have O:(e1≠0∧N=0∧D=0∧er=e1)∨(e1=0∧e2≠0∧N=0∧D=0∧er=e2)∨(e1=0∧e2=0∧N=v1∧D=v2∧er=0):=by
  rcases r1 with ⟨rfl,rfl,f1⟩|⟨rfl,rfl,f1⟩
  ·rcases r2 with ⟨rfl,rfl,f2⟩|⟨rfl,rfl,f2⟩
   ·rcases F with ⟨rfl,rfl,rfl,_⟩|⟨_,_,_,no⟩
    ·exact .inr (.inr ⟨rfl,rfl,rfl,rfl,rfl⟩)
    ·exact absurd ⟨f1,f2⟩ no
   ·rcases F with ⟨_,_,_,_,f⟩|⟨rfl,rfl,rfl,no⟩
    ·exact absurd f f2
    ·exact .inr (.inl ⟨rfl,by decide,rfl,rfl,rfl⟩)
  ·rcases F with ⟨_,_,_,f,_⟩|⟨rfl,rfl,rfl,no⟩
   ·exact absurd f f1
   ·exact .inl ⟨by decide,rfl,rfl,rfl⟩
 clear F r1 r2 b1 b2
 rcases O with ⟨o1,rfl,rfl,rfl⟩|⟨rfl,o2,rfl,rfl,rfl⟩|⟨rfl,rfl,rfl,rfl,rfl⟩
 ·have d1:(er != 0)=true:=bne_iff_ne.2 o1
  clear o1
  go_enter Tryz.func128,Tryz.ntmps128
  go_wp2_with fail
  refine (cf1 _).mono ?_
  rintro e w1 ⟨rfl,hb1⟩
  have P3:=(Two.new _ (.int .i64 0) (.int .i64 0) 64).kept hb1
  have B1:=bthen (balloc (balloc (balloc (Below.refl _ w) _) _) _) hb1
  clear hb1
  obtain ⟨z,c0,c1,f0,f1⟩:=id P3
  simp only [World.size_alloc] at z c0 c1 f0 f1
  go_wp2
  refine bodyPost_ret (v:=.tuple #[.agg #[.int .i64 0,.int .i64 0],.int .i64 er]) (by simp [results,Tryz.results128,go_sem,c0,c1]) rfl ⟨rfl,?_⟩
  exact bset (bset B1 (by omega) _ _) (by omega) _ _
 all_goals
  go_enter Tryz.func128,Tryz.ntmps128
  go_wp2_with fail
  refine (cf1 _).mono ?_
  rintro e w1 ⟨rfl,hb1⟩
  have P2:=((Two.new _ (.int .i64 h2) (.int .u64 l2) 84).alloc (.cells #[.int .i64 0,.int .i64 0] 64)).kept hb1
  have P3:=(Two.new _ (.int .i64 0) (.int .i64 0) 64).kept hb1
  have B1:=bthen (balloc (balloc (balloc (Below.refl _ w) _) _) _) hb1
  clear hb1
  obtain ⟨z',d0,d1,_,_⟩:=id P2
  simp only [World.size_alloc] at z' d0 d1
  go_wp2_with fail
  refine (cf2 _).mono ?_
  rintro e w2 ⟨rfl,hb2⟩
  replace P3:=P3.kept hb2
  replace B1:=bthen B1 hb2
  clear hb2 z' d0 d1
  obtain ⟨z,c0,c1,f0,f1⟩:=id P3
  simp only [World.size_alloc] at z c0 c1 f0 f1
 ·have d1:(er != 0)=true:=bne_iff_ne.2 o2
  clear o2
  go_wp2
  refine bodyPost_ret (v:=.tuple #[.agg #[.int .i64 0,.int .i64 0],.int .i64 er]) (by simp [results,Tryz.results128,go_sem,c0,c1]) rfl ⟨rfl,?_⟩
  exact bset (bset B1 (by omega) _ _) (by omega) _ _
 ·go_wp2
  refine bodyPost_ret (v:=.tuple #[.agg #[.int .i64 N,.int .i64 D],.int .i64 0]) (by simp [results,Tryz.results128,go_sem,c0,c1]) rfl ⟨rfl,?_⟩
  exact bset (bset B1 (by omega) _ _) (by omega) _ _

theorem lowest_any (n d x y g:Int)(w:World)(fn:Fit1 n)(fd:Fit1 d)(fx:Fit1 x)(fy:Fit1 y)(g0:g≠0)(en:n=g*x)(ed:d=g*y)
  (hg:(Fit1 g∧g=(Int.gcd n d:Int))∨(¬ Fit1 (Int.gcd n d:Int)∧g= -9223372036854775808)) :
  Calls Tryz.prog 127 #[.int .i64 n,.int .i64 d] w fun e w'=>e= .returned (.tuple #[.int .i64 x,.int .i64 y])∧Wc.Drew w w':=by
 have k1:n.tdiv g=x:=by rw [en];exact Int.mul_tdiv_cancel_left x g0
 have k2:d.tdiv g=y:=by rw [ed];exact Int.mul_tdiv_cancel_left y g0
 have k3:IntKind.i64.wrap x=x:=IntWalk.i64_in _ fx
 have k4:IntKind.i64.wrap y=y:=IntWalk.i64_in _ fy
 have d0:(g==0)=false:=beq_eq_false_iff_ne.2 g0
 have fin:∀ n m,Wc.Drew w ((w.drewN n).drewN m):=fun n m=>⟨n+m,by rw [World.drewN_drewN]⟩
 rcases hg with ⟨fg,hg⟩|⟨fg,rfl⟩
 ·have cg:=fun w=>Wc.gcd_to n d g w fn fd hg fg
  unfold Fit1 at fx fy fg
  obtain ⟨fx0,fx1⟩:=fx
  obtain ⟨fy0,fy1⟩:=fy
  obtain ⟨fg0,fg1⟩:=fg
  clear hg fn fd en ed
  go_enter Tryz.func127,Tryz.ntmps127
  go_wp2_with fail
  refine (cg _).mono ?_
  rintro e w1 ⟨rfl,n1,rfl⟩
  go_wp2
  go_quiet (fail)
  go_wp2
  go_ret2
  exact ⟨rfl,fin _ _⟩
 ·have cg:=fun w=>Wc.gcd_lost n d w fn fd fg
  unfold Fit1 at fx fy
  obtain ⟨fx0,fx1⟩:=fx
  obtain ⟨fy0,fy1⟩:=fy
  clear fg fn fd en ed
  go_enter Tryz.func127,Tryz.ntmps127
  go_wp2_with fail
  refine (cg _).mono ?_
  rintro e w1 ⟨rfl,n1,rfl⟩
  go_wp2
  go_quiet (fail)
  go_wp2
  go_ret2
  exact ⟨rfl,fin _ _⟩

end Go.Proofs.YtoilomigceijaaaGreatDoor.Qc

namespace Go.Proofs.YtoilomigceijaaaGreatDoor.Qc
open Go.RowKit Vm Vc Pr Qm

set_option maxHeartbeats 400000

theorem part_fit {n g x:Int}(fn:Fit1 n)(g0:0<g)(e:n=g*x):Fit1 x:=by
 unfold Fit1 at *
 by_cases c:0≤x
 ·have:1*x≤g*x:=Int.mul_le_mul_of_nonneg_right (by omega) c
  omega
 ·have:g*x≤1*x:=Int.mul_le_mul_of_nonpos_right (by omega) (by omega)
  omega

theorem pos_part {g x:Int}(g0:0<g)(h:0<g*x):0<x:=by
 rcases Int.lt_trichotomy x 0 with c|c|c
 ·have:=Int.mul_neg_of_pos_of_neg g0 c;omega
 ·subst c;rw [Int.mul_zero] at h;omega
 ·exact c
theorem neg_part {g x:Int}(g0:0<g)(h:x<0):g*x<0:=Int.mul_neg_of_pos_of_neg g0 h

theorem low_cut {n d:Int}(fn:Fit1 n)(fd:Fit1 d)(hd:d≠0):∃ g x y:Int,Fit1 x∧Fit1 y∧g≠0∧n=g*x∧d=g*y∧Int.gcd x y=1∧
  ((Fit1 g∧g=(Int.gcd n d:Int))∨(¬ Fit1 (Int.gcd n d:Int)∧g= -9223372036854775808))∧y≠0∧(y<0→d<0)∧(0<d→0<g):=by
 obtain ⟨g,x,y,g0,hg,en,ed,hc,hy⟩:=gcd_out (a:=n) hd
 by_cases c:Fit1 g
 ·refine ⟨g,x,y,part_fit fn g0 en,part_fit fd g0 ed,by omega,en,ed,hc,.inl ⟨c,hg⟩,hy,?_,fun _=>g0⟩
  intro h;rw [ed];exact neg_part g0 h
 ·have g1:9223372036854775808≤g:=by unfold Fit1 at c;omega
  have yb:y=1∨y= -1:=by
   rcases Int.lt_trichotomy y 0 with h|h|h
   ·right
    have:g*y≤9223372036854775808*y:=Int.mul_le_mul_of_nonpos_right g1 (by omega)
    unfold Fit1 at fd;omega
   ·exact absurd h hy
   ·left
    have:9223372036854775808*y≤g*y:=Int.mul_le_mul_of_nonneg_right g1 (by omega)
    unfold Fit1 at fd;omega
  have ge:g=9223372036854775808∧y= -1:=by
   unfold Fit1 at fd
   rcases yb with rfl|rfl<;>omega
  obtain ⟨rfl,rfl⟩:=ge
  have fx:x=0∨x= -1:=by unfold Fit1 at fn;omega
  refine ⟨-9223372036854775808, -x,1,by unfold Fit1;omega,by unfold Fit1;omega,by omega,by omega,by omega,by simp,.inr ⟨by rw [← hg];exact c,rfl⟩,by omega,by omega,by omega⟩

theorem times_any (x p n d N D er:Int)(w:World)(fx:Fit1 x)(fp:Fit1 p)(fn:Fit1 n)(fd:Fit1 d)(hx:Low x p)(hn:Int.gcd n d=1)(hd:d≠0)(hs:d<0→0<n)
  (R:Rat1 (x*n) (p*d) N D er) :
  Calls Tryz.prog 85 #[.agg #[.int .i64 x,.int .i64 p],.int .i64 n,.int .i64 d] w fun e w' =>
   e= .returned (.tuple #[.agg #[.int .i64 N,.int .i64 D],.int .i64 er])∧Below w.heap.size w w':=by
 have hpd:p*d≠0:=Int.mul_ne_zero (by have:=hx.1;omega) hd
 obtain ⟨g1,x',d',fx',fd',g10,ex,ed,hc1,hg1,hd',sd,_⟩:=low_cut fx fd hd
 obtain ⟨g2,n',p',fn',fp',g20,en,ep,hc2,hg2,hp',_,sp⟩:=low_cut fn fp (by have:=hx.1;omega)
 have g2p:0<g2:=sp hx.1
 have p'p:0<p':=pos_part g2p (by rw [← ep];exact hx.1)
 have cl1:=fun w=>lowest_any x d x' d' g1 w fx fd fx' fd' g10 ex ed hg1
 have cl2:=fun w=>lowest_any n p n' p' g2 w fn fp fn' fp' g20 en ep hg2
 by_cases c:d'<0
 ·have n'p:0<n':=pos_part g2p (by rw [← en];exact hs (sd c))
  have n1: -9223372036854775807≤n':=by omega
  have p1: -9223372036854775807≤p':=by omega
  have fn'':Fit1 (-n'):=by unfold Fit1 at *;omega
  have fp'':Fit1 (-p'):=by unfold Fit1 at *;omega
  obtain ⟨h1,l1,e1,b1⟩:=words_ex (x:=x' * -n') (by have:=prod_fits fx' fn'';unfold Fits;omega)
  obtain ⟨h2,l2,e2,b2⟩:=words_ex (x:= -p'*d') (by have:=prod_fits fp'' fd';unfold Fits;omega)
  obtain ⟨L,E⟩:=times_low (x:=x) (p:=p) (n:=n) (d:=d) (g1:=g1) (x':=x') (d':=d') (g2:= -g2) (n':= -n') (p':= -p') hx.2 hn ex ed hc1 (by rw [en];exact (Int.neg_mul_neg g2 n').symm) (by rw [ep];exact (Int.neg_mul_neg g2 p').symm) (by rw [Int.neg_gcd,Int.gcd_neg];exact hc2) (Int.mul_pos_of_neg_of_neg (by omega) c)
  rw [← e1,← e2] at L E
  have F:=fitres_of hpd L E R
  have cm1:=fun w=>Mul_any x' (-n') h1 l1 w fx' fn'' b1 e1
  have cm2:=fun w=>Mul_any (-p') d' h2 l2 w fp'' fd' b2 e2
  have cf:=fun w=>fitting_any h1 l1 h2 l2 N D er w b1 b2 F
  unfold Fit1 at fn' fp'
  obtain ⟨_,fn1⟩:=fn'
  obtain ⟨_,fp1⟩:=fp'
  clear L E F b1 b2 e1 e2 R hx hn hd hs hpd ex ed en ep hc1 hc2 hg1 hg2 hd' hp' sd sp fx fp fn fd fx' fd' fn'' fp'' g10 g20 g2p
  go_enter Tryz.func85,Tryz.ntmps85
  go_wp2_with fail
  refine (cl1 _).mono ?_
  rintro e w1 ⟨rfl,m1,rfl⟩
  go_wp2_with fail
  refine (cl2 _).mono ?_
  rintro e w1 ⟨rfl,m2,rfl⟩
  go_wp2_with fail
  refine (cm1 _).mono ?_
  rintro e w1 ⟨rfl,hb1⟩
  have P4:=((Two.new (w.alloc (.cells #[.int .i64 x,.int .i64 p] 64)) (.int .i64 0) (.int .i64 0) 64).drewN (m1+m2)).kept hb1
  have B1:=bthen (bdrewN (balloc (balloc (Below.refl _ w) _) _) (m1+m2)) hb1
  clear hb1
  go_wp2_with fail
  refine (cm2 _).mono ?_
  rintro e w2 ⟨rfl,hb1⟩
  replace P4:=P4.kept hb1
  replace B1:=bthen B1 hb1
  clear hb1
  go_wp2_with fail
  refine (cf _).mono ?_
  rintro e w3 ⟨rfl,hb1⟩
  replace P4:=P4.kept hb1
  replace B1:=bthen B1 hb1
  clear hb1
  obtain ⟨z,c0,c1,f0,f1⟩:=id P4
  simp only [World.size_alloc] at z c0 c1 f0 f1
  go_wp2
  refine bodyPost_ret (v:=.tuple #[.agg #[.int .i64 N,.int .i64 D],.int .i64 er]) (by simp [results,Tryz.results85,go_sem,c0,c1]) rfl ⟨rfl,?_⟩
  exact bset (bset B1 (by simp) _ _) (by simp) _ _
 ·have d'p:0<d':=by omega
  have d2:decide (d'<0)=false:=decide_eq_false c
  obtain ⟨h1,l1,e1,b1⟩:=words_ex (x:=x'*n') (by have:=prod_fits fx' fn';unfold Fits;omega)
  obtain ⟨h2,l2,e2,b2⟩:=words_ex (x:=p'*d') (by have:=prod_fits fp' fd';unfold Fits;omega)
  obtain ⟨L,E⟩:=times_low (x:=x) (p:=p) (n:=n) (d:=d) (g1:=g1) (x':=x') (d':=d') (g2:=g2) (n':=n') (p':=p') hx.2 hn ex ed hc1 en ep hc2 (Int.mul_pos p'p d'p)
  rw [← e1,← e2] at L E
  have F:=fitres_of hpd L E R
  have cm1:=fun w=>Mul_any x' n' h1 l1 w fx' fn' b1 e1
  have cm2:=fun w=>Mul_any p' d' h2 l2 w fp' fd' b2 e2
  have cf:=fun w=>fitting_any h1 l1 h2 l2 N D er w b1 b2 F
  clear L E F b1 b2 e1 e2 R hx hn hd hs hpd ex ed en ep hc1 hc2 hg1 hg2 hd' hp' sd sp fx fp fn fd fx' fd' fn' fp' g10 g20 g2p c
  go_enter Tryz.func85,Tryz.ntmps85
  go_wp2_with fail
  refine (cl1 _).mono ?_
  rintro e w1 ⟨rfl,m1,rfl⟩
  go_wp2_with fail
  refine (cl2 _).mono ?_
  rintro e w1 ⟨rfl,m2,rfl⟩
  go_wp2_with fail
  refine (cm1 _).mono ?_
  rintro e w1 ⟨rfl,hb1⟩
  have P4:=((Two.new (w.alloc (.cells #[.int .i64 x,.int .i64 p] 64)) (.int .i64 0) (.int .i64 0) 64).drewN (m1+m2)).kept hb1
  have B1:=bthen (bdrewN (balloc (balloc (Below.refl _ w) _) _) (m1+m2)) hb1
  clear hb1
  go_wp2_with fail
  refine (cm2 _).mono ?_
  rintro e w2 ⟨rfl,hb1⟩
  replace P4:=P4.kept hb1
  replace B1:=bthen B1 hb1
  clear hb1
  go_wp2_with fail
  refine (cf _).mono ?_
  rintro e w3 ⟨rfl,hb1⟩
  replace P4:=P4.kept hb1
  replace B1:=bthen B1 hb1
  clear hb1
  obtain ⟨z,c0,c1,f0,f1⟩:=id P4
  simp only [World.size_alloc] at z c0 c1 f0 f1
  go_wp2
  refine bodyPost_ret (v:=.tuple #[.agg #[.int .i64 N,.int .i64 D],.int .i64 er]) (by simp [results,Tryz.results85,go_sem,c0,c1]) rfl ⟨rfl,?_⟩
  exact bset (bset B1 (by simp) _ _) (by simp) _ _

end Go.Proofs.YtoilomigceijaaaGreatDoor.Qc

namespace Go.Proofs.YtoilomigceijaaaGreatDoor.Qc
open Go.RowKit Vm Vc Pr Qm

set_option maxHeartbeats 400000

theorem Make_any (n d N D er:Int)(w:World)(fn:Fit1 n)(fd:Fit1 d)(R:MakeRes n d N D er) :
  Calls Tryz.prog 42 #[.int .i64 n,.int .i64 d] w fun e w' =>
   e= .returned (.tuple #[.agg #[.int .i64 N,.int .i64 D],.int .i64 er])∧Below w.heap.size w w':=by
 rcases R with ⟨rfl,rfl,rfl,rfl⟩|⟨hd,R⟩
 ·go_enter Tryz.func42,Tryz.ntmps42
  go_wp2
  refine bodyPost_ret (v:=.tuple #[.agg #[.int .i64 0,.int .i64 0],.int .i64 3]) (by simp [results,Tryz.results42,go_sem]) rfl ⟨rfl,?_⟩
  exact balloc (Below.refl _ w) _
 ·have d0:(d==0)=false:=beq_eq_false_iff_ne.2 hd
  have ct:=fun w=>times_any n 1 1 d N D er w fn (by unfold Fit1;omega) (by unfold Fit1;omega) fd ⟨by omega,by simp⟩ (by simp) hd (by omega) (by simpa using R)
  clear R hd fn fd
  go_enter Tryz.func42,Tryz.ntmps42
  go_wp2_with fail
  refine (ct _).mono ?_
  rintro e w1 ⟨rfl,hb1⟩
  have P4:=(Two.new w (.int .i64 0) (.int .i64 0) 64).kept hb1
  have B1:=bthen (balloc (Below.refl _ w) _) hb1
  clear hb1
  obtain ⟨z,c0,c1,f0,f1⟩:=id P4
  go_wp2
  refine bodyPost_ret (v:=.tuple #[.agg #[.int .i64 N,.int .i64 D],.int .i64 er]) (by simp [results,Tryz.results42,go_sem,c0,c1]) rfl ⟨rfl,?_⟩
  exact bset (bset B1 (by simp) _ _) (by simp) _ _

theorem mulf_any (p q:Nat)(a b c d N D er:Int)(w:World)(A:Two w p (.int .i64 a) (.int .i64 b))(B:Two w q (.int .i64 c) (.int .i64 d))(fa:Fit1 a)(fb:Fit1 b)(fc:Fit1 c)(fd:Fit1 d)
  (h1:Low a b) (h2:Low c d) (R:Rat1 (a*c) (b*d) N D er) :
  Calls Tryz.prog 87 #[.pointer (some ⟨p,0,none⟩),.pointer (some ⟨q,0,none⟩)] w fun e w' =>
   e= .returned (.tuple #[.agg #[.int .i64 N,.int .i64 D],.int .i64 er])∧Below w.heap.size w w':=by
 have ct:=fun w=>times_any a b c d N D er w fa fb fc fd h1 h2.2 (by have:=h2.1;omega) (by have:=h2.1;omega) R
 clear R h1 h2 fa fb fc fd
 obtain ⟨z1,a0,a1,_,_⟩:=id A
 obtain ⟨z2,b0,b1,_,_⟩:=id B
 go_enter Tryz.func87,Tryz.ntmps87
 go_wp2_with fail
 refine (ct _).mono ?_
 rintro e w1 ⟨rfl,hb1⟩
 have P4:=(Two.new w (.int .i64 0) (.int .i64 0) 64).kept hb1
 have B1:=bthen (balloc (Below.refl _ w) _) hb1
 clear hb1 z1 a0 a1 z2 b0 b1 A B
 obtain ⟨z,c0,c1,f0,f1⟩:=id P4
 go_wp2
 refine bodyPost_ret (v:=.tuple #[.agg #[.int .i64 N,.int .i64 D],.int .i64 er]) (by simp [results,Tryz.results87,go_sem,c0,c1]) rfl ⟨rfl,?_⟩
 exact bset (bset B1 (by simp) _ _) (by simp) _ _

theorem counted_yes (K:Nat)(caps:Array Value)(a b c d N D er:Int)(w:World)(fa:Fit1 a)(fb:Fit1 b)(fc:Fit1 c)(fd:Fit1 d)
  (h1:Low a b) (h2:Low c d) (hE:∀ w1,Sem.run Tryz.prog (callFunc K caps) w1= .ok (.enter K caps) w1) (hK:∀ w1,Below w.heap.size w w1→Calls Tryz.prog K caps w1 fun e w'=>e= .returned (.tuple #[.agg #[.int .i64 N,.int .i64 D],.int .i64 er])∧Below w1.heap.size w1 w') :
  Calls Tryz.prog 86 #[.agg #[.int .i64 a,.int .i64 b],.agg #[.int .i64 c,.int .i64 d],.func (.func K) #[] caps] w fun e w' =>
   e= .returned (.tuple #[.agg #[.int .i64 N,.int .i64 D],.int .i64 er])∧Below w.heap.size w w':=by
 have c1:=fun w=>Check_yes a b w fa fb h1
 have c2:=fun w=>Check_yes c d w fc fd h2
 clear h1 h2 fa fb fc fd
 go_enter Tryz.func86,Tryz.ntmps86
 go_wp2_with fail
 refine (c1 _).mono ?_
 rintro e w1 ⟨rfl,hb1⟩
 have P2:=((Two.new (w.alloc (.cells #[.int .i64 a,.int .i64 b] 64)) (.int .i64 c) (.int .i64 d) 64).alloc (.cells #[.int .i64 0,.int .i64 0] 64)).alloc (.cells #[.int .i64 0,.int .i64 0] 64)
 replace P2:=P2.kept hb1
 have P3:=((Two.new ((w.alloc (.cells #[.int .i64 a,.int .i64 b] 64)).alloc (.cells #[.int .i64 c,.int .i64 d] 64)) (.int .i64 0) (.int .i64 0) 64).alloc (.cells #[.int .i64 0,.int .i64 0] 64)).kept hb1
 have B1:=bthen (balloc (balloc (balloc (balloc (Below.refl _ w) _) _) _) _) hb1
 clear hb1
 obtain ⟨z2,b0,b1,_,_⟩:=id P2
 simp only [World.size_alloc] at z2 b0 b1 P3
 go_wp2_with fail
 refine (c2 _).mono ?_
 rintro e w2 ⟨rfl,hb1⟩
 replace P3:=P3.kept hb1
 replace B1:=bthen B1 hb1
 clear hb1 z2 b0 b1 P2
 go_wp2_with fail
 refine (hK _ B1).mono ?_
 rintro e w3 ⟨rfl,hb1⟩
 replace P3:=P3.kept hb1
 replace B1:=bthen B1 hb1
 clear hb1
 obtain ⟨z,c0,c1,f0,f1⟩:=id P3
 go_wp2
 refine bodyPost_ret (v:=.tuple #[.agg #[.int .i64 N,.int .i64 D],.int .i64 er]) (by simp [results,Tryz.results86,go_sem,c0,c1]) rfl ⟨rfl,?_⟩
 exact bset (bset B1 (by omega) _ _) (by omega) _ _

theorem counted_no (K:Nat)(caps:Array Value)(a b c d:Int)(w:World)(fa:Fit1 a)(fb:Fit1 b)(fc:Fit1 c)(fd:Fit1 d)(h:¬ (Low a b∧Low c d)) :
  Calls Tryz.prog 86 #[.agg #[.int .i64 a,.int .i64 b],.agg #[.int .i64 c,.int .i64 d],.func (.func K) #[] caps] w fun e w' =>
   e= .returned (.tuple #[.agg #[.int .i64 0,.int .i64 0],.int .i64 1])∧Below w.heap.size w w':=by
 by_cases h1:Low a b
 ·have c1:=fun w=>Check_yes a b w fa fb h1
  have c2:=fun w=>Check_no c d w fc fd (fun h2=>h ⟨h1,h2⟩)
  clear h h1 fa fb fc fd
  go_enter Tryz.func86,Tryz.ntmps86
  go_wp2_with fail
  refine (c1 _).mono ?_
  rintro e w1 ⟨rfl,hb1⟩
  have P2:=((Two.new (w.alloc (.cells #[.int .i64 a,.int .i64 b] 64)) (.int .i64 c) (.int .i64 d) 64).alloc (.cells #[.int .i64 0,.int .i64 0] 64)).alloc (.cells #[.int .i64 0,.int .i64 0] 64)
  replace P2:=P2.kept hb1
  have P3:=((Two.new ((w.alloc (.cells #[.int .i64 a,.int .i64 b] 64)).alloc (.cells #[.int .i64 c,.int .i64 d] 64)) (.int .i64 0) (.int .i64 0) 64).alloc (.cells #[.int .i64 0,.int .i64 0] 64)).kept hb1
  have P5:=(Two.new (((w.alloc (.cells #[.int .i64 a,.int .i64 b] 64)).alloc (.cells #[.int .i64 c,.int .i64 d] 64)).alloc (.cells #[.int .i64 0,.int .i64 0] 64)) (.int .i64 0) (.int .i64 0) 64).kept hb1
  have B1:=bthen (balloc (balloc (balloc (balloc (Below.refl _ w) _) _) _) _) hb1
  clear hb1
  obtain ⟨z2,b0,b1,_,_⟩:=id P2
  simp only [World.size_alloc] at z2 b0 b1 P3 P5
  go_wp2_with fail
  refine (c2 _).mono ?_
  rintro e w2 ⟨rfl,hb1⟩
  replace P3:=P3.kept hb1
  replace P5:=P5.kept hb1
  replace B1:=bthen B1 hb1
  clear hb1 z2 b0 b1 P2
  obtain ⟨z,c0,c1,f0,f1⟩:=id P3
  obtain ⟨z5,d0,d1,_,_⟩:=id P5
  go_wp2
  refine bodyPost_ret (v:=.tuple #[.agg #[.int .i64 0,.int .i64 0],.int .i64 1]) (by simp [results,Tryz.results86,go_sem,c0,c1]) rfl ⟨rfl,?_⟩
  exact bset (bset B1 (by omega) _ _) (by omega) _ _
 ·have c1:=fun w=>Check_no a b w fa fb h1
  clear h h1 fa fb fc fd
  go_enter Tryz.func86,Tryz.ntmps86
  go_wp2_with fail
  refine (c1 _).mono ?_
  rintro e w1 ⟨rfl,hb1⟩
  have P3:=((Two.new ((w.alloc (.cells #[.int .i64 a,.int .i64 b] 64)).alloc (.cells #[.int .i64 c,.int .i64 d] 64)) (.int .i64 0) (.int .i64 0) 64).alloc (.cells #[.int .i64 0,.int .i64 0] 64)).kept hb1
  have P5:=(Two.new (((w.alloc (.cells #[.int .i64 a,.int .i64 b] 64)).alloc (.cells #[.int .i64 c,.int .i64 d] 64)).alloc (.cells #[.int .i64 0,.int .i64 0] 64)) (.int .i64 0) (.int .i64 0) 64).kept hb1
  have B1:=bthen (balloc (balloc (balloc (balloc (Below.refl _ w) _) _) _) _) hb1
  clear hb1
  simp only [World.size_alloc] at P3 P5
  obtain ⟨z,c0,c1,f0,f1⟩:=id P3
  obtain ⟨z5,d0,d1,_,_⟩:=id P5
  go_wp2
  refine bodyPost_ret (v:=.tuple #[.agg #[.int .i64 0,.int .i64 0],.int .i64 1]) (by simp [results,Tryz.results86,go_sem,c0,c1]) rfl ⟨rfl,?_⟩
  exact bset (bset B1 (by omega) _ _) (by omega) _ _

set_option maxRecDepth 100000 in
theorem Mul_op (a b c d N D er:Int)(w:World)(fa:Fit1 a)(fb:Fit1 b)(fc:Fit1 c)(fd:Fit1 d)(R:OpRes a b c d (a*c) (b*d) N D er) :
  Calls Tryz.prog 43 #[.agg #[.int .i64 a,.int .i64 b],.agg #[.int .i64 c,.int .i64 d]] w fun e w' =>
   e= .returned (.tuple #[.agg #[.int .i64 N,.int .i64 D],.int .i64 er])∧Below w.heap.size w w':=by
 have P1:=((Two.new w (.int .i64 a) (.int .i64 b) 64).alloc (.cells #[.int .i64 c,.int .i64 d] 64)).alloc (.cells #[.int .i64 0,.int .i64 0] 64)
 have P2:=(Two.new (w.alloc (.cells #[.int .i64 a,.int .i64 b] 64)) (.int .i64 c) (.int .i64 d) 64).alloc (.cells #[.int .i64 0,.int .i64 0] 64)
 have P3:=Two.new ((w.alloc (.cells #[.int .i64 a,.int .i64 b] 64)).alloc (.cells #[.int .i64 c,.int .i64 d] 64)) (.int .i64 0) (.int .i64 0) 64
 have B0:=balloc (balloc (balloc (Below.refl _ w) (.cells #[.int .i64 a,.int .i64 b] 64)) (.cells #[.int .i64 c,.int .i64 d] 64)) (.cells #[.int .i64 0,.int .i64 0] 64)
 simp only [World.size_alloc] at P1 P2 P3
 have ct:Calls Tryz.prog 86 #[.agg #[.int .i64 a,.int .i64 b],.agg #[.int .i64 c,.int .i64 d],.func (.func 87) #[] #[.pointer (some ⟨w.heap.size,0,none⟩),.pointer (some ⟨w.heap.size+1,0,none⟩)]]
   (((w.alloc (.cells #[.int .i64 a,.int .i64 b] 64)).alloc (.cells #[.int .i64 c,.int .i64 d] 64)).alloc (.cells #[.int .i64 0,.int .i64 0] 64)) fun e w' =>
   e= .returned (.tuple #[.agg #[.int .i64 N,.int .i64 D],.int .i64 er])∧Below w.heap.size w w'∧Two w' (w.heap.size+1+1) (.int .i64 0) (.int .i64 0):=by
  rcases R with ⟨h1,h2,R⟩|⟨h,rfl,rfl,rfl⟩
  ·refine (counted_yes _ _ a b c d N D er _ fa fb fc fd h1 h2 (fun w1=>by rfl) (fun w1 hb=>mulf_any _ _ a b c d N D er w1 (P1.kept hb) (P2.kept hb) fa fb fc fd h1 h2 R)).mono ?_
   rintro e w1 ⟨rfl,hb⟩
   exact ⟨rfl,bthen B0 hb,P3.kept hb⟩
  ·refine (counted_no _ _ a b c d _ fa fb fc fd h).mono ?_
   rintro e w1 ⟨rfl,hb⟩
   exact ⟨rfl,bthen B0 hb,P3.kept hb⟩
 clear R fa fb fc fd P1 P2 P3 B0
 go_enter Tryz.func43,Tryz.ntmps43
 go_wp2_with fail
 refine ct.mono ?_
 rintro e w1 ⟨rfl,B1,P3⟩
 clear ct
 obtain ⟨z,c0,c1,f0,f1⟩:=id P3
 go_wp2
 refine bodyPost_ret (v:=.tuple #[.agg #[.int .i64 N,.int .i64 D],.int .i64 er]) (by simp [results,Tryz.results43,go_sem,c0,c1]) rfl ⟨rfl,?_⟩
 exact bset (bset B1 (by omega) _ _) (by omega) _ _

end Go.Proofs.YtoilomigceijaaaGreatDoor.Qc

namespace Go.Proofs.YtoilomigceijaaaGreatDoor.Qm
open Vm

theorem sign_same {N m n D:Int}(hm:0<m)(hD:0<D)(e:N*m=n*D):(N<0↔n<0)∧(0<N↔0<n):=by
 rcases Int.lt_trichotomy N 0 with h|h|h<;>rcases Int.lt_trichotomy n 0 with k|k|k
 ·exact ⟨⟨fun _=>k,fun _=>h⟩,⟨fun _=>by omega,fun _=>by omega⟩⟩
 ·subst k;have:=Int.mul_neg_of_neg_of_pos h hm;simp at e;omega
 ·have h1:=Int.mul_neg_of_neg_of_pos h hm;have h2:=Int.mul_pos k hD;omega
 ·subst h;have:=Int.mul_neg_of_neg_of_pos k hD;simp at e;omega
 ·subst h k;exact ⟨Iff.rfl,Iff.rfl⟩
 ·subst h;have:=Int.mul_pos k hD;simp at e;omega
 ·have h1:=Int.mul_pos h hm;have h2:=Int.mul_neg_of_neg_of_pos k hD;omega
 ·subst k;have:=Int.mul_pos h hm;simp at e;omega
 ·exact ⟨⟨fun _=>by omega,fun _=>by omega⟩,⟨fun _=>k,fun _=>h⟩⟩

end Go.Proofs.YtoilomigceijaaaGreatDoor.Qm

namespace Go.Proofs.YtoilomigceijaaaGreatDoor.Qc
open Go.RowKit Vm Vc Pr Qm

set_option maxHeartbeats 1000000

section
variable {w W w1:World} {g:Nat} {y q h l:Int}
end

end Go.Proofs.YtoilomigceijaaaGreatDoor.Qc

namespace Go.Proofs.YtoilomigceijaaaGreatDoor.Qc
open Go.RowKit Vm Vc Pr Qm

set_option maxHeartbeats 400000

end Go.Proofs.YtoilomigceijaaaGreatDoor.Qc

namespace Go.Proofs.YtoilomigceijaaaGreatDoor.Qc
open Go.RowKit Vm Vc Pr Qm

set_option maxHeartbeats 400000

end Go.Proofs.YtoilomigceijaaaGreatDoor.Qc

namespace Go.Proofs.YtoilomigceijaaaGreatDoor.Sr
open Go.RowKit Vm Vc Pr Rk Sm Om Go.Proofs.YtoilomigceijaaaGreatDoor.Os Qm

set_option maxHeartbeats 1000000

theorem infoR:(Tryz.prog.info? 64).map (fun i=>(i.zero,i.size,i.bytes))=some (some (.agg #[.int .i64 0,.int .i64 0]),2,16):=by kernel_rfl
theorem underR:Tryz.prog.underlying 36=some (.slice 64):=by kernel_rfl

theorem make_rowp (n:Nat)(hn:n≤1000000) :
  ∃ cs:Array Value,(∀ w,(Instr.makeSlice 36 (.int .i64 (n:Int)) (.int .i64 (n:Int))).run Tryz.prog w= .ok (.slice (some ⟨w.heap.size,0,none⟩) n n) (w.alloc (.cells cs 64)))∧∀ w:World,Rowp (w.alloc (.cells cs 64)) w.heap.size n (fun _=>0) (fun _=>0):=by
 obtain ⟨i,hi,hz0,hz1,hz2⟩:=info_parts infoR
 have e1:(n:Int).toNat=n:=by omega
 have at':∀ j,j<n*2→(madeCells #[Value.int .i64 0,.int .i64 0] (n*2))[j]?=some (.int .i64 0):=fun j hj=>by
  unfold madeCells
  have hm:j%2=0∨j%2=1:=by omega
  rcases hm with h|h<;>simp [hj,h]
 refine ⟨madeCells #[.int .i64 0,.int .i64 0] (n*2),fun w=>?_,fun w=>⟨by simp,fun i hi=>?_,fun i hi=>?_,fun i hi=>by simp [go_sem],fun i hi=>by simp [go_sem]⟩⟩
 ·have h:=run_make (P:=Tryz.prog) (w:=w) 36 64 i (.agg #[.int .i64 0,.int .i64 0]) underR hi hz0 .i64 .i64 n n (by omega) (by omega) (by rw [hz2];omega) (by omega)
  rw [e1,hz1] at h
  exact h
 ·simp [go_sem,at' (i*2) (by omega)]
 ·simp [go_sem,at' (i*2+1) (by omega)]

theorem share_op {a x t:Int}(x0:0≤x)(xt:x≤t)(tp:0<t)(ft:Fit1 t){N D er:Int}(R:Rat1 (a*x) t N D er) :
  ∃ N1 D1,MakeRes x t N1 D1 0∧Fit1 N1∧Fit1 D1∧OpRes a 1 N1 D1 (a*N1) (1*D1) N D er:=by
 obtain ⟨N1,D1,er1,m1⟩:=makeres_ex x t
 rcases id m1 with ⟨h,_⟩|⟨hd,r1⟩
 ·omega
 rcases r1 with ⟨rfl,low,e1,f1,f2⟩|⟨rfl,rfl,rfl,no⟩
 ·have d1:D1≠0:=by have:=low.1;omega
  refine ⟨N1,D1,m1,f1,f2,.inl ⟨⟨by omega,by simp⟩,low,?_⟩⟩
  have iff:∀ N' D':Int,N'*t=a*x*D'↔N'*(1*D1)=a*N1*D':=by
   intro N' D'
   have k:a*N1*D'*t=a*x*D'*D1:=by
    have:a*N1*D'*t=a*D'*(N1*t):=by ac_rfl
    rw [this,e1];ac_rfl
   constructor
   ·intro h
    apply Int.eq_of_mul_eq_mul_right (show t≠0 by omega)
    rw [k,← h,Int.one_mul];ac_rfl
   ·intro h
    apply Int.eq_of_mul_eq_mul_right d1
    rw [← k,← h,Int.one_mul];ac_rfl
  rcases R with ⟨he,l,e,f⟩|⟨he,hN,hD,no⟩
  ·exact .inl ⟨he,l,(iff _ _).1 e,f⟩
  ·exact .inr ⟨he,hN,hD,fun N' D' l e=>no N' D' l ((iff _ _).2 e)⟩
 ·exfalso
  obtain ⟨N',D',l,e⟩:=low_ex x hd
  have dv:D' ∣ t:=cop_dvd (b:=N') (by rw [Int.gcd_comm];exact l.2) ⟨x,by rw [e,Int.mul_comm]⟩
  have d0:=l.1
  have d1:=Int.le_of_dvd tp dv
  have n0:0≤N':=by
   by_cases c:0≤N'
   ·exact c
   ·have h1:N'*t≤ -1*t:=Int.mul_le_mul_of_nonneg_right (by omega) (by omega)
    have h2:0≤x*D':=Int.mul_nonneg x0 (by omega)
    omega
  have n1:N'≤D':=by
   by_cases c:N'≤D'
   ·exact c
   ·have h1:(D'+1)*t≤N'*t:=Int.mul_le_mul_of_nonneg_right (by omega) (by omega)
    have h2:x*D'≤t*D':=Int.mul_le_mul_of_nonneg_right xt (by omega)
    rw [Int.add_mul,Int.mul_comm D' t] at h1
    omega
  unfold Fit1 at ft
  exact no N' D' l e ⟨by unfold Fit1;omega,by unfold Fit1;omega⟩

def ExactRes (w:World)(n:Nat)(N D:Nat→Int)(e:Ending)(w':World):Prop :=
 ∃ g:Nat,e= .returned (.tuple #[.slice (some ⟨g,0,none⟩) n n,.int .i64 0])∧Rowp w' g n N D∧w.heap.size≤g∧Below w.heap.size w w'

set_option maxRecDepth 100000 in
theorem exact_go (A:Option Addr)(n cap:Nat)(zs:List Int)(a:Int)(N D:Nat→Int)(w:World)(hn:zs.length=n)(n0:0<n)(n1:n≤4096)(fa:Fit1 a)(hf:∀ z ∈ zs,Fit1 z)(hr:Rd w w.heap.size A zs)(hp:∀ z ∈ zs,0≤z)(hs:0<zs.sum)(fs:Fit1 zs.sum)
  (R:∀ i,i<n→Rat1 (a*wt zs i) zs.sum (N i) (D i) 0) :
  Calls Tryz.prog 22 #[.int .i64 a,.slice A n cap] w (ExactRes w n N D):=by
 have ct:=fun w h=>together_any A n cap zs zs.sum 0 w hn (by omega) hf h (.inr (.inr ⟨by omega,hp,.inr (.inr ⟨hs,fs,rfl,rfl⟩)⟩))
 obtain ⟨b,off,rfl,hb,hcell⟩:=hr.resolve_left (by intro e;rw [e] at hn;simp at hn;omega)
 have M:MayBe (wt zs) n:=by rw [← hn];exact may_list hp hs
 have te:tot (wt zs) n=zs.sum:=by rw [← hn];exact sm_list zs
 obtain ⟨t,ht⟩:∃ t,t=zs.sum:=⟨_,rfl⟩
 rw [← ht] at ct te hs fs R
 obtain ⟨x,hx⟩:∃ x,x=wt zs:=⟨_,rfl⟩
 have hcell2:∀ i,i<n→w.cell? ⟨b,off+i,none⟩=some (.int .i64 (x i)):=fun i hi=>by rw [hx];exact hcell i (by omega)
 have fx:∀ i,i<n→Fit1 (x i):=fun i hi=>by rw [hx];exact hf _ (getD_mem (by omega))
 rw [← hx] at M te R
 have CM:Hid (∀ i,i<n→∃ N1 D1,(∀ W,Calls Tryz.prog 42 #[.int .i64 (x i),.int .i64 t] W fun e w'=>e= .returned (.tuple #[.agg #[.int .i64 N1,.int .i64 D1],.int .i64 0])∧Below W.heap.size W w')∧
   (∀ W,Calls Tryz.prog 43 #[.agg #[.int .i64 a,.int .i64 1],.agg #[.int .i64 N1,.int .i64 D1]] W fun e w'=>e= .returned (.tuple #[.agg #[.int .i64 (N i),.int .i64 (D i)],.int .i64 0])∧Below W.heap.size W w')) :=
  Lib.hid (fun i hi=>by
   obtain ⟨N1,D1,m1,f1,f2,o1⟩:=share_op (a:=a) (M.1 i hi) (by have:=w_le M hi;rw [te] at this;exact this) hs fs (R i hi)
   exact ⟨N1,D1,fun W=>Qc.Make_any (x i) t N1 D1 0 W (fx i hi) fs m1,fun W=>Qc.Mul_op a 1 N1 D1 (N i) (D i) 0 W fa (by unfold Fit1;omega) f1 f2 o1⟩)
 have HX:=Lib.hid hcell2
 have ct0:=ct w hr
 obtain ⟨cs,hmk,hrow⟩:=make_rowp n (by omega)
 have HR:=Lib.hid hrow
 clear ct hcell hcell2 M te fx hr hp hf hn ht hx hs fs hrow R fa
 go_enter Tryz.func22,Tryz.ntmps22
 go_wp2_with fail
 refine ct0.mono ?_
 rintro e w1 ⟨rfl,hb1⟩
 have R1:=HR.out w1
 have B1:=balloc hb1 (.cells cs 64)
 have SZ:=hb1.size
 clear ct0
 go_wp2_with fail
 generalize w1.alloc (.cells cs 64)=W2 at R1 B1 ⊢
 generalize w1.heap.size=G at R1 SZ ⊢
 clear hmk hb1
 go_loopw [26] (fun Y wr=>∃ k:Nat,k≤n∧Y= .int .i64 k∧Below w.heap.size w wr∧Rowp wr G n (fun i=>if i<k then N i else 0) (fun i=>if i<k then D i else 0)) (fun Y _=>n - (intOf Y).toNat)
 case atStart=>exact ⟨0,by omega,rfl,B1,R1.congr (fun i _=>by simp) (fun i _=>by simp)⟩
 case round =>
  clear R1 B1
  obtain ⟨k,hk,rfl,B1,R1⟩:=hrel
  by_cases hlt:k<n
  ·have hc:=(B1.cell (p:=⟨b,off+k,none⟩) hb).trans (HX.out k hlt)
   obtain ⟨N1,D1,c1,c2⟩:=CM.out k hlt
   generalize x k=xk at hc c1
   go_wp2_with fail
   refine (c1 _).mono ?_
   rintro e w2 ⟨rfl,hb2⟩
   replace B1:=bthen B1 hb2
   replace R1:=R1.kept hb2
   clear hb2 hc c1
   go_wp2_with fail
   refine (c2 _).mono ?_
   rintro e w3 ⟨rfl,hb2⟩
   have A3:Below w2.heap.size w2 (w2.alloc (.cells #[.int .i64 N1,.int .i64 D1] 64)):=balloc (Below.refl _ _) _
   replace B1:=bthen (balloc B1 _) hb2
   replace R1:=(R1.kept A3).kept hb2
   clear hb2 A3 c2
   have X:=(R1.set hlt (N k) (D k)).congr (f':=fun i=>if i<k+1 then N i else 0) (d':=fun i=>if i<k+1 then D i else 0) (fun i _=>by
    by_cases e1:i=k
    ·subst e1;rw [if_pos rfl,if_pos (by omega)]
    ·by_cases e2:i<k
     ·rw [if_neg e1,if_pos e2,if_pos (by omega)]
     ·rw [if_neg e1,if_neg e2,if_neg (by omega)]) (fun i _=>by
    by_cases e1:i=k
    ·subst e1;rw [if_pos rfl,if_pos (by omega)]
    ·by_cases e2:i<k
     ·rw [if_neg e1,if_pos e2,if_pos (by omega)]
     ·rw [if_neg e1,if_neg e2,if_neg (by omega)])
   have B2:=bset (bset B1 SZ (k*2) (.int .i64 (N k))) SZ (k*2+1) (.int .i64 (D k))
   have p0:=R1.c0 k hlt
   have p1:=R1.c1 k hlt
   have z0:=R1.z0 k hlt
   have z1:=R1.z1 k hlt
   generalize (if k<k then N k else 0)=u0 at p0
   generalize (if k<k then D k else 0)=u1 at p1
   generalize N k=Nk at X B2 ⊢
   generalize D k=Dk at X B2 ⊢
   have pp:(0:Int)≤(k:Int):=by omega
   have bp:(k:Int)<(n:Int):=by omega
   clear R1 B1
   go_wp2
   go_roundw
   case rel=>exact ⟨k+1,by omega,by go_num,B2,X⟩
   case measure=>simp [intOf]<;>omega
  ·obtain rfl:k=n:=by omega
   have Y:ExactRes w k N D (.returned (.tuple #[.slice (some ⟨G,0,none⟩) k k,.int .i64 0])) _:=⟨G,rfl,R1.congr (fun i hi=>by simp only [hi,if_true]) (fun i hi=>by simp only [hi,if_true]),SZ,B1⟩
   have HY:=Lib.hid Y
   clear Y R1 B1
   go_wp2
   exact bodyPost_ret (v:=.tuple #[.slice (some ⟨G,0,none⟩) k k,.int .i64 0]) (by simp [results,Tryz.results22,go_sem]) rfl HY.out

set_option maxRecDepth 100000 in
theorem exact_over (A:Option Addr)(n cap:Nat)(zs:List Int)(a:Int)(N D:Nat→Int)(k0:Nat)(hk0:k0<n)(w:World)(hn:zs.length=n)(n0:0<n)(n1:n≤4096)(fa:Fit1 a)(hf:∀ z ∈ zs,Fit1 z)(hr:Rd w w.heap.size A zs)(hp:∀ z ∈ zs,0≤z)(hs:0<zs.sum)(fs:Fit1 zs.sum)
  (R:∀ i,i<k0→Rat1 (a*wt zs i) zs.sum (N i) (D i) 0) (RE:Rat1 (a*wt zs k0) zs.sum 0 0 2) :
  Calls Tryz.prog 22 #[.int .i64 a,.slice A n cap] w fun e w'=>e= .returned (.tuple #[.slice none 0 0,.int .i64 2])∧Below w.heap.size w w':=by
 have ct:=fun w h=>together_any A n cap zs zs.sum 0 w hn (by omega) hf h (.inr (.inr ⟨by omega,hp,.inr (.inr ⟨hs,fs,rfl,rfl⟩)⟩))
 obtain ⟨b,off,rfl,hb,hcell⟩:=hr.resolve_left (by intro e;rw [e] at hn;simp at hn;omega)
 have M:MayBe (wt zs) n:=by rw [← hn];exact may_list hp hs
 have te:tot (wt zs) n=zs.sum:=by rw [← hn];exact sm_list zs
 obtain ⟨t,ht⟩:∃ t,t=zs.sum:=⟨_,rfl⟩
 rw [← ht] at ct te hs fs R RE
 obtain ⟨x,hx⟩:∃ x,x=wt zs:=⟨_,rfl⟩
 have hcell2:∀ i,i<n→w.cell? ⟨b,off+i,none⟩=some (.int .i64 (x i)):=fun i hi=>by rw [hx];exact hcell i (by omega)
 have fx:∀ i,i<n→Fit1 (x i):=fun i hi=>by rw [hx];exact hf _ (getD_mem (by omega))
 rw [← hx] at M te R RE
 have CM:Hid (∀ i,i<k0→∃ N1 D1,(∀ W,Calls Tryz.prog 42 #[.int .i64 (x i),.int .i64 t] W fun e w'=>e= .returned (.tuple #[.agg #[.int .i64 N1,.int .i64 D1],.int .i64 0])∧Below W.heap.size W w')∧
   (∀ W,Calls Tryz.prog 43 #[.agg #[.int .i64 a,.int .i64 1],.agg #[.int .i64 N1,.int .i64 D1]] W fun e w'=>e= .returned (.tuple #[.agg #[.int .i64 (N i),.int .i64 (D i)],.int .i64 0])∧Below W.heap.size W w')) :=
  Lib.hid (fun i hi=>by
   obtain ⟨N1,D1,m1,f1,f2,o1⟩:=share_op (a:=a) (M.1 i (by omega)) (by have:=w_le M (show i<n by omega);rw [te] at this;exact this) hs fs (R i hi)
   exact ⟨N1,D1,fun W=>Qc.Make_any (x i) t N1 D1 0 W (fx i (by omega)) fs m1,fun W=>Qc.Mul_op a 1 N1 D1 (N i) (D i) 0 W fa (by unfold Fit1;omega) f1 f2 o1⟩)
 have CE:Hid (∃ N1 D1,(∀ W,Calls Tryz.prog 42 #[.int .i64 (x k0),.int .i64 t] W fun e w'=>e= .returned (.tuple #[.agg #[.int .i64 N1,.int .i64 D1],.int .i64 0])∧Below W.heap.size W w')∧
   (∀ W,Calls Tryz.prog 43 #[.agg #[.int .i64 a,.int .i64 1],.agg #[.int .i64 N1,.int .i64 D1]] W fun e w'=>e= .returned (.tuple #[.agg #[.int .i64 0,.int .i64 0],.int .i64 2])∧Below W.heap.size W w')) :=
  Lib.hid (by
   obtain ⟨N1,D1,m1,f1,f2,o1⟩:=share_op (a:=a) (M.1 k0 hk0) (by have:=w_le M hk0;rw [te] at this;exact this) hs fs RE
   exact ⟨N1,D1,fun W=>Qc.Make_any (x k0) t N1 D1 0 W (fx k0 hk0) fs m1,fun W=>Qc.Mul_op a 1 N1 D1 0 0 2 W fa (by unfold Fit1;omega) f1 f2 o1⟩)
 have HX:=Lib.hid hcell2
 have ct0:=ct w hr
 obtain ⟨cs,hmk,hrow⟩:=make_rowp n (by omega)
 have HR:=Lib.hid hrow
 clear ct hcell hcell2 M te fx hr hp hf hn ht hx hs fs hrow R RE fa
 go_enter Tryz.func22,Tryz.ntmps22
 go_wp2_with fail
 refine ct0.mono ?_
 rintro e w1 ⟨rfl,hb1⟩
 have R1:=HR.out w1
 have B1:=balloc hb1 (.cells cs 64)
 have SZ:=hb1.size
 clear ct0
 go_wp2_with fail
 generalize w1.alloc (.cells cs 64)=W2 at R1 B1 ⊢
 generalize w1.heap.size=G at R1 SZ ⊢
 clear hmk hb1
 go_loopw [26] (fun Y wr=>∃ k:Nat,k≤k0∧Y= .int .i64 k∧Below w.heap.size w wr∧Rowp wr G n (fun i=>if i<k then N i else 0) (fun i=>if i<k then D i else 0)) (fun Y _=>n - (intOf Y).toNat)
 case atStart=>exact ⟨0,by omega,rfl,B1,R1.congr (fun i _=>by simp) (fun i _=>by simp)⟩
 case round =>
  clear R1 B1
  obtain ⟨k,hk,rfl,B1,R1⟩:=hrel
  by_cases hlt0:k<k0
  ·have hlt:k<n:=by omega
   have hc:=(B1.cell (p:=⟨b,off+k,none⟩) hb).trans (HX.out k hlt)
   obtain ⟨N1,D1,c1,c2⟩:=CM.out k hlt0
   generalize x k=xk at hc c1
   go_wp2_with fail
   refine (c1 _).mono ?_
   rintro e w2 ⟨rfl,hb2⟩
   replace B1:=bthen B1 hb2
   replace R1:=R1.kept hb2
   clear hb2 hc c1
   go_wp2_with fail
   refine (c2 _).mono ?_
   rintro e w3 ⟨rfl,hb2⟩
   have A3:Below w2.heap.size w2 (w2.alloc (.cells #[.int .i64 N1,.int .i64 D1] 64)):=balloc (Below.refl _ _) _
   replace B1:=bthen (balloc B1 _) hb2
   replace R1:=(R1.kept A3).kept hb2
   clear hb2 A3 c2
   have X:=(R1.set hlt (N k) (D k)).congr (f':=fun i=>if i<k+1 then N i else 0) (d':=fun i=>if i<k+1 then D i else 0) (fun i _=>by
    by_cases e1:i=k
    ·subst e1;rw [if_pos rfl,if_pos (by omega)]
    ·by_cases e2:i<k
     ·rw [if_neg e1,if_pos e2,if_pos (by omega)]
     ·rw [if_neg e1,if_neg e2,if_neg (by omega)]) (fun i _=>by
    by_cases e1:i=k
    ·subst e1;rw [if_pos rfl,if_pos (by omega)]
    ·by_cases e2:i<k
     ·rw [if_neg e1,if_pos e2,if_pos (by omega)]
     ·rw [if_neg e1,if_neg e2,if_neg (by omega)])
   have B2:=bset (bset B1 SZ (k*2) (.int .i64 (N k))) SZ (k*2+1) (.int .i64 (D k))
   have p0:=R1.c0 k hlt
   have p1:=R1.c1 k hlt
   have z0:=R1.z0 k hlt
   have z1:=R1.z1 k hlt
   generalize (if k<k then N k else 0)=u0 at p0
   generalize (if k<k then D k else 0)=u1 at p1
   generalize N k=Nk at X B2 ⊢
   generalize D k=Dk at X B2 ⊢
   have pp:(0:Int)≤(k:Int):=by omega
   have bp:(k:Int)<(n:Int):=by omega
   clear R1 B1
   go_wp2
   go_roundw
   case rel=>exact ⟨k+1,by omega,by go_num,B2,X⟩
   case measure=>simp [intOf]<;>omega
  ·obtain rfl:k=k0:=by omega
   have hc:=(B1.cell (p:=⟨b,off+k,none⟩) hb).trans (HX.out k hk0)
   obtain ⟨N1,D1,c1,c2⟩:=CE.out
   generalize x k=xk at hc c1
   go_wp2_with fail
   refine (c1 _).mono ?_
   rintro e w2 ⟨rfl,hb2⟩
   replace B1:=bthen B1 hb2
   replace R1:=R1.kept hb2
   clear hb2 hc c1
   go_wp2_with fail
   refine (c2 _).mono ?_
   rintro e w3 ⟨rfl,hb2⟩
   have A3:Below w2.heap.size w2 (w2.alloc (.cells #[.int .i64 N1,.int .i64 D1] 64)):=balloc (Below.refl _ _) _
   replace B1:=bthen (balloc B1 _) hb2
   replace R1:=(R1.kept A3).kept hb2
   clear hb2 A3 c2
   have B2:=bset (bset B1 SZ (k*2) (.int .i64 0)) SZ (k*2+1) (.int .i64 0)
   have p0:=R1.c0 k hk0
   have p1:=R1.c1 k hk0
   have z0:=R1.z0 k hk0
   have z1:=R1.z1 k hk0
   generalize (if k<k then N k else 0)=u0 at p0
   generalize (if k<k then D k else 0)=u1 at p1
   have pp:(0:Int)≤(k:Int):=by omega
   have bp:(k:Int)<(n:Int):=by omega
   clear R1 B1
   go_wp2
   go_ret2
   exact ⟨rfl,B2⟩

end Go.Proofs.YtoilomigceijaaaGreatDoor.Sr

namespace Go.Proofs.YtoilomigceijaaaGreatDoor.Sl
open Go.RowKit Vm Vc Pr Rk Sm Om Go.Proofs.YtoilomigceijaaaGreatDoor.Os Sr Qm

set_option maxHeartbeats 2000000

end Go.Proofs.YtoilomigceijaaaGreatDoor.Sl

