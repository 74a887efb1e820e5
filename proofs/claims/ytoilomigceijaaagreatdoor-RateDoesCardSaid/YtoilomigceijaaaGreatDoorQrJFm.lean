/- Texts that are joined: Frm, Frq. -/
import Derived.Test.YtoilomigceijaaaGreatDoorQrJP
import Derived.Test.YtoilomigceijaaaGreatDoorQrJD
set_option linter.unusedSimpArgs false
set_option linter.unusedVariables false
namespace Go.Proofs.YtoilomigceijaaaGreatDoor.Am
open Cm Em

section
variable {c:CalZ}
end

end Go.Proofs.YtoilomigceijaaaGreatDoor.Am

namespace Go.Proofs.YtoilomigceijaaaGreatDoor.Am
open Cm Em Rk

def MStand (c:CalZ)(L y0 i0 y n:Int)(N:Nat)(z i:Int)(k:Nat):Prop :=
 (z=y0∧1≤i∧i<i0∧k=0)∨(StandU c L y0 i0 y n N z i k∧(z=y0→i0≤i))∨(z=y∧n<i∧k=N+1)
section
variable {c:CalZ} {L y0 i0 y n z i a b:Int} {N k:Nat}
theorem mstand_start (h:UWay c L y0 i0 y n N):MStand c L y0 i0 y n N y0 1 0:=by
 have i1:=h.u.2.2.2.1
 by_cases e:1<i0
 ·exact .inl ⟨rfl,by omega,e,rfl⟩
 ·obtain rfl:i0=1:=by omega
  exact .inr (.inl ⟨stand_start h,fun _=>Int.le_refl _⟩)
theorem mstand_step (h:UWay c L y0 i0 y n N)(Da:DayA c a L L y0 i0 0)(Db:DayA c b L L y n 0)(z0:y0≤z)(z1:z≤y)(j0:1≤i)(j1:i≤ucount c z L)(s:MStand c L y0 i0 y n N z i k) :
  (uend c z L (i - 1)+1≤b∧a≤uend c z L i∧k≤N∧itu c L (y0,i0) k=(z,i)∧MStand c L y0 i0 y n N z (i+1) (k+1))∨(¬ (uend c z L (i - 1)+1≤b∧a≤uend c z L i)∧MStand c L y0 i0 y n N z (i+1) k):=by
 obtain ⟨ua,a0,a1,_,_⟩:=daya_to Da
 obtain ⟨ub,b0,b1,_,_⟩:=daya_to Db
 have ya:=unit_year ua a0 a1
 have yb:=unit_year ub b0 b1
 have ok:=h.u.1.1
 have lv:=h.u.2.1
 have sz:=(h.many z0 z1).2.2.2
 have tz:=served_told h.u.1 sz
 have i0b:=ua.2.2.2.2
 have nb:=ub.2.2.2.2
 have i0a:=ua.2.2.2.1
 have na:=ub.2.2.2.1
 rcases s with ⟨rfl,e1,e2,rfl⟩|⟨s,e⟩|⟨rfl,e1,rfl⟩
 ·refine .inr ⟨fun q=>?_,?_⟩
  ·have:=uend_mono (y:=z) ok (by omega) (by omega) lv (a:=i) (b:=i0 - 1) (by omega) (by omega) (by omega)
   omega
  ·by_cases q:i+1<i0
   ·exact .inl ⟨rfl,by omega,q,rfl⟩
   ·obtain rfl:i0=i+1:=by omega
    exact .inr (.inl ⟨stand_start h,fun _=>Int.le_refl _⟩)
 ·by_cases le:i≤manyU c L y n z
  ·obtain ⟨q1,q2,q3⟩:=stand_step h s le
   have zz:=uend_zero (y:=z) (L:=L) ok (by omega) (by omega) lv
   have zl:=uend_last (y:=z) (L:=L) ok (by omega) (by omega) lv
   have pz:=pend_zero c z
   have pl:=pend_last ok (y:=z) (by omega) (by omega)
   refine .inl ⟨?_,?_,q1,q2,.inr (.inl ⟨q3,fun x=>by have:=e x;omega⟩)⟩
   ·by_cases q:z<y
    ·have m:=uend_mono (y:=z) ok (by omega) (by omega) lv (a:=i - 1) (b:=ucount c z L) (by omega) (by omega) (by omega)
     have t:=yend_le (a:=z) (b:=y - 1) ok (by omega) (by omega) (by omega)
     omega
    ·obtain rfl:z=y:=by omega
     unfold manyU at le
     rw [if_neg (by omega)] at le
     have m:=uend_mono (y:=z) ok (by omega) (by omega) lv (a:=i - 1) (b:=n - 1) (by omega) (by omega) (by omega)
     omega
   ·by_cases q:y0<z
    ·have m:=uend_mono (y:=z) ok (by omega) (by omega) lv (a:=0) (b:=i) (by omega) (by omega) (by omega)
     have t:=yend_le (a:=y0) (b:=z - 1) ok (by omega) (by omega) (by omega)
     omega
    ·obtain rfl:z=y0:=by omega
     have q4:=e rfl
     have m:=uend_mono (y:=z) ok (by omega) (by omega) lv (a:=i0) (b:=i) (by omega) (by omega) (by omega)
     omega
  ·obtain ⟨_,_,_,O⟩:=s
   rcases O with ⟨q,_⟩|⟨q,q2,_⟩|⟨rfl,rfl,q⟩
   ·exact absurd q le
   ·unfold manyU at q
    rw [if_pos q2] at q
    omega
   ·refine .inr ⟨fun x=>?_,.inr (.inr ⟨rfl,by omega,q⟩)⟩
    rw [show n+1 - 1=n by omega] at x
    omega
 ·refine .inr ⟨fun x=>?_,.inr (.inr ⟨rfl,by omega,rfl⟩)⟩
  have m:=uend_mono (y:=z) ok (by omega) (by omega) lv (a:=n) (b:=i - 1) (by omega) (by omega) (by omega)
  omega
theorem mstand_out (h:UWay c L y0 i0 y n N)(z0:y0≤z)(z1:z≤y)(s:MStand c L y0 i0 y n N z (ucount c z L+1) k):(z<y∧MStand c L y0 i0 y n N (z+1) 1 k)∨(z=y∧k=N+1):=by
 have m:=h.many z0 z1
 rcases s with ⟨rfl,_,e,_⟩|⟨s,_⟩|⟨e,_,e2⟩
 ·have:=h.u.2.2.2.2;omega
 ·rcases stand_out h s (by omega) with ⟨q,t⟩|q
  ·exact .inl ⟨q,.inr (.inl ⟨t,fun x=>by omega⟩)⟩
  ·exact .inr q
 ·exact .inr ⟨e,e2⟩
end

end Go.Proofs.YtoilomigceijaaaGreatDoor.Am

