/- What Leap, Length, Check, Weekday and Add of the reference of layer 5 come to. -/
import Derived.Test.YtoilomigceijaaaGreatDoorChecked
import Derived.Test.YtoilomigceijaaaGreatDoorQrJK
import Derived.Test.YtoilomigceijaaaGreatDoorQrJP
set_option linter.unusedSimpArgs false
set_option linter.unusedVariables false
namespace Go.Proofs.YtoilomigceijaaaGreatDoor.Cr
open Go.RowKit Bx Cm

set_option maxHeartbeats 400000

def leapB (y:Int):Bool:=decide (1600≤y)&&decide (y≤9999)&&lpB y

theorem rLeap_any (y:Int)(b:Bool)(w:World)(hb:b=leapB y) :
  Calls Tryz.prog 113 #[.int .i64 y] w fun e w'=>e= .returned (.bool b)∧w=w':=by
 by_cases c1:y<1600
 ·obtain rfl:b=false:=by rw [hb];unfold leapB;simp;omega
  clear hb
  go_enter Tryz.func113,Tryz.ntmps113
  go_wp2
  go_ret
  exact ⟨rfl,rfl⟩
 by_cases c2:9999<y
 ·obtain rfl:b=false:=by rw [hb];unfold leapB;simp;omega
  clear hb
  go_enter Tryz.func113,Tryz.ntmps113
  go_wp2
  go_ret
  exact ⟨rfl,rfl⟩
 have y0:1600≤y:=by omega
 have y1:y≤9999:=by omega
 have hb':b=lpB y:=by rw [hb];unfold leapB;simp [y0,y1]
 clear hb c1 c2
 have t4:y.tmod 4=y%4:=Int.tmod_eq_emod_of_nonneg (by omega)
 have t100:y.tmod 100=y%100:=Int.tmod_eq_emod_of_nonneg (by omega)
 have t400:y.tmod 400=y%400:=Int.tmod_eq_emod_of_nonneg (by omega)
 by_cases c3:y%4=0
 ·by_cases c4:y%100=0
  ·by_cases c5:y%400=0
   ·obtain rfl:b=true:=by rw [hb'];unfold lpB;simp [c3,c4,c5]
    clear hb'
    go_enter Tryz.func113,Tryz.ntmps113
    go_wp2
    go_ret
    exact ⟨rfl,rfl⟩
   ·obtain rfl:b=false:=by rw [hb'];unfold lpB;simp [c3,c4,c5]
    have d5:(y%400==0)=false:=beq_eq_false_iff_ne.2 c5
    clear hb'
    go_enter Tryz.func113,Tryz.ntmps113
    go_wp2
    go_ret
    exact ⟨rfl,rfl⟩
  ·obtain rfl:b=true:=by rw [hb'];unfold lpB;simp [c3,c4]
   have d4:(y%100 != 0)=true:=bne_iff_ne.2 c4
   clear hb'
   go_enter Tryz.func113,Tryz.ntmps113
   go_wp2
   go_ret
   exact ⟨rfl,rfl⟩
 ·obtain rfl:b=false:=by rw [hb'];unfold lpB;simp [c3]
  have d3:(y%4 != 0)=true:=bne_iff_ne.2 c3
  clear hb'
  go_enter Tryz.func113,Tryz.ntmps113
  go_wp2
  go_ret
  exact ⟨rfl,rfl⟩

theorem leap_in {y:Int}(h0:1600≤y)(h1:y≤9999):lp y=if leapB y=true then 1 else 0:=by
 rw [lp_of];unfold leapB;simp [h0,h1]

theorem rLength_any (y m v er:Int)(w:World)(R:LenRes y m v er) :
  Calls Tryz.prog 66 #[.int .i64 y,.int .i64 m] w fun e w'=>e= .returned (.tuple #[.int .i64 v,.int .i64 er])∧w=w':=by
 rcases R with ⟨⟨h0,h1,h2,h3⟩,hv,rfl⟩|⟨h,rfl,rfl⟩
 ·have hm:m=2∨m=1∨m=3∨m=4∨m=5∨m=6∨m=7∨m=8∨m=9∨m=10∨m=11∨m=12:=by omega
  clear h2 h3
  obtain ⟨b,hb⟩:∃ b,b=leapB y:=⟨_,rfl⟩
  have cl:=fun w=>rLeap_any y b w hb
  have hl:=leap_in h0 h1
  rw [← hb] at hl
  rcases hm with rfl|hm
  ·cases b
   ·obtain rfl:v=28:=by rw [hv];simp [mlen,hl]
    clear hb hl hv
    go_enter Tryz.func66,Tryz.ntmps66
    go_wp2_with fail
    refine (cl _).mono ?_
    rintro e w' ⟨rfl,rfl⟩
    go_wp2
    go_ret2
    exact ⟨rfl,rfl⟩
   ·obtain rfl:v=29:=by rw [hv];simp [mlen,hl]
    clear hb hl hv
    go_enter Tryz.func66,Tryz.ntmps66
    go_wp2_with fail
    refine (cl _).mono ?_
    rintro e w' ⟨rfl,rfl⟩
    go_wp2
    go_ret2
    exact ⟨rfl,rfl⟩
  ·clear cl hl hb
   rcases hm with rfl|rfl|rfl|rfl|rfl|rfl|rfl|rfl|rfl|rfl|rfl
   all_goals
    simp [mlen] at hv
    subst hv
    go_enter Tryz.func66,Tryz.ntmps66
    go_wp2
    go_ret2
    exact ⟨rfl,rfl⟩
 ·have h':y<1600∨(1600≤y∧9999<y)∨(1600≤y∧y≤9999∧m<1)∨(1600≤y∧y≤9999∧1≤m∧12<m):=by unfold MonthOk at h;omega
  clear h
  rcases h' with h|⟨h,h4⟩|⟨h,h4,h5⟩|⟨h,h4,h5,h6⟩
  all_goals
   go_enter Tryz.func66,Tryz.ntmps66
   go_wp2
   go_ret2
   exact ⟨rfl,rfl⟩

theorem rCheck_any (y m d er:Int)(w:World)(R:ChkRes y m d er) :
  Calls Tryz.prog 147 #[.agg #[.int .i64 y,.int .i64 m,.int .i64 d]] w fun e w'=>e= .returned (.int .i64 er)∧Below w.heap.size w w':=by
 have O:(∃ v:Int,LenRes y m v 0∧1≤d∧d≤v∧er=0)∨(∃ v:Int,LenRes y m v 0∧d<1∧er=4)∨(∃ v:Int,LenRes y m v 0∧1≤d∧v<d∧er=4)∨(LenRes y m 0 4∧er=4):=by
  by_cases h:MonthOk y m
  ·rcases R with ⟨⟨_,h1,h2⟩,rfl⟩|⟨h2,rfl⟩
   ·exact .inl ⟨_,.inl ⟨h,rfl,rfl⟩,h1,h2,rfl⟩
   ·by_cases h1:d<1
    ·exact .inr (.inl ⟨_,.inl ⟨h,rfl,rfl⟩,h1,rfl⟩)
    ·exact .inr (.inr (.inl ⟨mlen y m,.inl ⟨h,rfl,rfl⟩,by omega,by unfold DateOk at h2;by_cases k:mlen y m<d;exact k;exact absurd ⟨h,by omega,by omega⟩ h2,rfl⟩))
  ·rcases R with ⟨⟨h2,_⟩,_⟩|⟨_,rfl⟩
   ·exact absurd h2 h
   ·exact .inr (.inr (.inr ⟨.inr ⟨h,rfl,rfl⟩,rfl⟩))
 clear R
 rcases O with ⟨v,r,d0,d1,rfl⟩|⟨v,r,d0,rfl⟩|⟨v,r,d0,d1,rfl⟩|⟨r,rfl⟩
 all_goals
  have cl:=fun w=>rLength_any y m _ _ w r
  clear r
  go_enter Tryz.func147,Tryz.ntmps147
  go_wp2_with fail
  refine (cl _).mono ?_
  rintro e w' ⟨rfl,rfl⟩
  go_wp2
  go_ret
  exact ⟨rfl,balloc (Below.refl _ w) _⟩

theorem rWeekday_any (n v er:Int)(w:World)(R:WkdRes n v er) :
  Calls Tryz.prog 112 #[.int .i64 n] w fun e w'=>e= .returned (.tuple #[.int .i64 v,.int .i64 er])∧Below w.heap.size w w':=by
 rcases R with ⟨h0,h1,hv,rfl⟩|⟨h,rfl,rfl⟩
 ·have t7:n.tmod 7=n%7:=Int.tmod_eq_emod_of_nonneg h0
  have hr:n%7=0∨n%7=1∨n%7=2∨n%7=3∨n%7=4∨n%7=5∨n%7=6:=by omega
  rcases hr with k|k|k|k|k|k|k
  all_goals
   have e:v=_:=hv.trans (show wday n=(n%7+5)%7+1 by unfold wday;omega)
   rw [k] at e
   simp at e
   subst e
   clear hv
   go_enter Tryz.func112,Tryz.ntmps112
   go_wp2
   go_ret2
   exact ⟨rfl,balloc (Below.refl _ w) _⟩
 ·have h':n<0∨(0≤n∧3068036<n):=by omega
  clear h
  rcases h' with h|⟨h,h4⟩
  all_goals
   go_enter Tryz.func112,Tryz.ntmps112
   go_wp2
   go_ret2
   exact ⟨rfl,Below.refl _ w⟩

end Go.Proofs.YtoilomigceijaaaGreatDoor.Cr

