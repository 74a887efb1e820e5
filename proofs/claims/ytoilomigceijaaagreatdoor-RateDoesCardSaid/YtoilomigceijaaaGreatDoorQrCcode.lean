/- What the functions of package civil come to: a table of days ahead of months, years by a formula. -/
import Derived.Test.YtoilomigceijaaaGreatDoorChecked
import Derived.Test.YtoilomigceijaaaGreatDoorQrJK
import Derived.Test.YtoilomigceijaaaGreatDoorQrCref
set_option linter.unusedSimpArgs false
set_option linter.unusedVariables false
namespace Go.Proofs.YtoilomigceijaaaGreatDoor.Cp
open Go.RowKit Bx Cm
open Cr (leapB leap_in)

set_option maxHeartbeats 1000000

theorem quiet_same {P:Program}{f:FuncId}{args:Array Value}{w:World}{n:Nat}{v:Value}
  (h:Calls P f args (w.drewN n) fun e w'=>e= .returned v∧w.drewN n=w') :
  Calls P f args (w.drewN n) fun e w'=>e= .returned v∧∃ m,w'=w.drewN m :=
 h.mono fun _ _ ⟨h1,h2⟩=>⟨h1,n,h2.symm⟩

structure Tab (W:World):Prop where
 lt:5 < W.heap.size
 c0:W.cell? ⟨5,0,none⟩=some (.int .i64 0)
 c1:W.cell? ⟨5,1,none⟩=some (.int .i64 31)
 c2:W.cell? ⟨5,2,none⟩=some (.int .i64 59)
 c3:W.cell? ⟨5,3,none⟩=some (.int .i64 90)
 c4:W.cell? ⟨5,4,none⟩=some (.int .i64 120)
 c5:W.cell? ⟨5,5,none⟩=some (.int .i64 151)
 c6:W.cell? ⟨5,6,none⟩=some (.int .i64 181)
 c7:W.cell? ⟨5,7,none⟩=some (.int .i64 212)
 c8:W.cell? ⟨5,8,none⟩=some (.int .i64 243)
 c9:W.cell? ⟨5,9,none⟩=some (.int .i64 273)
 c10:W.cell? ⟨5,10,none⟩=some (.int .i64 304)
 c11:W.cell? ⟨5,11,none⟩=some (.int .i64 334)
 c12:W.cell? ⟨5,12,none⟩=some (.int .i64 365)
theorem Tab.kept {W w1:World}(p:Tab W)(hb:Below W.heap.size W w1):Tab w1 :=
 have k:∀ n,w1.cell? ⟨5,n,none⟩=W.cell? ⟨5,n,none⟩:=fun n=>hb.cell (p:=⟨5,n,none⟩) p.lt
 ⟨Nat.lt_of_lt_of_le p.lt hb.size,(k 0).trans p.c0,(k 1).trans p.c1,(k 2).trans p.c2,(k 3).trans p.c3,(k 4).trans p.c4,(k 5).trans p.c5,(k 6).trans p.c6,(k 7).trans p.c7,(k 8).trans p.c8,(k 9).trans p.c9,
  (k 10).trans p.c10,(k 11).trans p.c11,(k 12).trans p.c12⟩
theorem Tab.alloc {W:World}(p:Tab W)(o:Obj):Tab (W.alloc o):=p.kept ((Below.refl _ _).alloc (Nat.le_refl _) o)
theorem Tab.drewN {W:World}(p:Tab W)(n:Nat):Tab (W.drewN n):=⟨p.lt,p.c0,p.c1,p.c2,p.c3,p.c4,p.c5,p.c6,p.c7,p.c8,p.c9,p.c10,p.c11,p.c12⟩
theorem Tab.drew {W:World}(p:Tab W):Tab W.drew:=⟨p.lt,p.c0,p.c1,p.c2,p.c3,p.c4,p.c5,p.c6,p.c7,p.c8,p.c9,p.c10,p.c11,p.c12⟩
theorem Tab.at {w0 W:World}(p:Tab w0)(hb:Below w0.heap.size w0 W):Tab W:=p.kept hb

theorem isYear_any (y:Int)(b:Bool)(w:World)(hb:b=(decide (1600≤y)&&decide (y≤9999))) :
  Calls Tryz.prog 186 #[.int .i64 y] w fun e w'=>e= .returned (.bool b)∧w=w':=by
 by_cases c1:1600≤y
 ·by_cases c2:y≤9999
  ·obtain rfl:b=true:=by rw [hb];simp [c1,c2]
   clear hb
   go_enter Tryz.func186,Tryz.ntmps186
   go_wp2
   go_ret
   exact ⟨rfl,rfl⟩
  ·obtain rfl:b=false:=by rw [hb];simp [c2]
   clear hb
   go_enter Tryz.func186,Tryz.ntmps186
   go_wp2
   go_ret
   exact ⟨rfl,rfl⟩
 ·obtain rfl:b=false:=by rw [hb];simp [c1]
  clear hb
  go_enter Tryz.func186,Tryz.ntmps186
  go_wp2
  go_ret
  exact ⟨rfl,rfl⟩

theorem isDay_any (n:Int)(b:Bool)(w:World)(hb:b=(decide (0≤n)&&decide (n≤3068036))) :
  Calls Tryz.prog 177 #[.int .i64 n] w fun e w'=>e= .returned (.bool b)∧w=w':=by
 by_cases c1:0≤n
 ·by_cases c2:n≤3068036
  ·obtain rfl:b=true:=by rw [hb];simp [c1,c2]
   have d:decide (n<3068037)=true:=decide_eq_true (by omega)
   clear hb
   go_enter Tryz.func177,Tryz.ntmps177
   go_wp2
   go_ret
   exact ⟨rfl,rfl⟩
  ·obtain rfl:b=false:=by rw [hb];simp [c2]
   have d:decide (n<3068037)=false:=decide_eq_false (by omega)
   clear hb
   go_enter Tryz.func177,Tryz.ntmps177
   go_wp2
   go_ret
   exact ⟨rfl,rfl⟩
 ·obtain rfl:b=false:=by rw [hb];simp [c1]
  clear hb
  go_enter Tryz.func177,Tryz.ntmps177
  go_wp2
  go_ret
  exact ⟨rfl,rfl⟩

theorem Leap_any (y:Int)(b:Bool)(w:World)(hb:b=leapB y) :
  Calls Tryz.prog 189 #[.int .i64 y] w fun e w'=>e= .returned (.bool b)∧w=w':=by
 by_cases c:1600≤y∧y≤9999
 ·obtain ⟨y0,y1⟩:=c
  have cy:=fun w=>isYear_any y true w (by simp [y0,y1])
  have hb':b=lpB y:=by rw [hb];unfold leapB;simp [y0,y1]
  clear hb
  have t4:y.tmod 4=y%4:=Int.tmod_eq_emod_of_nonneg (by omega)
  have t100:y.tmod 100=y%100:=Int.tmod_eq_emod_of_nonneg (by omega)
  have t400:y.tmod 400=y%400:=Int.tmod_eq_emod_of_nonneg (by omega)
  by_cases c3:y%4=0
  ·by_cases c4:y%100=0
   ·by_cases c5:y%400=0
    ·obtain rfl:b=true:=by rw [hb'];unfold lpB;simp [c3,c4,c5]
     clear hb'
     go_enter Tryz.func189,Tryz.ntmps189
     go_wp2_with fail
     refine (cy _).mono ?_
     rintro e w' ⟨rfl,rfl⟩
     go_wp2
     go_ret
     exact ⟨rfl,rfl⟩
    ·obtain rfl:b=false:=by rw [hb'];unfold lpB;simp [c3,c4,c5]
     have d5:(y%400==0)=false:=beq_eq_false_iff_ne.2 c5
     clear hb'
     go_enter Tryz.func189,Tryz.ntmps189
     go_wp2_with fail
     refine (cy _).mono ?_
     rintro e w' ⟨rfl,rfl⟩
     go_wp2
     go_ret
     exact ⟨rfl,rfl⟩
   ·obtain rfl:b=true:=by rw [hb'];unfold lpB;simp [c3,c4]
    have d4:(y%100 != 0)=true:=bne_iff_ne.2 c4
    clear hb'
    go_enter Tryz.func189,Tryz.ntmps189
    go_wp2_with fail
    refine (cy _).mono ?_
    rintro e w' ⟨rfl,rfl⟩
    go_wp2
    go_ret
    exact ⟨rfl,rfl⟩
  ·obtain rfl:b=false:=by rw [hb'];unfold lpB;simp [c3]
   have d3:(y%4==0)=false:=beq_eq_false_iff_ne.2 c3
   clear hb'
   go_enter Tryz.func189,Tryz.ntmps189
   go_wp2_with fail
   refine (cy _).mono ?_
   rintro e w' ⟨rfl,rfl⟩
   go_wp2
   go_ret
   exact ⟨rfl,rfl⟩
 ·have e1:(decide (1600≤y)&&decide (y≤9999))=false:=by simp;omega
  obtain rfl:b=false:=by rw [hb];unfold leapB;rw [e1];simp
  have cy:=fun w=>isYear_any y false w e1.symm
  clear hb c e1
  go_enter Tryz.func189,Tryz.ntmps189
  go_wp2_with fail
  refine (cy _).mono ?_
  rintro e w' ⟨rfl,rfl⟩
  go_wp2
  go_ret
  exact ⟨rfl,rfl⟩

theorem daysBefore_any (y m v:Int)(w:World)(h0:1600≤y)(h1:y≤9999)(m0:1≤m)(m1:m≤13)(hv:v=cum y m)(T:Tab w) :
  Calls Tryz.prog 181 #[.int .i64 y,.int .i64 m] w fun e w'=>e= .returned (.int .i64 v)∧w=w':=by
 obtain ⟨b,hb⟩:∃ b,b=leapB y:=⟨_,rfl⟩
 have cl:=fun w=>Leap_any y b w hb
 have hl:=leap_in h0 h1
 rw [← hb] at hl
 have hm:(m=1∨m=2)∨(m=3∨m=4∨m=5∨m=6∨m=7∨m=8∨m=9∨m=10∨m=11∨m=12∨m=13):=by omega
 clear m0 m1
 obtain ⟨_,c0,c1,c2,c3,c4,c5,c6,c7,c8,c9,c10,c11,c12⟩:=T
 rcases hm with hm|hm
 ·clear cl hb hl
  rcases hm with rfl|rfl
  all_goals
   simp [cum] at hv
   subst hv
   go_enter Tryz.func181,Tryz.ntmps181
   go_wp2
   go_ret
   exact ⟨rfl,rfl⟩
 ·cases b
  all_goals
   clear hb
   simp at hl
   rcases hm with rfl|rfl|rfl|rfl|rfl|rfl|rfl|rfl|rfl|rfl|rfl
   all_goals
    simp [cum,hl] at hv
    subst hv
    clear hl
    go_enter Tryz.func181,Tryz.ntmps181
    go_wp2_with fail
    refine (cl _).mono ?_
    rintro e w' ⟨rfl,rfl⟩
    go_wp2
    go_ret
    exact ⟨rfl,rfl⟩

end Go.Proofs.YtoilomigceijaaaGreatDoor.Cp

