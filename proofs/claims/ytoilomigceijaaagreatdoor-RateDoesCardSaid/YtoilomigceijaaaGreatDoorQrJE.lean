/- Texts that are joined: Ecode, Ecode2. -/
import Derived.Test.YtoilomigceijaaaGreatDoorQrCcode2
import Derived.Test.YtoilomigceijaaaGreatDoorQrJP
set_option linter.unusedSimpArgs false
set_option linter.unusedVariables false
namespace Go.Proofs.YtoilomigceijaaaGreatDoor.Ep
open Go.RowKit Bx Cm Cp Em

set_option maxHeartbeats 1000000

end Go.Proofs.YtoilomigceijaaaGreatDoor.Ep

namespace Go.Proofs.YtoilomigceijaaaGreatDoor.Ep
open Go.RowKit Bx Cm Cp Em

set_option maxHeartbeats 1000000

theorem endOf_any (y m wd v b er:Int)(w:World)(R:EndRes y m wd v b er)(T:Tab w) :
  Calls Tryz.prog 185 #[.int .i64 y,.int .i64 m,.int .i64 wd] w fun e w'=>e= .returned (.tuple #[.int .i64 v,.int .i64 b,.int .i64 er])∧Below w.heap.size w w':=by
 rcases R with ⟨ok,h0,h1,hv,hb,rfl⟩|⟨ok,h,rfl,rfl,rfl⟩|⟨no,rfl,rfl,rfl⟩
 ·obtain ⟨l,hl⟩:∃ l,l=mlen y m:=⟨_,rfl⟩
  have cl:=fun w T=>Length_any y m l 0 w (.inl ⟨ok,hl,rfl⟩) T
  have eo:=end_ok ok
  rw [← hl] at eo
  have cd:=fun w T=>Day_any y m l v 0 w (.inl ⟨eo,by rw [hv,hl];rfl,rfl⟩) T
  have er:=end_range ok
  rw [← hv] at er
  obtain ⟨u,hu⟩:∃ u,u=wday v:=⟨_,rfl⟩
  have cw:=fun w=>Weekday_any v u 0 w (.inl ⟨by omega,er.2,hu,rfl⟩)
  have ub:=wday_bd v
  rw [← hu] at ub
  obtain ⟨u0,u1⟩:=ub
  have t7:(u - wd+7).tmod 7=(u - wd+7)%7:=Int.tmod_eq_emod_of_nonneg (by omega)
  have e7:(u - wd+7)%7=b:=by rw [hb,hu,hv];unfold mback;omega
  clear hb hu hv hl eo er ok
  go_enter Tryz.func185,Tryz.ntmps185
  go_wp2_with fail
  refine (cl _ T).mono ?_
  rintro e w' ⟨rfl,rfl⟩
  go_wp2_with fail
  refine (cd _ T).mono ?_
  rintro e w1 ⟨rfl,hb⟩
  go_wp2_with fail
  refine (cw _).mono ?_
  rintro e w' ⟨rfl,rfl⟩
  go_wp2
  go_ret3
  exact ⟨rfl,hb⟩
 ·have cl:=fun w T=>Length_any y m (mlen y m) 0 w (.inl ⟨ok,rfl,rfl⟩) T
  have h':wd<1∨(1≤wd∧7<wd):=by omega
  clear h ok
  generalize mlen y m=l at cl
  rcases h' with h|⟨h,h2⟩
  all_goals
   go_enter Tryz.func185,Tryz.ntmps185
   go_wp2_with fail
   refine (cl _ T).mono ?_
   rintro e w' ⟨rfl,rfl⟩
   go_wp2
   go_ret3
   exact ⟨rfl,Below.refl _ _⟩
 ·have cl:=fun w T=>Length_any y m 0 4 w (.inr ⟨no,rfl,rfl⟩) T
  clear no
  go_enter Tryz.func185,Tryz.ntmps185
  go_wp2_with fail
  refine (cl _ T).mono ?_
  rintro e w' ⟨rfl,rfl⟩
  go_wp2
  go_ret3
  exact ⟨rfl,Below.refl _ _⟩

theorem Last_any (y m wd v er:Int)(w:World)(R:LastRes y m wd v er)(T:Tab w) :
  Calls Tryz.prog 173 #[.int .i64 y,.int .i64 m,.int .i64 wd] w fun e w'=>e= .returned (.tuple #[.int .i64 v,.int .i64 er])∧Below w.heap.size w w':=by
 rcases R with ⟨ok,h0,h1,hv,rfl⟩|⟨ok,h,rfl,rfl⟩|⟨no,rfl,rfl⟩
 ·have ce:=fun w T=>endOf_any y m wd (mend y m) (mback y m wd) 0 w (.inl ⟨ok,h0,h1,rfl,rfl,rfl⟩) T
  have er:=end_range ok
  have bb:=back_bd y m wd
  subst hv
  generalize mend y m=n at *
  generalize mback y m wd=b at *
  obtain ⟨e0,e1⟩:=er
  obtain ⟨b0,b1⟩:=bb
  clear ok
  go_enter Tryz.func173,Tryz.ntmps173
  go_wp2_with fail
  refine (ce _ T).mono ?_
  rintro e w1 ⟨rfl,hb⟩
  go_wp2
  go_ret2
  exact ⟨rfl,hb⟩
 ·have ce:=fun w T=>endOf_any y m wd 0 0 1 w (.inr (.inl ⟨ok,h,rfl,rfl,rfl⟩)) T
  clear ok h
  go_enter Tryz.func173,Tryz.ntmps173
  go_wp2_with fail
  refine (ce _ T).mono ?_
  rintro e w1 ⟨rfl,hb⟩
  go_wp2
  go_ret2
  exact ⟨rfl,hb⟩
 ·have ce:=fun w T=>endOf_any y m wd 0 0 4 w (.inr (.inr ⟨no,rfl,rfl,rfl⟩)) T
  clear no
  go_enter Tryz.func173,Tryz.ntmps173
  go_wp2_with fail
  refine (ce _ T).mono ?_
  rintro e w1 ⟨rfl,hb⟩
  go_wp2
  go_ret2
  exact ⟨rfl,hb⟩

def NearV (n b v er:Int):Prop :=
 (b≤3∧v=n - b∧er=0)∨(3<b∧n - (b - 7)≤3068036∧v=n - (b - 7)∧er=0)∨(3<b∧3068036<n - (b - 7)∧v=0∧er=4)
theorem Near_any (y m wd v er:Int)(w:World)(R:NearRes y m wd v er)(T:Tab w) :
  Calls Tryz.prog 212 #[.int .i64 y,.int .i64 m,.int .i64 wd] w fun e w'=>e= .returned (.tuple #[.int .i64 v,.int .i64 er])∧Below w.heap.size w w':=by
 have O:(MonthOk y m∧1≤wd∧wd≤7∧NearV (mend y m) (mback y m wd) v er)∨(MonthOk y m∧¬ (1≤wd∧wd≤7)∧v=0∧er=1)∨(¬ MonthOk y m∧v=0∧er=4):=by
  rcases R with ⟨ok,h0,h1,h2,hv,rfl⟩|⟨ok,h0,h1,h2,rfl,rfl⟩|h|h
  ·refine .inl ⟨ok,h0,h1,?_⟩
   unfold nearv at h2 hv
   split at hv
   ·rename_i c;rw [if_pos c] at h2;exact .inr (.inl ⟨c,h2,hv,rfl⟩)
   ·rename_i c;exact .inl ⟨by omega,hv,rfl⟩
  ·refine .inl ⟨ok,h0,h1,?_⟩
   have a:=end_range ok
   have b:=back_bd y m wd
   unfold nearv at h2
   split at h2
   ·rename_i c;exact .inr (.inr ⟨c,h2,rfl,rfl⟩)
   ·omega
  ·exact .inr (.inl h)
  ·exact .inr (.inr h)
 clear R
 rcases O with ⟨ok,h0,h1,N⟩|⟨ok,h,rfl,rfl⟩|⟨no,rfl,rfl⟩
 ·have ce:=fun w T=>endOf_any y m wd (mend y m) (mback y m wd) 0 w (.inl ⟨ok,h0,h1,rfl,rfl,rfl⟩) T
  have er:=end_range ok
  have bb:=back_bd y m wd
  generalize mend y m=n at *
  generalize mback y m wd=b at *
  obtain ⟨e0,e1⟩:=er
  obtain ⟨b0,b1⟩:=bb
  clear ok
  rcases N with ⟨n1,rfl,rfl⟩|⟨n1,n2,rfl,rfl⟩|⟨n1,n2,rfl,rfl⟩
  ·have ca:=fun w=>Add_any n (-b) (n - b) 0 w (by omega) (by omega) (.inl ⟨by omega,e1,by omega,by omega,by omega,rfl⟩)
   go_enter Tryz.func212,Tryz.ntmps212
   go_wp2_with fail
   refine (ce _ T).mono ?_
   rintro e w1 ⟨rfl,hb⟩
   go_wp2_with fail
   refine (ca _).mono ?_
   rintro e w' ⟨rfl,rfl⟩
   go_wp2
   go_ret2
   exact ⟨rfl,hb⟩
  ·have ca:=fun w=>Add_any n (-(b - 7)) (n - (b - 7)) 0 w (by omega) (by omega) (.inl ⟨by omega,e1,by omega,by omega,by omega,rfl⟩)
   go_enter Tryz.func212,Tryz.ntmps212
   go_wp2_with fail
   refine (ce _ T).mono ?_
   rintro e w1 ⟨rfl,hb⟩
   go_wp2_with fail
   refine (ca _).mono ?_
   rintro e w' ⟨rfl,rfl⟩
   go_wp2
   go_ret2
   exact ⟨rfl,hb⟩
  ·have ca:=fun w=>Add_any n (-(b - 7)) 0 4 w (by omega) (by omega) (.inr ⟨by omega,rfl,rfl⟩)
   go_enter Tryz.func212,Tryz.ntmps212
   go_wp2_with fail
   refine (ce _ T).mono ?_
   rintro e w1 ⟨rfl,hb⟩
   go_wp2_with fail
   refine (ca _).mono ?_
   rintro e w' ⟨rfl,rfl⟩
   go_wp2
   go_ret2
   exact ⟨rfl,hb⟩
 ·have ce:=fun w T=>endOf_any y m wd 0 0 1 w (.inr (.inl ⟨ok,h,rfl,rfl,rfl⟩)) T
  clear ok h
  go_enter Tryz.func212,Tryz.ntmps212
  go_wp2_with fail
  refine (ce _ T).mono ?_
  rintro e w1 ⟨rfl,hb⟩
  go_wp2
  go_ret2
  exact ⟨rfl,hb⟩
 ·have ce:=fun w T=>endOf_any y m wd 0 0 4 w (.inr (.inr ⟨no,rfl,rfl,rfl⟩)) T
  clear no
  go_enter Tryz.func212,Tryz.ntmps212
  go_wp2_with fail
  refine (ce _ T).mono ?_
  rintro e w1 ⟨rfl,hb⟩
  go_wp2
  go_ret2
  exact ⟨rfl,hb⟩

end Go.Proofs.YtoilomigceijaaaGreatDoor.Ep

