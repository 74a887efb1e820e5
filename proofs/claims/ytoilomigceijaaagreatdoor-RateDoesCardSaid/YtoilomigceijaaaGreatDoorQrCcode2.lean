/- What Length, Check, Day, Of, Weekday and Add of package civil come to. -/
import Derived.Test.YtoilomigceijaaaGreatDoorQrCcode
set_option linter.unusedSimpArgs false
set_option linter.unusedVariables false
namespace Go.Proofs.YtoilomigceijaaaGreatDoor.Cp
open Go.RowKit Bx Cm
open Cr (leapB leap_in)

set_option maxHeartbeats 1000000

theorem firstOf_eq {y:Int}:365*(y - 1600)+(y - 1600+3) / 4 - (y - 1600+99) / 100+(y - 1600+399) / 400=dby y:=by unfold dby;omega

theorem firstOf_any (y v:Int)(w:World)(h0:1600≤y)(h1:y≤10000)(hv:v=dby y) :
  Calls Tryz.prog 179 #[.int .i64 y] w fun e w'=>e= .returned (.int .i64 v)∧w=w':=by
 obtain rfl:=hv.trans firstOf_eq.symm
 clear hv
 go_enter Tryz.func179,Tryz.ntmps179
 go_wp2
 go_ret
 exact ⟨rfl,rfl⟩

theorem yearOf_eq {n y q:Int}(n0:0≤n)(hq:(n+1)*400 / 146097=q)(ya:dby y≤n)(yb:n<dby (y+1)) :
  (1600+q=y∧dby (1600+q)≤n)∨(1600+q - 1=y∧n<dby (1600+q)):=by
 have a1:n<dby (1600+q+1):=by unfold dby;omega
 have a2:dby (1600+q - 1)≤n:=by unfold dby;omega
 have b1:1600+q - 1≤y:=dby_lt (n:=n) a2 yb
 have b2:y≤1600+q:=dby_lt (n:=n) ya a1
 by_cases c:dby (1600+q)≤n
 ·have:=dby_lt (n:=n) (a:=1600+q) c yb
  exact .inl ⟨by omega,c⟩
 ·by_cases e:y=1600+q
  ·subst e;exact absurd ya c
  ·exact .inr ⟨by omega,by omega⟩

theorem yearOf_any (n y:Int)(w:World)(n0:0≤n)(n1:n≤3068036)(ya:dby y≤n)(yb:n<dby (y+1)) :
  Calls Tryz.prog 178 #[.int .i64 n] w fun e w'=>e= .returned (.int .i64 y)∧w=w':=by
 obtain ⟨q,hq⟩:∃ q,(n+1)*400 / 146097=q:=⟨_,rfl⟩
 have q0:0≤q:=by omega
 have q1:q≤8400:=by omega
 have O:=yearOf_eq n0 hq ya yb
 obtain ⟨v,hv⟩:∃ v,v=dby (1600+q):=⟨_,rfl⟩
 have vb:=dby_bd (t:=1600+q) (by omega) (by omega)
 have cf:=fun w=>firstOf_any (1600+q) v w (by omega) (by omega) hv
 rw [← hv] at O vb
 obtain ⟨v0,v1⟩:=vb
 clear hv ya yb
 rcases O with ⟨rfl,O⟩|⟨rfl,O⟩
 all_goals
  go_enter Tryz.func178,Tryz.ntmps178
  go_wp2_with fail
  refine (cf _).mono ?_
  rintro e w' ⟨rfl,rfl⟩
  clear hq
  go_wp2
  go_ret
  exact ⟨rfl,rfl⟩

theorem monthOf_any (y m r:Int)(w:World)(h0:1600≤y)(h1:y≤9999)(m0:1≤m)(m1:m≤12)(ra:cum y m≤r)(rb:r<cum y (m+1))(T:Tab w) :
  Calls Tryz.prog 180 #[.int .i64 y,.int .i64 r] w fun e w'=>e= .returned (.int .i64 m)∧w=w':=by
 go_enter Tryz.func180,Tryz.ntmps180
 go_wp2
 go_loop [5] (fun M=>∃ k:Int,M= .int .i64 k∧m≤k∧k≤12) (fun M=>(intOf M).toNat)
 case atStart=>exact ⟨12,rfl,m1,by omega⟩
 case round =>
  obtain ⟨k,rfl,k0,k1⟩:=hrel
  obtain ⟨v,hv⟩:∃ v,v=cum y k:=⟨_,rfl⟩
  have cb:=fun w T=>daysBefore_any y k v w h0 h1 (by omega) (by omega) hv T
  by_cases c:k=m
  ·subst c
   rw [← hv] at ra
   clear hv rb
   go_wp2_with fail
   refine (cb _ T).mono ?_
   rintro e w' ⟨rfl,rfl⟩
   go_wp2
   go_ret
   exact ⟨rfl,rfl⟩
  ·have k2:=cum_mono y (a:=m+1) (b:=k) (by omega) (by omega) (by omega)
   have k3:r<v:=by omega
   have k4:m≤k - 1:=by omega
   clear hv rb ra k2 c
   go_wp2_with fail
   refine (cb _ T).mono ?_
   rintro e w' ⟨rfl,rfl⟩
   go_wp2
   go_round
   case rel=>exact ⟨k - 1,rfl,k4,by omega⟩
   case measure=>simp [intOf];omega

theorem ret_two {k1 k2:IntKind}{a b c d:Int}(h1:a=c)(h2:b=d):Ending.returned (.tuple #[.int k1 a,.int k2 b])=Ending.returned (.tuple #[.int k1 c,.int k2 d]):=by rw [h1,h2]

theorem Length_any (y m v er:Int)(w:World)(R:LenRes y m v er)(T:Tab w) :
  Calls Tryz.prog 174 #[.int .i64 y,.int .i64 m] w fun e w'=>e= .returned (.tuple #[.int .i64 v,.int .i64 er])∧w=w':=by
 rcases R with ⟨⟨h0,h1,h2,h3⟩,hv,rfl⟩|⟨h,rfl,rfl⟩
 ·have cy:=fun w=>isYear_any y true w (by simp [h0,h1])
  obtain ⟨a,ha⟩:∃ a,a=cum y m:=⟨_,rfl⟩
  obtain ⟨b,hb⟩:∃ b,b=cum y (m+1):=⟨_,rfl⟩
  have c1:=fun w T=>daysBefore_any y (m+1) b w h0 h1 (by omega) (by omega) hb T
  have c0:=fun w T=>daysBefore_any y m a w h0 h1 h2 (by omega) ha T
  have lb:=lp_01 y
  have b1:=cum_bd y m h2 (by omega)
  have b2:=cum_bd y (m+1) (by omega) (by omega)
  have cs:=cum_succ y m h2 h3
  rw [← ha] at b1 cs
  rw [← hb] at b2 cs
  obtain ⟨a0,a1⟩:=b1
  obtain ⟨b0,b1⟩:=b2
  have a2:a≤366:=by omega
  have b3:b≤366:=by omega
  obtain rfl:v=b - a:=by omega
  clear ha hb cs lb hv a1 b1
  go_enter Tryz.func174,Tryz.ntmps174
  go_wp2_with fail
  refine (cy _).mono ?_
  rintro e w' ⟨rfl,rfl⟩
  go_wp2_with fail
  refine (c1 _ T).mono ?_
  rintro e w' ⟨rfl,rfl⟩
  go_wp2_with fail
  refine (c0 _ T).mono ?_
  rintro e w' ⟨rfl,rfl⟩
  go_wp2
  go_ret2
  exact ⟨rfl,rfl⟩
 ·have h':((decide (1600≤y)&&decide (y≤9999))=false)∨((decide (1600≤y)&&decide (y≤9999))=true∧m<1)∨((decide (1600≤y)&&decide (y≤9999))=true∧1≤m∧12<m):=by
   unfold MonthOk at h
   simp
   omega
  clear h
  rcases h' with h|⟨h,h4⟩|⟨h,h4,h5⟩
  all_goals
   have cy:=fun w=>isYear_any y _ w h.symm
   clear h
   go_enter Tryz.func174,Tryz.ntmps174
   go_wp2_with fail
   refine (cy _).mono ?_
   rintro e w' ⟨rfl,rfl⟩
   go_wp2
   go_ret2
   exact ⟨rfl,rfl⟩

theorem Check_any (y m d er:Int)(w:World)(R:ChkRes y m d er)(T:Tab w) :
  Calls Tryz.prog 192 #[.agg #[.int .i64 y,.int .i64 m,.int .i64 d]] w fun e w'=>e= .returned (.int .i64 er)∧Below w.heap.size w w':=by
 have O:(∃ v:Int,LenRes y m v 0∧1≤d∧d≤v∧er=0)∨(∃ v:Int,LenRes y m v 0∧d<1∧er=4)∨(∃ v:Int,LenRes y m v 0∧1≤d∧v<d∧er=4)∨(LenRes y m 0 4∧er=4):=by
  by_cases h:MonthOk y m
  ·rcases R with ⟨⟨_,h1,h2⟩,rfl⟩|⟨h2,rfl⟩
   ·exact .inl ⟨_,.inl ⟨h,rfl,rfl⟩,h1,h2,rfl⟩
   ·by_cases h1:d<1
    ·exact .inr (.inl ⟨_,.inl ⟨h,rfl,rfl⟩,h1,rfl⟩)
    ·exact .inr (.inr (.inl ⟨mlen y m,.inl ⟨h,rfl,rfl⟩,by omega,by unfold DateOk at h2;by_cases k:mlen y m<d;exact k;exact absurd ⟨h,by omega,by omega⟩ h2,rfl⟩))
  ·rcases R with ⟨⟨h2,_⟩,_⟩|⟨_,rfl⟩
   ·exact absurd h2 h
   ·exact .inr (.inr (.inr ⟨.inr ⟨h,rfl,rfl⟩,rfl⟩))
 clear R
 rcases O with ⟨v,r,d0,d1,rfl⟩|⟨v,r,d0,rfl⟩|⟨v,r,d0,d1,rfl⟩|⟨r,rfl⟩
 all_goals
  have cl:=fun w T=>Length_any y m _ _ w r T
  clear r
  go_enter Tryz.func192,Tryz.ntmps192
  go_wp2_with fail
  refine (cl _ (T.alloc _)).mono ?_
  rintro e w' ⟨rfl,rfl⟩
  go_wp2
  go_ret
  exact ⟨rfl,balloc (Below.refl _ w) _⟩

theorem Day_any (y m d v er:Int)(w:World)(R:DayRes y m d v er)(T:Tab w) :
  Calls Tryz.prog 190 #[.agg #[.int .i64 y,.int .i64 m,.int .i64 d]] w fun e w'=>e= .returned (.tuple #[.int .i64 v,.int .i64 er])∧Below w.heap.size w w':=by
 rcases R with ⟨ok,hv,rfl⟩|⟨h,rfl,rfl⟩
 ·have cc:=fun w T=>Check_any y m d 0 w (.inl ⟨ok,rfl⟩) T
  obtain ⟨⟨h0,h1,h2,h3⟩,h4,h5⟩:=ok
  have h6:=(mlen_bd y m).2
  obtain ⟨f,hf⟩:∃ f,f=dby y:=⟨_,rfl⟩
  obtain ⟨c,hc⟩:∃ c,c=cum y m:=⟨_,rfl⟩
  have cf:=fun w=>firstOf_any y f w h0 (by omega) hf
  have cb:=fun w T=>daysBefore_any y m c w h0 h1 h2 (by omega) hc T
  have fb:=dby_bd (t:=y) h0 (by omega)
  have lb:=lp_01 y
  have b1:=cum_bd y m h2 (by omega)
  obtain rfl:v=f+c+d - 1:=by rw [hv,hf,hc];rfl
  rw [← hf] at fb
  rw [← hc] at b1
  obtain ⟨f0,f1⟩:=fb
  obtain ⟨c0,c1⟩:=b1
  have c2:c≤366:=by omega
  have d1:d≤31:=by omega
  clear hv hf hc lb c1 h5 h6
  go_enter Tryz.func190,Tryz.ntmps190
  go_wp2_with fail
  refine (cc _ (T.alloc _)).mono ?_
  rintro e w1 ⟨rfl,hb⟩
  have P:=(Tri.new w (.int .i64 y) (.int .i64 m) (.int .i64 d) 104).kept hb
  have B1:=bthen (balloc (Below.refl _ w) _) hb
  have T1:=(T.alloc _).kept hb
  clear hb cc T
  obtain ⟨z,k0,k1,k2,_,_,_⟩:=id P
  clear P
  go_wp2
  go_quiet ((first|(go_at_call 179;exact quiet_same (cf _))|(go_at_call 181;exact quiet_same (cb _ (T1.drewN _)))))
  go_wp2
  go_ret2
  exact ⟨rfl,bdrewN B1 _⟩
 ·have cc:=fun w T=>Check_any y m d 4 w (.inr ⟨h,rfl⟩) T
  clear h
  go_enter Tryz.func190,Tryz.ntmps190
  go_wp2_with fail
  refine (cc _ (T.alloc _)).mono ?_
  rintro e w1 ⟨rfl,hb⟩
  have B1:=bthen (balloc (Below.refl _ w) _) hb
  clear hb cc
  go_wp2
  go_ret2
  exact ⟨rfl,B1⟩

theorem Of_any (n y m d er:Int)(w:World)(R:OfRes n y m d er)(T:Tab w) :
  Calls Tryz.prog 165 #[.int .i64 n] w fun e w'=>e= .returned (.tuple #[.agg #[.int .i64 y,.int .i64 m,.int .i64 d],.int .i64 er])∧Below w.heap.size w w':=by
 rcases R with ⟨n0,n1,ok,hn,rfl⟩|⟨h,rfl,rfl,rfl,rfl⟩
 ·have yb:=num_bd ok
  rw [hn] at yb
  obtain ⟨ya,yb⟩:=yb
  obtain ⟨⟨h0,h1,h2,h3⟩,h4,h5⟩:=ok
  have ms:=cum_succ y m h2 h3
  obtain ⟨f,hf⟩:∃ f,f=dby y:=⟨_,rfl⟩
  obtain ⟨c,hc⟩:∃ c,c=cum y m:=⟨_,rfl⟩
  have hn':f+c+d - 1=n:=by rw [hf,hc];exact hn
  have cd:=fun w=>isDay_any n true w (by simp [n0,n1])
  have cy:=fun w=>yearOf_any n y w n0 n1 ya yb
  have cf:=fun w=>firstOf_any y f w h0 (by omega) hf
  have cb:=fun w T=>daysBefore_any y m c w h0 h1 h2 (by omega) hc T
  have cm:=fun w T=>monthOf_any y m (n - f) w h0 h1 h2 h3 (by omega) (by omega) T
  have fb:=dby_bd (t:=y) h0 (by omega)
  have lb:=lp_01 y
  have b1:=cum_bd y m h2 (by omega)
  rw [← hf] at fb ya
  rw [← hc] at b1
  obtain ⟨f0,f1⟩:=fb
  obtain ⟨c0,c1⟩:=b1
  have c2:c≤366:=by omega
  obtain rfl:d=n - f - c+1:=by omega
  clear hn hn' yb hf hc ms lb c1 h5 h4
  go_enter Tryz.func165,Tryz.ntmps165
  go_wp2_with fail
  refine (cd _).mono ?_
  rintro e w' ⟨rfl,rfl⟩
  go_wp2_with fail
  refine (cy _).mono ?_
  rintro e w' ⟨rfl,rfl⟩
  go_wp2_with fail
  refine (cf _).mono ?_
  rintro e w' ⟨rfl,rfl⟩
  go_wp2_with fail
  refine (cm _ (T.alloc _)).mono ?_
  rintro e w' ⟨rfl,rfl⟩
  go_wp2_with fail
  refine (cb _ (T.alloc _)).mono ?_
  rintro e w' ⟨rfl,rfl⟩
  go_wp2
  refine bodyPost_ret (v:=.tuple #[.agg #[.int .i64 y,.int .i64 m,.int .i64 (n - f - c+1)],.int .i64 0]) (by simp [results,Tryz.results165,go_sem]) rfl ⟨rfl,?_⟩
  exact balloc (Below.refl _ w) _
 ·have e1:(decide (0≤n)&&decide (n≤3068036))=false:=by simp;omega
  have cd:=fun w=>isDay_any n false w e1.symm
  clear h e1
  go_enter Tryz.func165,Tryz.ntmps165
  go_wp2_with fail
  refine (cd _).mono ?_
  rintro e w' ⟨rfl,rfl⟩
  go_wp2
  refine bodyPost_ret (v:=.tuple #[.agg #[.int .i64 0,.int .i64 0,.int .i64 0],.int .i64 4]) (by simp [results,Tryz.results165,go_sem]) rfl ⟨rfl,?_⟩
  exact balloc (Below.refl _ w) _

theorem Weekday_any (n v er:Int)(w:World)(R:WkdRes n v er) :
  Calls Tryz.prog 191 #[.int .i64 n] w fun e w'=>e= .returned (.tuple #[.int .i64 v,.int .i64 er])∧w=w':=by
 rcases R with ⟨h0,h1,hv,rfl⟩|⟨h,rfl,rfl⟩
 ·have cd:=fun w=>isDay_any n true w (by simp [h0,h1])
  have t7:(n+6 - 1).tmod 7=(n+6 - 1)%7:=Int.tmod_eq_emod_of_nonneg (by omega)
  obtain ⟨r,hr⟩:∃ r,(n+6 - 1)%7=r:=⟨_,rfl⟩
  have r0:0≤r:=by omega
  have r1:r≤6:=by omega
  obtain rfl:v=r+1:=by rw [hv,← hr];unfold wday;omega
  clear hv
  go_enter Tryz.func191,Tryz.ntmps191
  go_wp2_with fail
  refine (cd _).mono ?_
  rintro e w' ⟨rfl,rfl⟩
  go_wp2
  go_ret2
  exact ⟨ret_two (by omega) rfl,rfl⟩
 ·have e1:(decide (0≤n)&&decide (n≤3068036))=false:=by simp;omega
  have cd:=fun w=>isDay_any n false w e1.symm
  clear h e1
  go_enter Tryz.func191,Tryz.ntmps191
  go_wp2_with fail
  refine (cd _).mono ?_
  rintro e w' ⟨rfl,rfl⟩
  go_wp2
  go_ret2
  exact ⟨rfl,rfl⟩

theorem Add_any (a n v er:Int)(w:World)(fa: -9223372036854775808≤a∧a≤9223372036854775807)(fn: -9223372036854775808≤n∧n≤9223372036854775807)(R:AddRes a n v er) :
  Calls Tryz.prog 213 #[.int .i64 a,.int .i64 n] w fun e w'=>e= .returned (.tuple #[.int .i64 v,.int .i64 er])∧w=w':=by
 obtain ⟨a0,a1⟩:=fa
 obtain ⟨n0,n1⟩:=fn
 by_cases h:0≤a∧a≤3068036
 ·obtain ⟨h0,h1⟩:=h
  have cd:=fun w=>isDay_any a true w (by simp [h0,h1])
  have O:(-a≤n∧n≤3068036 - a∧v=a+n∧er=0)∨((n < -a∨(-a≤n∧3068036 - a<n))∧v=0∧er=4):=by
   unfold AddRes at R;omega
  clear R
  rcases O with ⟨h2,h3,rfl,rfl⟩|⟨h2|⟨h2,h3⟩,rfl,rfl⟩
  all_goals
   go_enter Tryz.func213,Tryz.ntmps213
   go_wp2_with fail
   refine (cd _).mono ?_
   rintro e w' ⟨rfl,rfl⟩
   go_wp2
   go_ret2
   exact ⟨rfl,rfl⟩
 ·have e1:(decide (0≤a)&&decide (a≤3068036))=false:=by simp;omega
  have cd:=fun w=>isDay_any a false w e1.symm
  have O:v=0∧er=4:=by unfold AddRes at R;omega
  obtain ⟨rfl,rfl⟩:=O
  clear R h e1
  go_enter Tryz.func213,Tryz.ntmps213
  go_wp2_with fail
  refine (cd _).mono ?_
  rintro e w' ⟨rfl,rfl⟩
  go_wp2
  go_ret2
  exact ⟨rfl,rfl⟩

theorem Length_b (y m v er:Int)(w:World)(R:LenRes y m v er)(T:Tab w):Calls Tryz.prog 174 #[.int .i64 y,.int .i64 m] w fun e w'=>e= .returned (.tuple #[.int .i64 v,.int .i64 er])∧Below w.heap.size w w' :=
 (Length_any y m v er w R T).mono fun _ _ ⟨h1,h2⟩=>⟨h1,h2 ▸ Below.refl _ _⟩
theorem Of_b (n y m d er:Int)(w:World)(R:OfRes n y m d er)(T:Tab w):Calls Tryz.prog 165 #[.int .i64 n] w fun e w'=>e= .returned (.tuple #[.agg #[.int .i64 y,.int .i64 m,.int .i64 d],.int .i64 er])∧Below w.heap.size w w':=Of_any n y m d er w R T
end Go.Proofs.YtoilomigceijaaaGreatDoor.Cp

