/- Texts that are joined: Cref2, Eref2. -/
import Derived.Test.YtoilomigceijaaaGreatDoorQrCref
import Derived.Test.YtoilomigceijaaaGreatDoorQrJP
set_option linter.unusedSimpArgs false
set_option linter.unusedVariables false
namespace Go.Proofs.YtoilomigceijaaaGreatDoor.Cr
open Go.RowKit Bx Cm

set_option maxHeartbeats 1000000

theorem ret_two {k1 k2:IntKind}{a b c d:Int}(h1:a=c)(h2:b=d):Ending.returned (.tuple #[.int k1 a,.int k2 b])=Ending.returned (.tuple #[.int k1 c,.int k2 d]):=by rw [h1,h2]

theorem rLong_any (y v:Int)(w:World)(h0:1600≤y)(h1:y≤9999)(hv:v=365+lp y) :
  Calls Tryz.prog 107 #[.int .i64 y] w fun e w'=>e= .returned (.int .i64 v)∧w=w':=by
 obtain ⟨b,hb⟩:∃ b,b=leapB y:=⟨_,rfl⟩
 have cl:=fun w=>rLeap_any y b w hb
 have hl:=leap_in h0 h1
 rw [← hb] at hl
 cases b
 ·obtain rfl:v=365:=by rw [hv,hl];simp
  clear hb hl hv
  go_enter Tryz.func107,Tryz.ntmps107
  go_wp2_with fail
  refine (cl _).mono ?_
  rintro e w' ⟨rfl,rfl⟩
  go_wp2
  go_ret
  exact ⟨rfl,rfl⟩
 ·obtain rfl:v=366:=by rw [hv,hl];simp
  clear hb hl hv
  go_enter Tryz.func107,Tryz.ntmps107
  go_wp2_with fail
  refine (cl _).mono ?_
  rintro e w' ⟨rfl,rfl⟩
  go_wp2
  go_ret
  exact ⟨rfl,rfl⟩

theorem rDay_any (y m d v er:Int)(w:World)(R:DayRes y m d v er) :
  Calls Tryz.prog 110 #[.agg #[.int .i64 y,.int .i64 m,.int .i64 d]] w fun e w'=>e= .returned (.tuple #[.int .i64 v,.int .i64 er])∧Below w.heap.size w w':=by
 rcases R with ⟨ok,hv,rfl⟩|⟨h,rfl,rfl⟩
 ·have cc:=fun w=>rCheck_any y m d 0 w (.inl ⟨ok,rfl⟩)
  have hv':v=dby y+cum y m+d - 1:=hv
  subst hv'
  have nb:=num_range ok
  obtain ⟨⟨h0,h1,h2,h3⟩,h4,h5⟩:=ok
  have h6:=(mlen_bd y m).2
  clear hv nb
  go_enter Tryz.func110,Tryz.ntmps110
  go_wp2_with fail
  refine (cc _).mono ?_
  rintro e w1 ⟨rfl,hb⟩
  have P:=(Tri.new w (.int .i64 y) (.int .i64 m) (.int .i64 d) 104).kept hb
  have B1:=bthen (balloc (Below.refl _ w) _) hb
  clear hb cc
  obtain ⟨z,c0,c1,c2,_,_,_⟩:=id P
  clear P
  go_wp2
  go_loop [5,6] (fun N Y=>∃ t:Int,1600≤t∧t≤y∧Y= .int .i64 t∧N= .int .i64 (dby t)) (fun _ Y=>(9999 - intOf Y).toNat)
  case atStart=>exact ⟨1600,by omega,h0,rfl,by rw [dby_first]⟩
  case round =>
   obtain ⟨t,t0,t1,rfl,rfl⟩:=hrel
   obtain ⟨b0,b1⟩:=dby_bd t0 (by omega)
   by_cases c:t+400≤y
   ·have h:=Lib.hid (dby_400 t)
    go_wp2
    go_round
    case rel=>exact ⟨t+400,by omega,c,rfl,by rw [h.out]⟩
    case measure=>simp [intOf];omega
   ·go_wp2
    go_loop [5,6] (fun N Y=>∃ t:Int,1600≤t∧t≤y∧Y= .int .i64 t∧N= .int .i64 (dby t)) (fun _ Y=>(9999 - intOf Y).toNat)
    case atStart=>exact ⟨t,t0,t1,rfl,rfl⟩
    case round =>
     clear t0 t1 b0 b1 c
     obtain ⟨u,u0,u1,rfl,rfl⟩:=hrel
     obtain ⟨b0,b1⟩:=dby_bd u0 (by omega)
     by_cases c:u<y
     ·obtain ⟨l,hl⟩:∃ l,l=365+lp u:=⟨_,rfl⟩
      have l0:365≤l∧l≤366:=by have:=lp_01 u;omega
      obtain ⟨l0,l1⟩:=l0
      have h:Hid (dby (u+1)=dby u+l):=Lib.hid (by rw [dby_succ,hl];omega)
      have cl:=fun w=>rLong_any u l w u0 (by omega) hl
      clear hl
      go_wp2_with fail
      refine (cl _).mono ?_
      rintro e w' ⟨rfl,rfl⟩
      go_wp2
      go_round
      case rel=>exact ⟨u+1,by omega,by omega,rfl,by rw [h.out]⟩
      case measure=>simp [intOf];omega
     ·obtain rfl:y=u:=by omega
      go_wp2
      go_loop [5,7] (fun N M=>∃ k:Int,1≤k∧k≤m∧M= .int .i64 k∧N= .int .i64 (dby y+cum y k)) (fun _ M=>(12 - intOf M).toNat)
      case atStart=>exact ⟨1,by omega,h2,rfl,by rw [cum_one,Int.add_zero]⟩
      case round =>
       obtain ⟨k,k0,k1,rfl,rfl⟩:=hrel
       have cb:=cum_bd y k k0 (by omega)
       have lb:=lp_01 y
       have cb1:cum y k≤366:=by omega
       obtain ⟨cb0,_⟩:=cb
       obtain ⟨s,hs⟩:∃ s,dby y+cum y k=s:=⟨_,rfl⟩
       have s0:0≤s∧s≤3068403:=by omega
       obtain ⟨s0,s1⟩:=s0
       by_cases c:k<m
       ·obtain ⟨l,hl⟩:∃ l,l=mlen y k:=⟨_,rfl⟩
        have l0:=mlen_bd y k
        rw [← hl] at l0
        obtain ⟨l0,l1⟩:=l0
        have h:Hid (dby y+cum y (k+1)=s+l):=Lib.hid (by rw [cum_succ y k k0 (by omega),← hs,hl];omega)
        have cl:=fun w=>rLength_any y k l 0 w (.inl ⟨⟨h0,h1,k0,by omega⟩,hl,rfl⟩)
        rw [hs]
        clear hl hs
        go_wp2_with fail
        refine (cl _).mono ?_
        rintro e w' ⟨rfl,rfl⟩
        go_wp2
        go_round
        case rel=>exact ⟨k+1,by omega,by omega,rfl,by rw [h.out]⟩
        case measure=>simp [intOf];omega
       ·obtain rfl:m=k:=by omega
        rw [hs]
        have HS:=Lib.hid hs
        clear hs
        go_wp2
        go_ret2
        exact ⟨ret_two (by rw [HS.out]) rfl,B1⟩
 ·have cc:=fun w=>rCheck_any y m d 4 w (.inr ⟨h,rfl⟩)
  clear h
  go_enter Tryz.func110,Tryz.ntmps110
  go_wp2_with fail
  refine (cc _).mono ?_
  rintro e w1 ⟨rfl,hb⟩
  have B1:=bthen (balloc (Below.refl _ w) _) hb
  clear hb cc
  go_wp2
  go_ret2
  exact ⟨rfl,B1⟩

structure OfB (w W:World) (t k:Int):Prop where
 below:Below w.heap.size w W
 a:Tri W w.heap.size (.int .i64 0) (.int .i64 0) (.int .i64 0)
 b:Tri W (w.heap.size+1) (.int .i64 t) (.int .i64 k) (.int .i64 1)
theorem OfB.start (w:World):OfB w ((w.alloc (.cells #[.int .i64 0,.int .i64 0,.int .i64 0] 104)).alloc (.cells #[.int .i64 1600,.int .i64 1,.int .i64 1] 104)) 1600 1 :=
 ⟨balloc (balloc (Below.refl _ w) _) _,(Tri.new w _ _ _ _).alloc _,by have:=Tri.new (w.alloc (.cells #[.int .i64 0,.int .i64 0,.int .i64 0] 104)) (.int .i64 1600) (.int .i64 1) (.int .i64 1) 104;simpa only [World.size_alloc] using this⟩
theorem OfB.year {w W:World}{t k:Int}(x:OfB w W t k)(u:Int):OfB w (W.setCell ⟨w.heap.size+1,0,none⟩ (.int .i64 u)) u k :=
 ⟨bset x.below (by omega) _ _,x.a.other _ _ (by omega),x.b.set0 _⟩
theorem OfB.month {w W:World}{t k:Int}(x:OfB w W t k)(u:Int):OfB w (W.setCell ⟨w.heap.size+1,1,none⟩ (.int .i64 u)) t u :=
 ⟨bset x.below (by omega) _ _,x.a.other _ _ (by omega),x.b.set1 _⟩

theorem rOf_any (n y m d er:Int)(w:World)(R:OfRes n y m d er) :
  Calls Tryz.prog 57 #[.int .i64 n] w fun e w'=>e= .returned (.tuple #[.agg #[.int .i64 y,.int .i64 m,.int .i64 d],.int .i64 er])∧Below w.heap.size w w':=by
 rcases R with ⟨n0,n1,ok,hn,rfl⟩|⟨h,rfl,rfl,rfl,rfl⟩
 ·have yb:=num_bd ok
  rw [hn] at yb
  obtain ⟨ya,yb⟩:=yb
  obtain ⟨⟨h0,h1,h2,h3⟩,h4,h5⟩:=ok
  have hd:d=n - dby y - cum y m+1:=by unfold num at hn;omega
  have ma:cum y m≤n - dby y:=by unfold num at hn;omega
  have mb:n - dby y<cum y m+mlen y m:=by unfold num at hn;omega
  have H:=Lib.hid (And.intro hd hn)
  clear hd hn h4 h5
  go_enter Tryz.func57,Tryz.ntmps57
  go_wp2
  go_loopw [0] (fun D wr=>∃ t:Int,1600≤t∧t≤y∧D= .int .i64 (n - dby t)∧dby t≤n∧OfB w wr t 1) (fun D _=>(intOf D).toNat)
  case atStart=>exact ⟨1600,by omega,h0,by rw [dby_first,Int.sub_zero],by rw [dby_first];exact n0,OfB.start w⟩
  case round =>
   obtain ⟨t,t0,t1,rfl,t2,X⟩:=hrel
   obtain ⟨b0,b1⟩:=dby_bd t0 (by omega)
   obtain ⟨z,c0,c1,c2,f0,f1,f2⟩:=id X.b
   by_cases c:146097≤n - dby t
   ·have h:=dby_400 t
    have k1:t+400≤y:=dby_lt (n:=n) (by rw [h];omega) yb
    have k2:=Lib.hid h
    clear h
    go_wp2
    go_roundw
    case rel=>exact ⟨t+400,by omega,k1,by rw [k2.out];go_num,by rw [k2.out];omega,X.year _⟩
    case measure=>simp [intOf];omega
   ·go_wp2
    go_loopw [0] (fun D wr=>∃ t:Int,1600≤t∧t≤y∧D= .int .i64 (n - dby t)∧dby t≤n∧OfB w wr t 1) (fun D _=>(intOf D).toNat)
    case atStart=>exact ⟨t,t0,t1,rfl,t2,X⟩
    case round =>
     clear t0 t1 b0 b1 c t2 X z c0 c1 c2 f0 f1 f2
     obtain ⟨u,u0,u1,rfl,u2,X⟩:=hrel
     obtain ⟨b0,b1⟩:=dby_bd u0 (by omega)
     obtain ⟨z,c0,c1,c2,f0,f1,f2⟩:=id X.b
     obtain ⟨l,hl⟩:∃ l,l=365+lp u:=⟨_,rfl⟩
     have l0:365≤l∧l≤366:=by have:=lp_01 u;omega
     obtain ⟨l0,l1⟩:=l0
     have hs:dby (u+1)=dby u+l:=by rw [dby_succ,hl];omega
     have cl:=fun w=>rLong_any u l w u0 (by omega) hl
     clear hl
     by_cases c:l≤n - dby u
     ·have k1:u+1≤y:=dby_lt (n:=n) (by rw [hs];omega) yb
      have k2:=Lib.hid hs
      clear hs
      go_wp2_with fail
      refine (cl _).mono ?_
      rintro e w' ⟨rfl,rfl⟩
      go_wp2_with fail
      refine (cl _).mono ?_
      rintro e w' ⟨rfl,rfl⟩
      go_wp2
      go_roundw
      case rel=>exact ⟨u+1,by omega,k1,by rw [k2.out];go_num,by rw [k2.out];omega,X.year _⟩
      case measure=>simp [intOf];omega
     ·obtain rfl:y=u:=by
       have:y≤u:=dby_lt (n:=n) ya (by rw [hs];omega)
       omega
      clear hs
      have cl1:=fun w=>rLength_any y 1 (mlen y 1) 0 w (.inl ⟨⟨h0,h1,by omega,by omega⟩,rfl,rfl⟩)
      go_wp2_with fail
      refine (cl _).mono ?_
      rintro e w' ⟨rfl,rfl⟩
      go_wp2_with fail
      refine (cl1 _).mono ?_
      rintro e w' ⟨rfl,rfl⟩
      clear cl cl1 c l0 l1
      go_wp2
      go_loopw [0,5] (fun D L wr=>∃ k:Int,1≤k∧k≤m∧D= .int .i64 (n - dby y - cum y k)∧L= .int .i64 (mlen y k)∧cum y k≤n - dby y∧OfB w wr y k) (fun D _ _=>(intOf D).toNat)
      case atStart=>exact ⟨1,by omega,h2,by rw [cum_one,Int.sub_zero],rfl,by rw [cum_one];omega,X⟩
      case round =>
       clear z c0 c1 c2 f0 f1 f2 X
       obtain ⟨k,k0,k1,rfl,rfl,k2,X⟩:=hrel
       obtain ⟨z,c0,c1,c2,f0,f1,f2⟩:=id X.b
       obtain ⟨za,a0,a1,a2,g0,g1,g2⟩:=id X.a
       have cb:=cum_bd y k k0 (by omega)
       obtain ⟨cb0,cb1⟩:=cb
       obtain ⟨s,hs⟩:∃ s,n - dby y - cum y k=s:=⟨_,rfl⟩
       obtain ⟨l,hl⟩:∃ l,l=mlen y k:=⟨_,rfl⟩
       have l0:=mlen_bd y k
       rw [← hl] at l0
       obtain ⟨l0,l1⟩:=l0
       have s0:0≤s:=by omega
       have s1:s≤3068036:=by omega
       by_cases c:l≤s
       ·have hc:=cum_succ y k k0 (by omega)
        have k3:k+1≤m:=by
         by_cases q:k<m
         ·omega
         ·obtain rfl:k=m:=by omega
          omega
        have cl2:=fun w=>rLength_any y (k+1) (mlen y (k+1)) 0 w (.inl ⟨⟨h0,h1,by omega,by omega⟩,rfl,rfl⟩)
        have e1:Hid (n - dby y - cum y (k+1)=s - l):=Lib.hid (by rw [hc,← hs,hl];omega)
        have e2:cum y (k+1)≤n - dby y:=by omega
        rw [hs,← hl]
        clear hs hl hc cb0 cb1
        go_wp2_with fail
        refine (cl2 _).mono ?_
        rintro e w' ⟨rfl,rfl⟩
        go_wp2
        go_roundw
        case rel=>exact ⟨k+1,by omega,k3,by rw [e1.out],rfl,e2,X.month _⟩
        case measure=>simp [intOf];omega
       ·obtain rfl:m=k:=by
         by_cases q:k<m
         ·have:=cum_step y k0 q (by omega)
          omega
         ·omega
        obtain rfl:d=1+s:=by have:=H.out.1;omega
        rw [hs,← hl]
        clear hs hl cb0 cb1 H ma mb k2
        go_wp2
        refine bodyPost_ret (v:=.tuple #[.agg #[.int .i64 y,.int .i64 m,.int .i64 (1+s)],.int .i64 0]) (by simp [results,Tryz.results57,go_sem,a0,a1,a2]) rfl ⟨rfl,?_⟩
        exact bset (bset (bset (bset X.below (by omega) _ _) (Nat.le_refl _) _ _) (Nat.le_refl _) _ _) (Nat.le_refl _) _ _
 ·have h':n<0∨(0≤n∧3068036<n):=by omega
  clear h
  rcases h' with h|⟨h,h4⟩
  all_goals
   go_enter Tryz.func57,Tryz.ntmps57
   go_wp2
   refine bodyPost_ret (v:=.tuple #[.agg #[.int .i64 0,.int .i64 0,.int .i64 0],.int .i64 4]) (by simp [results,Tryz.results57,go_sem]) rfl ⟨rfl,?_⟩
   exact balloc (Below.refl _ w) _

end Go.Proofs.YtoilomigceijaaaGreatDoor.Cr

namespace Go.Proofs.YtoilomigceijaaaGreatDoor.Er
open Go.RowKit Bx Cm Cr Em

set_option maxHeartbeats 1000000

theorem rLast_any (y m wd v er:Int)(w:World)(R:LastRes y m wd v er) :
  Calls Tryz.prog 65 #[.int .i64 y,.int .i64 m,.int .i64 wd] w fun e w'=>e= .returned (.tuple #[.int .i64 v,.int .i64 er])∧Below w.heap.size w w':=by
 rcases R with ⟨ok,h0,h1,hv,rfl⟩|⟨ok,h,rfl,rfl⟩|⟨no,rfl,rfl⟩
 ·obtain ⟨l,hl⟩:∃ l,l=mlen y m:=⟨_,rfl⟩
  have cl:=fun w=>rLength_any y m l 0 w (.inl ⟨ok,hl,rfl⟩)
  have eo:=end_ok ok
  rw [← hl] at eo
  obtain ⟨n,hn⟩:∃ n,n=mend y m:=⟨_,rfl⟩
  have cd:=fun w=>rDay_any y m l n 0 w (.inl ⟨eo,by rw [hn,hl];rfl,rfl⟩)
  have er:=end_range ok
  have bb:=back_bd y m wd
  have wv:wday v=wd:=by rw [hv];exact back_wday h0 h1
  rw [← hn] at er hv
  have v0:n - 6≤v:=by omega
  have v1:v≤n:=by omega
  obtain ⟨n0,n1⟩:=er
  have CW:=Lib.hid (fun w=>rWeekday_any v wd 0 w (.inl ⟨by omega,by omega,wv.symm,rfl⟩))
  have CN:Hid (∀ j w,v<j→j≤n→∃ s:Int,(s==wd)=false∧Calls Tryz.prog 112 #[.int .i64 j] w fun e w'=>e= .returned (.tuple #[.int .i64 s,.int .i64 0])∧Below w.heap.size w w') :=
   Lib.hid (fun j w a b=>⟨wday j,beq_eq_false_iff_ne.2 (by intro e;unfold wday at e wv;omega),rWeekday_any j _ 0 w (.inl ⟨by omega,by omega,rfl,rfl⟩)⟩)
  clear hl hn eo bb hv wv ok
  go_enter Tryz.func65,Tryz.ntmps65
  go_wp2_with fail
  refine (cl _).mono ?_
  rintro e w' ⟨rfl,rfl⟩
  go_wp2_with fail
  refine (cd _).mono ?_
  rintro e w1 ⟨rfl,B1⟩
  go_wp2
  go_loopw [10] (fun D wr=>∃ j:Int,v≤j∧j≤n∧D= .int .i64 j∧Below w.heap.size w wr) (fun D _=>(intOf D).toNat)
  case atStart=>exact ⟨n,v1,by omega,rfl,B1⟩
  case round =>
   clear B1
   obtain ⟨j,j0,j1,rfl,B1⟩:=hrel
   by_cases hj:j=v
   ·subst hj
    have cw:=CW.out
    go_wp2_with fail
    refine (cw _).mono ?_
    rintro e w2 ⟨rfl,hb⟩
    replace B1:=bthen B1 hb
    clear hb cw
    go_wp2
    go_ret2
    exact ⟨rfl,B1⟩
   ·have j2:v<j:=by omega
    obtain ⟨s,sw,cj⟩:=CN.out j wr j2 j1
    clear hj
    go_wp2_with fail
    refine cj.mono ?_
    rintro e w2 ⟨rfl,hb⟩
    replace B1:=bthen B1 hb
    clear hb cj
    go_wp2
    go_roundw
    case rel=>exact ⟨j - 1,by omega,by omega,rfl,B1⟩
    case measure=>simp [intOf];omega
 ·have cl:=fun w=>rLength_any y m (mlen y m) 0 w (.inl ⟨ok,rfl,rfl⟩)
  have h':wd<1∨(1≤wd∧7<wd):=by omega
  clear h ok
  generalize mlen y m=l at cl
  rcases h' with h|⟨h,h2⟩
  all_goals
   go_enter Tryz.func65,Tryz.ntmps65
   go_wp2_with fail
   refine (cl _).mono ?_
   rintro e w' ⟨rfl,rfl⟩
   go_wp2
   go_ret2
   exact ⟨rfl,Below.refl _ _⟩
 ·have cl:=fun w=>rLength_any y m 0 4 w (.inr ⟨no,rfl,rfl⟩)
  clear no
  go_enter Tryz.func65,Tryz.ntmps65
  go_wp2_with fail
  refine (cl _).mono ?_
  rintro e w' ⟨rfl,rfl⟩
  go_wp2
  go_ret2
  exact ⟨rfl,Below.refl _ _⟩

theorem near_wday {y m wd:Int}(h0:1≤wd)(h1:wd≤7):wday (nearv y m wd)=wd:=by
 have a:=back_wday (y:=y) (m:=m) h0 h1
 unfold nearv
 split
 ·unfold wday at *;omega
 ·exact a
theorem near_bd (y m wd:Int):mend y m - 3≤nearv y m wd∧nearv y m wd≤mend y m+3:=by
 have b:=back_bd y m wd
 unfold nearv;split<;>omega

theorem rNear_any (y m wd v er:Int)(w:World)(R:NearRes y m wd v er) :
  Calls Tryz.prog 111 #[.int .i64 y,.int .i64 m,.int .i64 wd] w fun e w'=>e= .returned (.tuple #[.int .i64 v,.int .i64 er])∧Below w.heap.size w w':=by
 have O:(MonthOk y m∧1≤wd∧wd≤7∧((nearv y m wd≤3068036∧v=nearv y m wd∧er=0)∨(3068036<nearv y m wd∧v=0∧er=4)))∨(MonthOk y m∧¬ (1≤wd∧wd≤7)∧v=0∧er=1)∨(¬ MonthOk y m∧v=0∧er=4):=by
  rcases R with ⟨ok,h0,h1,h⟩|⟨ok,h0,h1,h⟩|h|h
  ·exact .inl ⟨ok,h0,h1,.inl h⟩
  ·exact .inl ⟨ok,h0,h1,.inr h⟩
  ·exact .inr (.inl h)
  ·exact .inr (.inr h)
 clear R
 rcases O with ⟨ok,h0,h1,O⟩|⟨ok,h,rfl,rfl⟩|⟨no,rfl,rfl⟩
 ·obtain ⟨l,hl⟩:∃ l,l=mlen y m:=⟨_,rfl⟩
  have cl:=fun w=>rLength_any y m l 0 w (.inl ⟨ok,hl,rfl⟩)
  have eo:=end_ok ok
  rw [← hl] at eo
  obtain ⟨n,hn⟩:∃ n,n=mend y m:=⟨_,rfl⟩
  have cd:=fun w=>rDay_any y m l n 0 w (.inl ⟨eo,by rw [hn,hl];rfl,rfl⟩)
  have er:=end_range ok
  have wv:=near_wday (y:=y) (m:=m) h0 h1
  have nb:=near_bd y m wd
  generalize nearv y m wd=u at *
  rw [← hn] at er nb
  obtain ⟨n0,n1⟩:=er
  obtain ⟨u0,u1⟩:=nb
  have CN:Hid (∀ j w,j≠u→n - 3≤j→j≤n+3→∃ s q:Int,((q=0∧(s==wd)=false)∨q=4)∧Calls Tryz.prog 112 #[.int .i64 j] w fun e w'=>e= .returned (.tuple #[.int .i64 s,.int .i64 q])∧Below w.heap.size w w') :=
   Lib.hid (fun j w a b c=>by
    by_cases k:j≤3068036
    ·exact ⟨wday j,0,.inl ⟨rfl,beq_eq_false_iff_ne.2 (by intro e;unfold wday at e wv;omega)⟩,rWeekday_any j _ 0 w (.inl ⟨by omega,k,rfl,rfl⟩)⟩
    ·exact ⟨0,4,.inr rfl,rWeekday_any j 0 4 w (.inr ⟨by omega,rfl,rfl⟩)⟩)
  rcases O with ⟨u2,rfl,rfl⟩|⟨u2,rfl,rfl⟩
  ·have CW:=Lib.hid (fun w=>rWeekday_any v wd 0 w (.inl ⟨by omega,u2,wv.symm,rfl⟩))
   clear hl hn eo wv ok u2
   go_enter Tryz.func111,Tryz.ntmps111
   go_wp2_with fail
   refine (cl _).mono ?_
   rintro e w' ⟨rfl,rfl⟩
   go_wp2_with fail
   refine (cd _).mono ?_
   rintro e w1 ⟨rfl,B1⟩
   go_wp2
   go_loopw [12] (fun D wr=>∃ j:Int,n - 3≤j∧j≤v∧D= .int .i64 j∧Below w.heap.size w wr) (fun D _=>(v+1 - intOf D).toNat)
   case atStart=>exact ⟨n - 3,by omega,u0,rfl,B1⟩
   case round =>
    clear B1
    obtain ⟨j,j0,j1,rfl,B1⟩:=hrel
    by_cases hj:j=v
    ·subst hj
     have cw:=CW.out
     go_wp2_with fail
     refine (cw _).mono ?_
     rintro e w2 ⟨rfl,hb⟩
     replace B1:=bthen B1 hb
     clear hb cw
     go_wp2
     go_ret2
     exact ⟨rfl,B1⟩
    ·have j2:j≤n+3:=by omega
     obtain ⟨s,q,O,cj⟩:=CN.out j wr hj j0 j2
     have j3:j<v:=by omega
     clear hj
     rcases O with ⟨rfl,sw⟩|rfl
     all_goals
      go_wp2_with fail
      refine cj.mono ?_
      rintro e w2 ⟨rfl,hb⟩
      replace B1:=bthen B1 hb
      clear hb cj
      go_wp2
      go_roundw
      case rel=>exact ⟨j+1,by omega,by omega,rfl,B1⟩
      case measure=>simp [intOf];omega
  ·have CE:=Lib.hid (fun w=>rWeekday_any u 0 4 w (.inr ⟨by omega,rfl,rfl⟩))
   clear hl hn eo wv ok u2
   go_enter Tryz.func111,Tryz.ntmps111
   go_wp2_with fail
   refine (cl _).mono ?_
   rintro e w' ⟨rfl,rfl⟩
   go_wp2_with fail
   refine (cd _).mono ?_
   rintro e w1 ⟨rfl,B1⟩
   go_wp2
   go_loopw [12] (fun D wr=>∃ j:Int,n - 3≤j∧j≤n+4∧D= .int .i64 j∧Below w.heap.size w wr) (fun D _=>(n+4 - intOf D).toNat)
   case atStart=>exact ⟨n - 3,by omega,by omega,rfl,B1⟩
   case round =>
    clear B1
    obtain ⟨j,j0,j1,rfl,B1⟩:=hrel
    by_cases hj:j≤n+3
    ·clear j1
     obtain ⟨s,q,O,cj⟩:∃ s q:Int,((q=0∧(s==wd)=false)∨q=4)∧Calls Tryz.prog 112 #[.int .i64 j] wr fun e w'=>e= .returned (.tuple #[.int .i64 s,.int .i64 q])∧Below wr.heap.size wr w':=by
      by_cases c:j=u
      ·subst c;exact ⟨0,4,.inr rfl,CE.out wr⟩
      ·exact CN.out j wr c j0 hj
     rcases O with ⟨rfl,sw⟩|rfl
     all_goals
      go_wp2_with fail
      refine cj.mono ?_
      rintro e w2 ⟨rfl,hb⟩
      replace B1:=bthen B1 hb
      clear hb cj
      go_wp2
      go_roundw
      case rel=>exact ⟨j+1,by omega,by omega,rfl,B1⟩
      case measure=>simp [intOf];omega
    ·obtain rfl:j=n+4:=by omega
     clear hj j0 j1
     have hj':decide (n+4≤n+3)=false:=decide_eq_false (by omega)
     go_wp2
     go_ret2
     exact ⟨rfl,B1⟩
 ·have cl:=fun w=>rLength_any y m (mlen y m) 0 w (.inl ⟨ok,rfl,rfl⟩)
  have h':wd<1∨(1≤wd∧7<wd):=by omega
  clear h ok
  generalize mlen y m=l at cl
  rcases h' with h|⟨h,h2⟩
  all_goals
   go_enter Tryz.func111,Tryz.ntmps111
   go_wp2_with fail
   refine (cl _).mono ?_
   rintro e w' ⟨rfl,rfl⟩
   go_wp2
   go_ret2
   exact ⟨rfl,Below.refl _ _⟩
 ·have cl:=fun w=>rLength_any y m 0 4 w (.inr ⟨no,rfl,rfl⟩)
  clear no
  go_enter Tryz.func111,Tryz.ntmps111
  go_wp2_with fail
  refine (cl _).mono ?_
  rintro e w' ⟨rfl,rfl⟩
  go_wp2
  go_ret2
  exact ⟨rfl,Below.refl _ _⟩

end Go.Proofs.YtoilomigceijaaaGreatDoor.Er

