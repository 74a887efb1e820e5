/- Texts that are joined: Hrend, Irm, Irsp. -/
import Derived.Maps.AppendAt
import Derived.Maps.OwnIn
import Derived.Test.YtoilomigceijaaaGreatDoorQrJW
import Derived.Test.YtoilomigceijaaaGreatDoorQrHquar
import Derived.Test.YtoilomigceijaaaGreatDoorQrArend
import Derived.Test.YtoilomigceijaaaGreatDoorQrHrm
import Derived.Test.YtoilomigceijaaaGreatDoorQrProw2
import Derived.Test.YtoilomigceijaaaGreatDoorQrJP
import Derived.Lib.MinMax
import Derived.Test.YtoilomigceijaaaGreatDoorQrJD
set_option linter.unusedSimpArgs false
set_option linter.unusedVariables false
namespace Go.Proofs.YtoilomigceijaaaGreatDoor.Hr
open Go.RowKit Go.Maps Bn Bx Cp Am Fp Ap Ar Cm Em Ep Rk Hp

set_option maxHeartbeats 8000000

set_option maxRecDepth 100000 in
theorem rtold15_any (c:CalZ)(y v er:Int)(w:World)(R:StartA c y v er)(K:ChkSays c)(T:FTab w) :
  Calls Tryz.prog 64 #[.agg #[.string c.nm,.int .i64 c.k,.int .i64 c.d,.int .i64 c.m,.int .i64 c.s,.int .i64 c.sh,.int .i64 c.p0,.int .i64 c.p1,.int .i64 c.p2,.int .i64 c.cy,.int .i64 c.ex,.int .i64 c.fi,.int .i64 c.la,.int .i64 c.po],.int .i64 y] w fun e w'=>e= .returned (.int .i64 er)∧Below w.heap.size w w':=by
 have C:=CalIn.new w c 24
 have B:=balloc (Below.refl _ w) (.cells #[.string c.nm,.int .i64 c.k,.int .i64 c.d,.int .i64 c.m,.int .i64 c.s,.int .i64 c.sh,.int .i64 c.p0,.int .i64 c.p1,.int .i64 c.p2,.int .i64 c.cy,.int .i64 c.ex,.int .i64 c.fi,.int .i64 c.la,.int .i64 c.po] 24)
 replace T:=T.alloc (.cells #[.string c.nm,.int .i64 c.k,.int .i64 c.d,.int .i64 c.m,.int .i64 c.s,.int .i64 c.sh,.int .i64 c.p0,.int .i64 c.p1,.int .i64 c.p2,.int .i64 c.cy,.int .i64 c.ex,.int .i64 c.fi,.int .i64 c.la,.int .i64 c.po] 24)
 have cs:=fun w=>rStart_any c y v er w R K
 go_enter Tryz.func64,Tryz.ntmps64
 go_upto_region 1 with fail
 generalize w.alloc (.cells #[.string c.nm,.int .i64 c.k,.int .i64 c.d,.int .i64 c.m,.int .i64 c.s,.int .i64 c.sh,.int .i64 c.p0,.int .i64 c.p1,.int .i64 c.p2,.int .i64 c.cy,.int .i64 c.ex,.int .i64 c.fi,.int .i64 c.la,.int .i64 c.po] 24)=W0 at *
 obtain ⟨_,c0,c1,c2,c3,c4,c5,c6,c7,c8,c9,c10,c11,c12,c13⟩:=id C
 go_wp2_with fail
 refine (cs _).mono ?_
 rintro e w1 ⟨rfl,hb⟩
 replace C:=C.kept hb
 replace B:=bthen B hb
 replace T:=T.kept hb
 clear hb c0 c1 c2 c3 c4 c5 c6 c7 c8 c9 c10 c11 c12 c13 
 obtain ⟨_,c0,c1,c2,c3,c4,c5,c6,c7,c8,c9,c10,c11,c12,c13⟩:=id C
 go_wp2
 go_ret
 exact ⟨rfl,B⟩

set_option maxRecDepth 100000 in
theorem rends_broad (c:CalZ)(y:Int)(n:Nat)(w:World)(ok:CalOk c)(y0:1601≤y)(y1:y≤9997)(hn:(n:Int)=per c)(K:ChkSays c)(hm:c.nm.size≤maxLen)(T:FTab w)(sh:c.sh=4) :
  Calls Tryz.prog 32 #[.agg #[.string c.nm,.int .i64 c.k,.int .i64 c.d,.int .i64 c.m,.int .i64 c.s,.int .i64 c.sh,.int .i64 c.p0,.int .i64 c.p1,.int .i64 c.p2,.int .i64 c.cy,.int .i64 c.ex,.int .i64 c.fi,.int .i64 c.la,.int .i64 c.po],.int .i64 y] w (IntsOut w n (fend c y)):=by
 obtain ⟨i1,hi,hz0,hz1,hz2⟩:=info_parts hinfoN
 have C:=CalIn.new w c 24
 have B:=balloc (Below.refl _ w) (.cells #[.string c.nm,.int .i64 c.k,.int .i64 c.d,.int .i64 c.m,.int .i64 c.s,.int .i64 c.sh,.int .i64 c.p0,.int .i64 c.p1,.int .i64 c.p2,.int .i64 c.cy,.int .i64 c.ex,.int .i64 c.fi,.int .i64 c.la,.int .i64 c.po] 24)
 replace T:=T.alloc (.cells #[.string c.nm,.int .i64 c.k,.int .i64 c.d,.int .i64 c.m,.int .i64 c.s,.int .i64 c.sh,.int .i64 c.p0,.int .i64 c.p1,.int .i64 c.p2,.int .i64 c.cy,.int .i64 c.ex,.int .i64 c.fi,.int .i64 c.la,.int .i64 c.po] 24)
 have pb:per c=12:=by
  rcases sh_cases ok.1 with ⟨_,e⟩|⟨s,_⟩|⟨s,_⟩
  ·exact e
  ·omega
  ·exact absurd sh s
 obtain rfl:n=12:=by omega
 have ct:=fun w T=>rtold15_any c y _ 0 w (.inl ⟨ok,y0,y1,rfl,rfl⟩) K T
 have HL:Hid (∀ k:Nat,k<12→∃ v:Int,fend c y k=v∧∀ w,Calls Tryz.prog 65 #[.int .i64 y,.int .i64 ((k:Int)+1),.int .i64 7] w fun e w'=>e= .returned (.tuple #[.int .i64 v,.int .i64 0])∧Below w.heap.size w w') :=
  Lib.hid (fun k hk=>⟨_,rfl,fun w=>Er.rLast_any y ((k:Int)+1) 7 _ 0 w (broad_last ok.1 sh y0 y1 (by omega) (by omega))⟩)
 have s4:(c.sh==4)=true:=beq_iff_eq.2 sh
 clear ok hn pb sh K
 go_enter Tryz.func32,Tryz.ntmps32
 go_upto_region 1 with fail
 generalize w.alloc (.cells #[.string c.nm,.int .i64 c.k,.int .i64 c.d,.int .i64 c.m,.int .i64 c.s,.int .i64 c.sh,.int .i64 c.p0,.int .i64 c.p1,.int .i64 c.p2,.int .i64 c.cy,.int .i64 c.ex,.int .i64 c.fi,.int .i64 c.la,.int .i64 c.po] 24)=W0 at *
 obtain ⟨_,c0,c1,c2,c3,c4,c5,c6,c7,c8,c9,c10,c11,c12,c13⟩:=id C
 go_wp2_with fail
 refine (ct _ T).mono ?_
 rintro e w1 ⟨rfl,hb⟩
 replace C:=C.kept hb
 replace B:=bthen B hb
 replace T:=T.kept hb
 clear hb c0 c1 c2 c3 c4 c5 c6 c7 c8 c9 c10 c11 c12 c13 
 obtain ⟨_,c0,c1,c2,c3,c4,c5,c6,c7,c8,c9,c10,c11,c12,c13⟩:=id C
 go_wp2
 go_loopw [7,8] (fun Z Y wr=>∃ k:Nat,k≤12∧Y= .int .i64 ((k:Int)+1)∧One1 3 w1 wr Z k (fend c y)) (fun _ Y _=>(13 - intOf Y).toNat)
 case atStart=>exact ⟨0,by omega,rfl,One1.start _ _ (Below.refl _ _)⟩
 case round =>
  obtain ⟨k,kM,rfl,X⟩:=hrel
  by_cases hlt:k<12
  ·obtain ⟨v,hv,cl⟩:=HL.out k hlt
   have HV:=Lib.hid hv
   have kk:(k:Int)+1≤12:=by omega
   clear hv
   go_wp2_with fail
   refine (cl _).mono ?_
   rintro e w9 ⟨rfl,hb⟩
   have X9:=X.kept hb
   clear X hb cl
   go_wp2_with (first
    | (at_builtin;refine wpList_append_own_at _ rfl _ _ 74 rfl w1.heap.size 3 i1 (.int .i64 0) 1 8 hunderN hi hz0 hz1 hz2 rfl (by decide) _ k (lst (fend c y) k) rfl (X9.a.alloc _) ⟨_,0,none⟩ 1 1 [.int .i64 v] rfl rfl ?c1 ?c2 ?c3 ?c4 ?c5 ?m1))
   case c1 =>
    intro j u hj
    match j,hj with
    | 0,hj=>simp at hj;subst hj;simp [Addr.add,go_sem]
   case c2=>intro u hu;simp at hu;rcases hu with rfl;rfl
   case c3=>unfold maxLen;omega
   case c4=>omega
   case c5=>have z1:=X9.below.size;simp;omega
   case m1 =>
    intro v3 wz hown3 hg3 _ hat
    rw [← HV.out] at hown3
    have X4:=X9.next hown3 hg3
    go_wp2
    go_roundw
    case rel=>exact ⟨k+1,by omega,by go_num,X4⟩
    case measure=>simp [intOf];omega
  ·obtain rfl:k=12:=by omega
   have kk:¬ ((12:Nat):Int)+1≤12:=by omega
   have Q:=X.out (by omega)
   obtain ⟨g,cap,rfl,Q,le,_⟩:=Q
   have bb:=bthen B X.below
   have Z:IntsOut w 12 (fend c y) (.returned (.tuple #[.slice (some ⟨g,0,none⟩) 12 cap,.int .i64 0])) wr:=⟨g,cap,rfl,Q,by omega,bb⟩
   have HZ:=Lib.hid Z
   clear Z Q X bb
   go_wp2
   exact bodyPost_ret (v:=.tuple #[.slice (some ⟨g,0,none⟩) 12 cap,.int .i64 0]) (by simp [results,Tryz.results32,go_sem]) rfl HZ.out

set_option maxRecDepth 100000 in
theorem rends_month (c:CalZ)(y:Int)(n:Nat)(w:World)(ok:CalOk c)(y0:1601≤y)(y1:y≤9997)(hn:(n:Int)=per c)(K:ChkSays c)(hm:c.nm.size≤maxLen)(T:FTab w)(sh:c.sh=5) :
  Calls Tryz.prog 32 #[.agg #[.string c.nm,.int .i64 c.k,.int .i64 c.d,.int .i64 c.m,.int .i64 c.s,.int .i64 c.sh,.int .i64 c.p0,.int .i64 c.p1,.int .i64 c.p2,.int .i64 c.cy,.int .i64 c.ex,.int .i64 c.fi,.int .i64 c.la,.int .i64 c.po],.int .i64 y] w (IntsOut w n (fend c y)):=by
 obtain ⟨i1,hi,hz0,hz1,hz2⟩:=info_parts hinfoN
 have C:=CalIn.new w c 24
 have B:=balloc (Below.refl _ w) (.cells #[.string c.nm,.int .i64 c.k,.int .i64 c.d,.int .i64 c.m,.int .i64 c.s,.int .i64 c.sh,.int .i64 c.p0,.int .i64 c.p1,.int .i64 c.p2,.int .i64 c.cy,.int .i64 c.ex,.int .i64 c.fi,.int .i64 c.la,.int .i64 c.po] 24)
 replace T:=T.alloc (.cells #[.string c.nm,.int .i64 c.k,.int .i64 c.d,.int .i64 c.m,.int .i64 c.s,.int .i64 c.sh,.int .i64 c.p0,.int .i64 c.p1,.int .i64 c.p2,.int .i64 c.cy,.int .i64 c.ex,.int .i64 c.fi,.int .i64 c.la,.int .i64 c.po] 24)
 have pb:per c=12:=by
  rcases sh_cases ok.1 with ⟨s,e⟩|⟨_,e,_⟩|⟨_,s,_⟩
  ·omega
  ·exact e
  ·exact absurd sh s
 obtain rfl:n=12:=by omega
 have ct:=fun w T=>rtold15_any c y _ 0 w (.inl ⟨ok,y0,y1,rfl,rfl⟩) K T
 have z0:=pend_zero c y
 obtain ⟨s,hs⟩:∃ s,pend c y 0+1=s:=⟨_,rfl⟩
 have cs:=fun w=>rStart_any c y s 0 w (.inl ⟨ok,y0,y1,by rw [← hs,z0],rfl⟩) K
 have HL:Hid (∀ k:Nat,k<12→∃ Y M d q P v:Int,pend c y k=P∧fend c y k=v∧v=P+q∧28≤q∧q≤31∧0≤P∧P≤3068036∧pend c y ((k:Int)+1)=v∧(∀ w,Calls Tryz.prog 57 #[.int .i64 (P+1)] w fun e w'=>e= .returned (.tuple #[.agg #[.int .i64 Y,.int .i64 M,.int .i64 d],.int .i64 0])∧Below w.heap.size w w')∧
   ∀ w,Calls Tryz.prog 66 #[.int .i64 Y,.int .i64 M] w fun e w'=>e= .returned (.tuple #[.int .i64 q,.int .i64 0])∧Below w.heap.size w w') :=
  Lib.hid (fun k hk=>by
   obtain ⟨Y,M,d,q,h1,h2,h3,h4,h5⟩:=month_step (p:=(k:Int)+1) ok.1 sh y0 y1 (by omega) (by omega)
   rw [show (k:Int)+1 - 1=k by omega] at h1 h3
   have b0:=pend_bd ok.1 y0 y1 (p:=k) (by omega) (by omega)
   exact ⟨Y,M,d,q,_,_,rfl,rfl,h3,h4,h5,b0.1,b0.2,rfl,fun w=>Cr.rOf_any _ Y M d 0 w h1,fun w=>(Cr.rLength_any Y M q 0 w h2).mono (by rintro e w2 ⟨rfl,rfl⟩;exact ⟨rfl,Below.refl _ _⟩)⟩)
 have s4:(c.sh==4)=false:=beq_eq_false_iff_ne.2 (by omega)
 have s5:(c.sh==5)=true:=beq_iff_eq.2 sh
 have HS:=Lib.hid hs
 clear ok hn pb sh K z0 hs
 go_enter Tryz.func32,Tryz.ntmps32
 go_upto_region 1 with fail
 generalize w.alloc (.cells #[.string c.nm,.int .i64 c.k,.int .i64 c.d,.int .i64 c.m,.int .i64 c.s,.int .i64 c.sh,.int .i64 c.p0,.int .i64 c.p1,.int .i64 c.p2,.int .i64 c.cy,.int .i64 c.ex,.int .i64 c.fi,.int .i64 c.la,.int .i64 c.po] 24)=W0 at *
 obtain ⟨_,c0,c1,c2,c3,c4,c5,c6,c7,c8,c9,c10,c11,c12,c13⟩:=id C
 go_wp2_with fail
 refine (ct _ T).mono ?_
 rintro e w1 ⟨rfl,hb⟩
 replace C:=C.kept hb
 replace B:=bthen B hb
 replace T:=T.kept hb
 clear hb c0 c1 c2 c3 c4 c5 c6 c7 c8 c9 c10 c11 c12 c13 
 obtain ⟨_,c0,c1,c2,c3,c4,c5,c6,c7,c8,c9,c10,c11,c12,c13⟩:=id C
 go_wp2_with fail
 refine (cs _).mono ?_
 rintro e w2 ⟨rfl,hb⟩
 replace C:=C.kept hb
 replace B:=bthen B hb
 replace T:=T.kept hb
 clear hb c0 c1 c2 c3 c4 c5 c6 c7 c8 c9 c10 c11 c12 c13 
 obtain ⟨_,c0,c1,c2,c3,c4,c5,c6,c7,c8,c9,c10,c11,c12,c13⟩:=id C
 clear ct cs
 go_wp2
 go_loopw [7,11,58] (fun Z D Y wr=>∃ k:Nat,k≤12∧Y= .int .i64 (k:Int)∧D= .int .i64 (pend c y k+1)∧One1 3 w2 wr Z k (fend c y)) (fun _ _ Y _=>12 - (intOf Y).toNat)
 case atStart=>exact ⟨0,by omega,rfl,by rw [← HS.out];rfl,One1.start _ _ (Below.refl _ _)⟩
 case round =>
  obtain ⟨k,kM,rfl,rfl,X⟩:=hrel
  by_cases hlt:k<12
  ·obtain ⟨Y,M,d,q,P,v,hp,hv,hpq,q0,q1,P0,P1,hv2,co,cl⟩:=HL.out k hlt
   have HV:=Lib.hid (And.intro hv hv2)
   rw [hp]
   have kk:(k:Int)<12:=by omega
   obtain ⟨D2,e1⟩:∃ D2,P+1+q=D2:=⟨_,rfl⟩
   have e2:D2 - 1=v:=by omega
   have e3:D2=v+1:=by omega
   have HE:=Lib.hid e3
   have dd:0≤D2∧D2≤3068099:=by omega
   clear hv hv2 hp hpq e3
   go_wp2_with fail
   refine (co _).mono ?_
   rintro e w9 ⟨rfl,hb⟩
   have X9:=(X.kept hb).alloc (.cells #[.int .i64 Y,.int .i64 M,.int .i64 d] 104)
   have V:=Tri.new w9 (.int .i64 Y) (.int .i64 M) (.int .i64 d) 104
   clear X hb co
   go_upto_region 18 with fail
   generalize w9.alloc (.cells #[.int .i64 Y,.int .i64 M,.int .i64 d] 104)=W9 at *
   obtain ⟨_,v0,v1,v2,fv0,fv1,fv2⟩:=id V
   go_wp2_with fail
   refine (cl _).mono ?_
   rintro e w8 ⟨rfl,hb⟩
   replace X9:=X9.kept hb
   clear hb cl v0 v1 v2 fv0 fv1 fv2 V
   go_wp2_with (first
    | (at_builtin;refine wpList_append_own_at _ rfl _ _ 74 rfl w2.heap.size 3 i1 (.int .i64 0) 1 8 hunderN hi hz0 hz1 hz2 rfl (by decide) _ k (lst (fend c y) k) rfl (X9.a.alloc _) ⟨_,0,none⟩ 1 1 [.int .i64 v] rfl rfl ?c1 ?c2 ?c3 ?c4 ?c5 ?m1))
   case c1 =>
    intro j u hj
    match j,hj with
    | 0,hj=>simp at hj;subst hj;simp [Addr.add,go_sem]
   case c2=>intro u hu;simp at hu;rcases hu with rfl;rfl
   case c3=>unfold maxLen;omega
   case c4=>omega
   case c5=>have z1:=X9.below.size;simp;omega
   case m1 =>
    intro v3 wz hown3 hg3 _ hat
    rw [← HV.out.1] at hown3
    have X4:=X9.next hown3 hg3
    go_wp2
    go_roundw
    case rel=>exact ⟨k+1,by omega,by go_num,by rw [HE.out,← HV.out.2];rfl,X4⟩
    case measure=>simp [intOf];omega
  ·obtain rfl:k=12:=by omega
   have Q:=X.out (by omega)
   obtain ⟨g,cap,rfl,Q,le,_⟩:=Q
   have bb:=bthen B X.below
   have Z:IntsOut w 12 (fend c y) (.returned (.tuple #[.slice (some ⟨g,0,none⟩) 12 cap,.int .i64 0])) wr:=⟨g,cap,rfl,Q,by omega,bb⟩
   have HZ:=Lib.hid Z
   clear Z Q X bb
   go_wp2
   exact bodyPost_ret (v:=.tuple #[.slice (some ⟨g,0,none⟩) 12 cap,.int .i64 0]) (by simp [results,Tryz.results32,go_sem]) rfl HZ.out

set_option maxRecDepth 100000 in
theorem rends_cut1 (c:CalZ)(y:Int)(n:Nat)(w:World)(ok:CalOk c)(y0:1601≤y)(y1:y≤9997)(hn:(n:Int)=per c)(K:ChkSays c)(hm:c.nm.size≤maxLen)(T:FTab w)(k6:c.k≠6)(cu:CutOk c)(sh:c.sh=1) :
  Calls Tryz.prog 32 #[.agg #[.string c.nm,.int .i64 c.k,.int .i64 c.d,.int .i64 c.m,.int .i64 c.s,.int .i64 c.sh,.int .i64 c.p0,.int .i64 c.p1,.int .i64 c.p2,.int .i64 c.cy,.int .i64 c.ex,.int .i64 c.fi,.int .i64 c.la,.int .i64 c.po],.int .i64 y] w (IntsOut w n (fend c y)):=by
 obtain ⟨i1,hi,hz0,hz1,hz2⟩:=info_parts hinfoN
 have C:=CalIn.new w c 24
 have B:=balloc (Below.refl _ w) (.cells #[.string c.nm,.int .i64 c.k,.int .i64 c.d,.int .i64 c.m,.int .i64 c.s,.int .i64 c.sh,.int .i64 c.p0,.int .i64 c.p1,.int .i64 c.p2,.int .i64 c.cy,.int .i64 c.ex,.int .i64 c.fi,.int .i64 c.la,.int .i64 c.po] 24)
 replace T:=T.alloc (.cells #[.string c.nm,.int .i64 c.k,.int .i64 c.d,.int .i64 c.m,.int .i64 c.s,.int .i64 c.sh,.int .i64 c.p0,.int .i64 c.p1,.int .i64 c.p2,.int .i64 c.cy,.int .i64 c.ex,.int .i64 c.fi,.int .i64 c.la,.int .i64 c.po] 24)
 have ct:=fun w T=>rtold15_any c y _ 0 w (.inl ⟨ok,y0,y1,rfl,rfl⟩) K T
 have z0:=pend_zero c y
 obtain ⟨s,hs⟩:∃ s,pend c y 0+1=s:=⟨_,rfl⟩
 have cs:=fun w=>rStart_any c y s 0 w (.inl ⟨ok,y0,y1,by rw [← hs,z0],rfl⟩) K
 have cp:=fun w T=>Hl.rPeriods_any c n 0 w (.inl ⟨ok,hn,rfl⟩) hm T
 have cw:=fun w=>rWeeks_any c y (nweeks c y) 0 w (.inl ⟨ok,k6,y0,y1,rfl,rfl⟩) K
 have nw:=(nweeks_01 ok.1 k6 y0 (by omega)).1
 have pb:=per_bd ok.1
 have n4:c.sh≠4∧c.sh≠5:=by omega
 obtain ⟨wk,hwk⟩:∃ wk,nweeks c y=wk:=⟨_,rfl⟩
 have HL:Hid (∀ k:Nat,k<n→∃ P v q:Int,pend c y k=P∧fend c y k=v∧pend c y ((k:Int)+1)=v∧pat c ((k:Int)+1)=q∧1≤q∧q≤5∧0≤P∧P≤3068036∧0≤v∧v≤3068036∧((((k:Int)+1==c.ex)=false∧v=P+7*q)∨(((k:Int)+1==c.ex)=true∧(wk==53)=false∧v=P+7*q)∨(((k:Int)+1==c.ex)=true∧(wk==53)=true∧v=P+7*(q+1)))) :=
  Lib.hid (fun k hk=>by
   obtain ⟨h3,h4,h5⟩:=cut_step (p:=(k:Int)+1) ok.1 n4.1 n4.2 y0 y1 (by omega) (by omega)
   rw [show (k:Int)+1 - 1=k by omega] at h3
   have b0:=pend_bd ok.1 y0 y1 (p:=k) (by omega) (by omega)
   have b1:=pend_bd ok.1 y0 y1 (p:=(k:Int)+1) (by omega) (by omega)
   refine ⟨_,_,_,rfl,rfl,rfl,rfl,h4,h5,b0.1,b0.2,b1.1,b1.2,?_⟩
   unfold wkp at h3
   rw [hwk] at h3 nw
   by_cases q1:(k:Int)+1=c.ex
   ·rw [if_pos q1] at h3
    by_cases q2:wk=53
    ·exact .inr (.inr ⟨beq_iff_eq.2 q1,beq_iff_eq.2 q2,by show pend c y ((k:Int)+1)=_;omega⟩)
    ·exact .inr (.inl ⟨beq_iff_eq.2 q1,beq_eq_false_iff_ne.2 q2,by show pend c y ((k:Int)+1)=_;omega⟩)
   ·rw [if_neg q1] at h3
    exact .inl ⟨beq_eq_false_iff_ne.2 q1,by show pend c y ((k:Int)+1)=_;omega⟩)
 rw [hwk] at cw
 have s4:(c.sh==4)=false:=beq_eq_false_iff_ne.2 n4.1
 have s5:(c.sh==5)=false:=beq_eq_false_iff_ne.2 n4.2
 have s1:(c.sh==1)=true:=beq_iff_eq.2 sh
 have s3:(c.sh==3)=false:=beq_eq_false_iff_ne.2 (by omega)
 have HP:Hid (∀ k:Nat,∃ j:Nat,IntKind.i64.wrap (IntKind.i64.wrap ((k:Int)+1 - 1))=IntKind.i64.wrap (IntKind.i64.wrap ((k:Int)+1 - 1))∧j<3∧(k:Int)%3=(j:Int)∧((j=0∧pat c ((k:Int)+1)=c.p0)∨(j=1∧pat c ((k:Int)+1)=c.p1)∨(j=2∧pat c ((k:Int)+1)=c.p2))):=Lib.hid (fun k=>by
  refine ⟨k%3,rfl,by omega,by omega,?_⟩
  unfold pat
  rw [if_pos sh,show (k:Int)+1 - 1=k by omega]
  have:k%3=0∨k%3=1∨k%3=2:=by omega
  rcases this with e|e|e
  ·exact .inl ⟨e,by rw [if_pos (by omega)]⟩
  ·exact .inr (.inl ⟨e,by rw [if_neg (by omega),if_pos (by omega)]⟩)
  ·exact .inr (.inr ⟨e,by rw [if_neg (by omega),if_neg (by omega)]⟩))
 clear sh
 have HS:=Lib.hid hs
 have n52:(n:Int)≤52:=by omega
 have n12:(12:Int)≤(n:Int):=by omega
 clear hn pb K z0 hs nw ok k6 hwk n4 cu
 go_enter Tryz.func32,Tryz.ntmps32
 go_upto_region 1 with fail
 generalize w.alloc (.cells #[.string c.nm,.int .i64 c.k,.int .i64 c.d,.int .i64 c.m,.int .i64 c.s,.int .i64 c.sh,.int .i64 c.p0,.int .i64 c.p1,.int .i64 c.p2,.int .i64 c.cy,.int .i64 c.ex,.int .i64 c.fi,.int .i64 c.la,.int .i64 c.po] 24)=W0 at *
 obtain ⟨_,c0,c1,c2,c3,c4,c5,c6,c7,c8,c9,c10,c11,c12,c13⟩:=id C
 go_wp2_with fail
 refine (ct _ T).mono ?_
 rintro e w1 ⟨rfl,hb⟩
 replace C:=C.kept hb
 replace B:=bthen B hb
 replace T:=T.kept hb
 clear hb c0 c1 c2 c3 c4 c5 c6 c7 c8 c9 c10 c11 c12 c13 
 obtain ⟨_,c0,c1,c2,c3,c4,c5,c6,c7,c8,c9,c10,c11,c12,c13⟩:=id C
 go_wp2_with fail
 refine (cp _ T).mono ?_
 rintro e w2 ⟨rfl,hb⟩
 replace C:=C.kept hb
 replace B:=bthen B hb
 replace T:=T.kept hb
 clear hb c0 c1 c2 c3 c4 c5 c6 c7 c8 c9 c10 c11 c12 c13 
 obtain ⟨_,c0,c1,c2,c3,c4,c5,c6,c7,c8,c9,c10,c11,c12,c13⟩:=id C
 go_wp2_with fail
 refine (cw _).mono ?_
 rintro e w3 ⟨rfl,hb⟩
 replace C:=C.kept hb
 replace B:=bthen B hb
 replace T:=T.kept hb
 clear hb c0 c1 c2 c3 c4 c5 c6 c7 c8 c9 c10 c11 c12 c13 
 obtain ⟨_,c0,c1,c2,c3,c4,c5,c6,c7,c8,c9,c10,c11,c12,c13⟩:=id C
 go_wp2_with fail
 refine (cs _).mono ?_
 rintro e w4 ⟨rfl,hb⟩
 replace C:=C.kept hb
 replace B:=bthen B hb
 replace T:=T.kept hb
 clear hb c0 c1 c2 c3 c4 c5 c6 c7 c8 c9 c10 c11 c12 c13 
 obtain ⟨_,c0,c1,c2,c3,c4,c5,c6,c7,c8,c9,c10,c11,c12,c13⟩:=id C
 clear ct cs cp cw
 clear c0 c1 c2 c3 c4 c5 c6 c7 c8 c9 c10 c11 c12 c13 
 have HC:=C
 obtain ⟨_,c0,c1,c2,c3,c4,c5,c6,c7,c8,c9,c10,c11,c12,c13⟩:=id C
 go_wp2
 clear c0 c1 c2 c3 c4 c5 c6 c7 c8 c9 c10 c11 c12 c13
 go_loopw [7,21,23] (fun Z D Y wr=>∃ k:Nat,k≤n∧Y= .int .i64 ((k:Int)+1)∧D= .int .i64 (pend c y k+1)∧One1 3 w4 wr Z k (fend c y)) (fun _ _ Y _=>((n:Int)+1 - intOf Y).toNat)
 case atStart=>exact ⟨0,by omega,rfl,by rw [← HS.out];rfl,One1.start _ _ (Below.refl _ _)⟩
 case round =>
  obtain ⟨k,kM,rfl,rfl,X⟩:=hrel
  have C2:=C.kept X.below
  by_cases hlt:k<n
  ·obtain ⟨P,v,q,hp,hv,hv2,hq,q0,q1,P0,P1,v0,v1,OO⟩:=HL.out k hlt
   have HV:=Lib.hid (And.intro hv hv2)
   rw [hp]
   have kk:(k:Int)+1≤(n:Int):=by omega
   obtain ⟨_,c0,c1,c2,c3,c4,c5,c6,c7,c8,c9,c10,c11,c12,c13⟩:=id C2
   obtain ⟨j,_,j3,hj,hjc⟩:=HP.out k
   rw [hq] at hjc
   have cj:wr.cell? ⟨w.heap.size,6+j,none⟩=some (.int .i64 q):=by
    rcases hjc with ⟨rfl,rfl⟩|⟨rfl,rfl⟩|⟨rfl,rfl⟩
    ·exact c6
    ·exact c7
    ·exact c8
   have hr1:((k:Int)+1 - 1).tmod 3=(j:Int):=by rw [show (k:Int)+1 - 1=k by omega,Int.tmod_eq_emod_of_nonneg (by omega)];exact hj
   have hr2:(k:Int).tmod 3=(j:Int):=by rw [Int.tmod_eq_emod_of_nonneg (by omega)];exact hj
   have j33:(j:Int)<3:=by omega
   clear hjc hq
   clear hv hv2 hp C2
   rcases OO with ⟨o1,hpq⟩|⟨o1,o2,hpq⟩|⟨o1,o2,hpq⟩
   ·obtain ⟨D2,e1⟩:∃ D2,P+1+7*(q)=D2:=⟨_,rfl⟩
    have e2:D2 - 1=v:=by omega
    have HE:Hid (D2=v+1):=Lib.hid (by omega)
    have dd:0≤D2∧D2≤3068099:=by omega
    clear hpq
    go_wp2_with (first
     | (at_builtin;refine wpList_append_own_at _ rfl _ _ 74 rfl w4.heap.size 3 i1 (.int .i64 0) 1 8 hunderN hi hz0 hz1 hz2 rfl (by decide) _ k (lst (fend c y) k) rfl (X.a.alloc _) ⟨_,0,none⟩ 1 1 [.int .i64 v] rfl rfl ?c1 ?c2 ?c3 ?c4 ?c5 ?m1))
    case c1 =>
     intro j u hj
     match j,hj with
     | 0,hj=>simp at hj;subst hj;simp [Addr.add,go_sem]
    case c2=>intro u hu;simp at hu;rcases hu with rfl;rfl
    case c3=>unfold maxLen;omega
    case c4=>omega
    case c5=>have z1:=X.below.size;simp;omega
    case m1 =>
     intro v3 wz hown3 hg3 _ hat
     rw [← HV.out.1] at hown3
     have X4:=X.next hown3 hg3
     go_wp2
     go_roundw
     case rel=>exact ⟨k+1,by omega,by go_num,by rw [HE.out,← HV.out.2];rfl,X4⟩
     case measure=>simp [intOf];omega
   ·obtain ⟨D2,e1⟩:∃ D2,P+1+7*(q)=D2:=⟨_,rfl⟩
    have e2:D2 - 1=v:=by omega
    have HE:Hid (D2=v+1):=Lib.hid (by omega)
    have dd:0≤D2∧D2≤3068099:=by omega
    clear hpq
    go_wp2_with (first
     | (at_builtin;refine wpList_append_own_at _ rfl _ _ 74 rfl w4.heap.size 3 i1 (.int .i64 0) 1 8 hunderN hi hz0 hz1 hz2 rfl (by decide) _ k (lst (fend c y) k) rfl (X.a.alloc _) ⟨_,0,none⟩ 1 1 [.int .i64 v] rfl rfl ?c1 ?c2 ?c3 ?c4 ?c5 ?m1))
    case c1 =>
     intro j u hj
     match j,hj with
     | 0,hj=>simp at hj;subst hj;simp [Addr.add,go_sem]
    case c2=>intro u hu;simp at hu;rcases hu with rfl;rfl
    case c3=>unfold maxLen;omega
    case c4=>omega
    case c5=>have z1:=X.below.size;simp;omega
    case m1 =>
     intro v3 wz hown3 hg3 _ hat
     rw [← HV.out.1] at hown3
     have X4:=X.next hown3 hg3
     go_wp2
     go_roundw
     case rel=>exact ⟨k+1,by omega,by go_num,by rw [HE.out,← HV.out.2];rfl,X4⟩
     case measure=>simp [intOf];omega
   ·obtain ⟨D2,e1⟩:∃ D2,P+1+7*(q+1)=D2:=⟨_,rfl⟩
    have e2:D2 - 1=v:=by omega
    have HE:Hid (D2=v+1):=Lib.hid (by omega)
    have dd:0≤D2∧D2≤3068099:=by omega
    clear hpq
    go_wp2_with (first
     | (at_builtin;refine wpList_append_own_at _ rfl _ _ 74 rfl w4.heap.size 3 i1 (.int .i64 0) 1 8 hunderN hi hz0 hz1 hz2 rfl (by decide) _ k (lst (fend c y) k) rfl (X.a.alloc _) ⟨_,0,none⟩ 1 1 [.int .i64 v] rfl rfl ?c1 ?c2 ?c3 ?c4 ?c5 ?m1))
    case c1 =>
     intro j u hj
     match j,hj with
     | 0,hj=>simp at hj;subst hj;simp [Addr.add,go_sem]
    case c2=>intro u hu;simp at hu;rcases hu with rfl;rfl
    case c3=>unfold maxLen;omega
    case c4=>omega
    case c5=>have z1:=X.below.size;simp;omega
    case m1 =>
     intro v3 wz hown3 hg3 _ hat
     rw [← HV.out.1] at hown3
     have X4:=X.next hown3 hg3
     go_wp2
     go_roundw
     case rel=>exact ⟨k+1,by omega,by go_num,by rw [HE.out,← HV.out.2];rfl,X4⟩
     case measure=>simp [intOf];omega
  ·obtain rfl:k=n:=by omega
   have kk:¬ (k:Int)+1≤(k:Int):=by omega
   have Q:=X.out (by omega)
   obtain ⟨g,cap,rfl,Q,le,_⟩:=Q
   have bb:=bthen B X.below
   have Z:IntsOut w k (fend c y) (.returned (.tuple #[.slice (some ⟨g,0,none⟩) k cap,.int .i64 0])) wr:=⟨g,cap,rfl,Q,by omega,bb⟩
   have HZ:=Lib.hid Z
   clear Z Q X bb
   go_wp2
   exact bodyPost_ret (v:=.tuple #[.slice (some ⟨g,0,none⟩) k cap,.int .i64 0]) (by simp [results,Tryz.results32,go_sem]) rfl HZ.out

set_option maxRecDepth 100000 in
theorem rends_cut2 (c:CalZ)(y:Int)(n:Nat)(w:World)(ok:CalOk c)(y0:1601≤y)(y1:y≤9997)(hn:(n:Int)=per c)(K:ChkSays c)(hm:c.nm.size≤maxLen)(T:FTab w)(k6:c.k≠6)(cu:CutOk c)(sh:c.sh=2) :
  Calls Tryz.prog 32 #[.agg #[.string c.nm,.int .i64 c.k,.int .i64 c.d,.int .i64 c.m,.int .i64 c.s,.int .i64 c.sh,.int .i64 c.p0,.int .i64 c.p1,.int .i64 c.p2,.int .i64 c.cy,.int .i64 c.ex,.int .i64 c.fi,.int .i64 c.la,.int .i64 c.po],.int .i64 y] w (IntsOut w n (fend c y)):=by
 obtain ⟨i1,hi,hz0,hz1,hz2⟩:=info_parts hinfoN
 have C:=CalIn.new w c 24
 have B:=balloc (Below.refl _ w) (.cells #[.string c.nm,.int .i64 c.k,.int .i64 c.d,.int .i64 c.m,.int .i64 c.s,.int .i64 c.sh,.int .i64 c.p0,.int .i64 c.p1,.int .i64 c.p2,.int .i64 c.cy,.int .i64 c.ex,.int .i64 c.fi,.int .i64 c.la,.int .i64 c.po] 24)
 replace T:=T.alloc (.cells #[.string c.nm,.int .i64 c.k,.int .i64 c.d,.int .i64 c.m,.int .i64 c.s,.int .i64 c.sh,.int .i64 c.p0,.int .i64 c.p1,.int .i64 c.p2,.int .i64 c.cy,.int .i64 c.ex,.int .i64 c.fi,.int .i64 c.la,.int .i64 c.po] 24)
 have ct:=fun w T=>rtold15_any c y _ 0 w (.inl ⟨ok,y0,y1,rfl,rfl⟩) K T
 have z0:=pend_zero c y
 obtain ⟨s,hs⟩:∃ s,pend c y 0+1=s:=⟨_,rfl⟩
 have cs:=fun w=>rStart_any c y s 0 w (.inl ⟨ok,y0,y1,by rw [← hs,z0],rfl⟩) K
 have cp:=fun w T=>Hl.rPeriods_any c n 0 w (.inl ⟨ok,hn,rfl⟩) hm T
 have cw:=fun w=>rWeeks_any c y (nweeks c y) 0 w (.inl ⟨ok,k6,y0,y1,rfl,rfl⟩) K
 have nw:=(nweeks_01 ok.1 k6 y0 (by omega)).1
 have pb:=per_bd ok.1
 have n4:c.sh≠4∧c.sh≠5:=by omega
 obtain ⟨wk,hwk⟩:∃ wk,nweeks c y=wk:=⟨_,rfl⟩
 have HL:Hid (∀ k:Nat,k<n→∃ P v q:Int,pend c y k=P∧fend c y k=v∧pend c y ((k:Int)+1)=v∧pat c ((k:Int)+1)=q∧1≤q∧q≤5∧0≤P∧P≤3068036∧0≤v∧v≤3068036∧((((k:Int)+1==c.ex)=false∧v=P+7*q)∨(((k:Int)+1==c.ex)=true∧(wk==53)=false∧v=P+7*q)∨(((k:Int)+1==c.ex)=true∧(wk==53)=true∧v=P+7*(q+1)))) :=
  Lib.hid (fun k hk=>by
   obtain ⟨h3,h4,h5⟩:=cut_step (p:=(k:Int)+1) ok.1 n4.1 n4.2 y0 y1 (by omega) (by omega)
   rw [show (k:Int)+1 - 1=k by omega] at h3
   have b0:=pend_bd ok.1 y0 y1 (p:=k) (by omega) (by omega)
   have b1:=pend_bd ok.1 y0 y1 (p:=(k:Int)+1) (by omega) (by omega)
   refine ⟨_,_,_,rfl,rfl,rfl,rfl,h4,h5,b0.1,b0.2,b1.1,b1.2,?_⟩
   unfold wkp at h3
   rw [hwk] at h3 nw
   by_cases q1:(k:Int)+1=c.ex
   ·rw [if_pos q1] at h3
    by_cases q2:wk=53
    ·exact .inr (.inr ⟨beq_iff_eq.2 q1,beq_iff_eq.2 q2,by show pend c y ((k:Int)+1)=_;omega⟩)
    ·exact .inr (.inl ⟨beq_iff_eq.2 q1,beq_eq_false_iff_ne.2 q2,by show pend c y ((k:Int)+1)=_;omega⟩)
   ·rw [if_neg q1] at h3
    exact .inl ⟨beq_eq_false_iff_ne.2 q1,by show pend c y ((k:Int)+1)=_;omega⟩)
 rw [hwk] at cw
 have s4:(c.sh==4)=false:=beq_eq_false_iff_ne.2 n4.1
 have s5:(c.sh==5)=false:=beq_eq_false_iff_ne.2 n4.2
 have s1:(c.sh==1)=false:=beq_eq_false_iff_ne.2 (by omega)
 have s3:(c.sh==3)=false:=beq_eq_false_iff_ne.2 (by omega)
 have HP:Hid (∀ p:Int,pat c p=4):=Lib.hid (fun p=>by unfold pat;rw [if_neg (by omega),if_pos sh])
 clear sh
 have HS:=Lib.hid hs
 have n52:(n:Int)≤52:=by omega
 have n12:(12:Int)≤(n:Int):=by omega
 clear hn pb K z0 hs nw ok k6 hwk n4 cu
 go_enter Tryz.func32,Tryz.ntmps32
 go_upto_region 1 with fail
 generalize w.alloc (.cells #[.string c.nm,.int .i64 c.k,.int .i64 c.d,.int .i64 c.m,.int .i64 c.s,.int .i64 c.sh,.int .i64 c.p0,.int .i64 c.p1,.int .i64 c.p2,.int .i64 c.cy,.int .i64 c.ex,.int .i64 c.fi,.int .i64 c.la,.int .i64 c.po] 24)=W0 at *
 obtain ⟨_,c0,c1,c2,c3,c4,c5,c6,c7,c8,c9,c10,c11,c12,c13⟩:=id C
 go_wp2_with fail
 refine (ct _ T).mono ?_
 rintro e w1 ⟨rfl,hb⟩
 replace C:=C.kept hb
 replace B:=bthen B hb
 replace T:=T.kept hb
 clear hb c0 c1 c2 c3 c4 c5 c6 c7 c8 c9 c10 c11 c12 c13 
 obtain ⟨_,c0,c1,c2,c3,c4,c5,c6,c7,c8,c9,c10,c11,c12,c13⟩:=id C
 go_wp2_with fail
 refine (cp _ T).mono ?_
 rintro e w2 ⟨rfl,hb⟩
 replace C:=C.kept hb
 replace B:=bthen B hb
 replace T:=T.kept hb
 clear hb c0 c1 c2 c3 c4 c5 c6 c7 c8 c9 c10 c11 c12 c13 
 obtain ⟨_,c0,c1,c2,c3,c4,c5,c6,c7,c8,c9,c10,c11,c12,c13⟩:=id C
 go_wp2_with fail
 refine (cw _).mono ?_
 rintro e w3 ⟨rfl,hb⟩
 replace C:=C.kept hb
 replace B:=bthen B hb
 replace T:=T.kept hb
 clear hb c0 c1 c2 c3 c4 c5 c6 c7 c8 c9 c10 c11 c12 c13 
 obtain ⟨_,c0,c1,c2,c3,c4,c5,c6,c7,c8,c9,c10,c11,c12,c13⟩:=id C
 go_wp2_with fail
 refine (cs _).mono ?_
 rintro e w4 ⟨rfl,hb⟩
 replace C:=C.kept hb
 replace B:=bthen B hb
 replace T:=T.kept hb
 clear hb c0 c1 c2 c3 c4 c5 c6 c7 c8 c9 c10 c11 c12 c13 
 obtain ⟨_,c0,c1,c2,c3,c4,c5,c6,c7,c8,c9,c10,c11,c12,c13⟩:=id C
 clear ct cs cp cw
 clear c0 c1 c2 c3 c4 c5 c6 c7 c8 c9 c10 c11 c12 c13 
 have HC:=C
 obtain ⟨_,c0,c1,c2,c3,c4,c5,c6,c7,c8,c9,c10,c11,c12,c13⟩:=id C
 go_wp2
 clear c0 c1 c2 c3 c4 c5 c6 c7 c8 c9 c10 c11 c12 c13
 go_loopw [7,21,23] (fun Z D Y wr=>∃ k:Nat,k≤n∧Y= .int .i64 ((k:Int)+1)∧D= .int .i64 (pend c y k+1)∧One1 3 w4 wr Z k (fend c y)) (fun _ _ Y _=>((n:Int)+1 - intOf Y).toNat)
 case atStart=>exact ⟨0,by omega,rfl,by rw [← HS.out];rfl,One1.start _ _ (Below.refl _ _)⟩
 case round =>
  obtain ⟨k,kM,rfl,rfl,X⟩:=hrel
  have C2:=C.kept X.below
  by_cases hlt:k<n
  ·obtain ⟨P,v,q,hp,hv,hv2,hq,q0,q1,P0,P1,v0,v1,OO⟩:=HL.out k hlt
   have HV:=Lib.hid (And.intro hv hv2)
   rw [hp]
   have kk:(k:Int)+1≤(n:Int):=by omega
   obtain ⟨_,c0,c1,c2,c3,c4,c5,c6,c7,c8,c9,c10,c11,c12,c13⟩:=id C2
   have hq4:=HP.out ((k:Int)+1)
   rw [hq] at hq4
   subst hq4
   clear hq
   clear hv hv2 hp C2
   rcases OO with ⟨o1,hpq⟩|⟨o1,o2,hpq⟩|⟨o1,o2,hpq⟩
   ·obtain ⟨D2,e1⟩:∃ D2,P+1+28=D2:=⟨_,rfl⟩
    have e2:D2 - 1=v:=by omega
    have HE:Hid (D2=v+1):=Lib.hid (by omega)
    have dd:0≤D2∧D2≤3068099:=by omega
    clear hpq
    go_wp2_with (first
     | (at_builtin;refine wpList_append_own_at _ rfl _ _ 74 rfl w4.heap.size 3 i1 (.int .i64 0) 1 8 hunderN hi hz0 hz1 hz2 rfl (by decide) _ k (lst (fend c y) k) rfl (X.a.alloc _) ⟨_,0,none⟩ 1 1 [.int .i64 v] rfl rfl ?c1 ?c2 ?c3 ?c4 ?c5 ?m1))
    case c1 =>
     intro j u hj
     match j,hj with
     | 0,hj=>simp at hj;subst hj;simp [Addr.add,go_sem]
    case c2=>intro u hu;simp at hu;rcases hu with rfl;rfl
    case c3=>unfold maxLen;omega
    case c4=>omega
    case c5=>have z1:=X.below.size;simp;omega
    case m1 =>
     intro v3 wz hown3 hg3 _ hat
     rw [← HV.out.1] at hown3
     have X4:=X.next hown3 hg3
     go_wp2
     go_roundw
     case rel=>exact ⟨k+1,by omega,by go_num,by rw [HE.out,← HV.out.2];rfl,X4⟩
     case measure=>simp [intOf];omega
   ·obtain ⟨D2,e1⟩:∃ D2,P+1+28=D2:=⟨_,rfl⟩
    have e2:D2 - 1=v:=by omega
    have HE:Hid (D2=v+1):=Lib.hid (by omega)
    have dd:0≤D2∧D2≤3068099:=by omega
    clear hpq
    go_wp2_with (first
     | (at_builtin;refine wpList_append_own_at _ rfl _ _ 74 rfl w4.heap.size 3 i1 (.int .i64 0) 1 8 hunderN hi hz0 hz1 hz2 rfl (by decide) _ k (lst (fend c y) k) rfl (X.a.alloc _) ⟨_,0,none⟩ 1 1 [.int .i64 v] rfl rfl ?c1 ?c2 ?c3 ?c4 ?c5 ?m1))
    case c1 =>
     intro j u hj
     match j,hj with
     | 0,hj=>simp at hj;subst hj;simp [Addr.add,go_sem]
    case c2=>intro u hu;simp at hu;rcases hu with rfl;rfl
    case c3=>unfold maxLen;omega
    case c4=>omega
    case c5=>have z1:=X.below.size;simp;omega
    case m1 =>
     intro v3 wz hown3 hg3 _ hat
     rw [← HV.out.1] at hown3
     have X4:=X.next hown3 hg3
     go_wp2
     go_roundw
     case rel=>exact ⟨k+1,by omega,by go_num,by rw [HE.out,← HV.out.2];rfl,X4⟩
     case measure=>simp [intOf];omega
   ·obtain ⟨D2,e1⟩:∃ D2,P+1+35=D2:=⟨_,rfl⟩
    have e2:D2 - 1=v:=by omega
    have HE:Hid (D2=v+1):=Lib.hid (by omega)
    have dd:0≤D2∧D2≤3068099:=by omega
    clear hpq
    go_wp2_with (first
     | (at_builtin;refine wpList_append_own_at _ rfl _ _ 74 rfl w4.heap.size 3 i1 (.int .i64 0) 1 8 hunderN hi hz0 hz1 hz2 rfl (by decide) _ k (lst (fend c y) k) rfl (X.a.alloc _) ⟨_,0,none⟩ 1 1 [.int .i64 v] rfl rfl ?c1 ?c2 ?c3 ?c4 ?c5 ?m1))
    case c1 =>
     intro j u hj
     match j,hj with
     | 0,hj=>simp at hj;subst hj;simp [Addr.add,go_sem]
    case c2=>intro u hu;simp at hu;rcases hu with rfl;rfl
    case c3=>unfold maxLen;omega
    case c4=>omega
    case c5=>have z1:=X.below.size;simp;omega
    case m1 =>
     intro v3 wz hown3 hg3 _ hat
     rw [← HV.out.1] at hown3
     have X4:=X.next hown3 hg3
     go_wp2
     go_roundw
     case rel=>exact ⟨k+1,by omega,by go_num,by rw [HE.out,← HV.out.2];rfl,X4⟩
     case measure=>simp [intOf];omega
  ·obtain rfl:k=n:=by omega
   have kk:¬ (k:Int)+1≤(k:Int):=by omega
   have Q:=X.out (by omega)
   obtain ⟨g,cap,rfl,Q,le,_⟩:=Q
   have bb:=bthen B X.below
   have Z:IntsOut w k (fend c y) (.returned (.tuple #[.slice (some ⟨g,0,none⟩) k cap,.int .i64 0])) wr:=⟨g,cap,rfl,Q,by omega,bb⟩
   have HZ:=Lib.hid Z
   clear Z Q X bb
   go_wp2
   exact bodyPost_ret (v:=.tuple #[.slice (some ⟨g,0,none⟩) k cap,.int .i64 0]) (by simp [results,Tryz.results32,go_sem]) rfl HZ.out

set_option maxRecDepth 100000 in
theorem rends_cut3 (c:CalZ)(y:Int)(n:Nat)(w:World)(ok:CalOk c)(y0:1601≤y)(y1:y≤9997)(hn:(n:Int)=per c)(K:ChkSays c)(hm:c.nm.size≤maxLen)(T:FTab w)(k6:c.k≠6)(cu:CutOk c)(sh:c.sh=3) :
  Calls Tryz.prog 32 #[.agg #[.string c.nm,.int .i64 c.k,.int .i64 c.d,.int .i64 c.m,.int .i64 c.s,.int .i64 c.sh,.int .i64 c.p0,.int .i64 c.p1,.int .i64 c.p2,.int .i64 c.cy,.int .i64 c.ex,.int .i64 c.fi,.int .i64 c.la,.int .i64 c.po],.int .i64 y] w (IntsOut w n (fend c y)):=by
 obtain ⟨i1,hi,hz0,hz1,hz2⟩:=info_parts hinfoN
 have C:=CalIn.new w c 24
 have B:=balloc (Below.refl _ w) (.cells #[.string c.nm,.int .i64 c.k,.int .i64 c.d,.int .i64 c.m,.int .i64 c.s,.int .i64 c.sh,.int .i64 c.p0,.int .i64 c.p1,.int .i64 c.p2,.int .i64 c.cy,.int .i64 c.ex,.int .i64 c.fi,.int .i64 c.la,.int .i64 c.po] 24)
 replace T:=T.alloc (.cells #[.string c.nm,.int .i64 c.k,.int .i64 c.d,.int .i64 c.m,.int .i64 c.s,.int .i64 c.sh,.int .i64 c.p0,.int .i64 c.p1,.int .i64 c.p2,.int .i64 c.cy,.int .i64 c.ex,.int .i64 c.fi,.int .i64 c.la,.int .i64 c.po] 24)
 have ct:=fun w T=>rtold15_any c y _ 0 w (.inl ⟨ok,y0,y1,rfl,rfl⟩) K T
 have z0:=pend_zero c y
 obtain ⟨s,hs⟩:∃ s,pend c y 0+1=s:=⟨_,rfl⟩
 have cs:=fun w=>rStart_any c y s 0 w (.inl ⟨ok,y0,y1,by rw [← hs,z0],rfl⟩) K
 have cp:=fun w T=>Hl.rPeriods_any c n 0 w (.inl ⟨ok,hn,rfl⟩) hm T
 have cw:=fun w=>rWeeks_any c y (nweeks c y) 0 w (.inl ⟨ok,k6,y0,y1,rfl,rfl⟩) K
 have nw:=(nweeks_01 ok.1 k6 y0 (by omega)).1
 have pb:=per_bd ok.1
 have n4:c.sh≠4∧c.sh≠5:=by omega
 obtain ⟨wk,hwk⟩:∃ wk,nweeks c y=wk:=⟨_,rfl⟩
 have HL:Hid (∀ k:Nat,k<n→∃ P v q:Int,pend c y k=P∧fend c y k=v∧pend c y ((k:Int)+1)=v∧pat c ((k:Int)+1)=q∧1≤q∧q≤5∧0≤P∧P≤3068036∧0≤v∧v≤3068036∧((((k:Int)+1==c.ex)=false∧v=P+7*q)∨(((k:Int)+1==c.ex)=true∧(wk==53)=false∧v=P+7*q)∨(((k:Int)+1==c.ex)=true∧(wk==53)=true∧v=P+7*(q+1)))) :=
  Lib.hid (fun k hk=>by
   obtain ⟨h3,h4,h5⟩:=cut_step (p:=(k:Int)+1) ok.1 n4.1 n4.2 y0 y1 (by omega) (by omega)
   rw [show (k:Int)+1 - 1=k by omega] at h3
   have b0:=pend_bd ok.1 y0 y1 (p:=k) (by omega) (by omega)
   have b1:=pend_bd ok.1 y0 y1 (p:=(k:Int)+1) (by omega) (by omega)
   refine ⟨_,_,_,rfl,rfl,rfl,rfl,h4,h5,b0.1,b0.2,b1.1,b1.2,?_⟩
   unfold wkp at h3
   rw [hwk] at h3 nw
   by_cases q1:(k:Int)+1=c.ex
   ·rw [if_pos q1] at h3
    by_cases q2:wk=53
    ·exact .inr (.inr ⟨beq_iff_eq.2 q1,beq_iff_eq.2 q2,by show pend c y ((k:Int)+1)=_;omega⟩)
    ·exact .inr (.inl ⟨beq_iff_eq.2 q1,beq_eq_false_iff_ne.2 q2,by show pend c y ((k:Int)+1)=_;omega⟩)
   ·rw [if_neg q1] at h3
    exact .inl ⟨beq_eq_false_iff_ne.2 q1,by show pend c y ((k:Int)+1)=_;omega⟩)
 rw [hwk] at cw
 have s4:(c.sh==4)=false:=beq_eq_false_iff_ne.2 n4.1
 have s5:(c.sh==5)=false:=beq_eq_false_iff_ne.2 n4.2
 have s1:(c.sh==1)=false:=beq_eq_false_iff_ne.2 (by omega)
 have s3:(c.sh==3)=true:=beq_iff_eq.2 sh
 have HP:Hid (∀ p:Int,pat c p=c.cy):=Lib.hid (fun p=>by unfold pat;rw [if_neg (by omega),if_neg (by omega)])
 clear sh
 have HS:=Lib.hid hs
 have n52:(n:Int)≤52:=by omega
 have n12:(12:Int)≤(n:Int):=by omega
 clear hn pb K z0 hs nw ok k6 hwk n4 cu
 go_enter Tryz.func32,Tryz.ntmps32
 go_upto_region 1 with fail
 generalize w.alloc (.cells #[.string c.nm,.int .i64 c.k,.int .i64 c.d,.int .i64 c.m,.int .i64 c.s,.int .i64 c.sh,.int .i64 c.p0,.int .i64 c.p1,.int .i64 c.p2,.int .i64 c.cy,.int .i64 c.ex,.int .i64 c.fi,.int .i64 c.la,.int .i64 c.po] 24)=W0 at *
 obtain ⟨_,c0,c1,c2,c3,c4,c5,c6,c7,c8,c9,c10,c11,c12,c13⟩:=id C
 go_wp2_with fail
 refine (ct _ T).mono ?_
 rintro e w1 ⟨rfl,hb⟩
 replace C:=C.kept hb
 replace B:=bthen B hb
 replace T:=T.kept hb
 clear hb c0 c1 c2 c3 c4 c5 c6 c7 c8 c9 c10 c11 c12 c13 
 obtain ⟨_,c0,c1,c2,c3,c4,c5,c6,c7,c8,c9,c10,c11,c12,c13⟩:=id C
 go_wp2_with fail
 refine (cp _ T).mono ?_
 rintro e w2 ⟨rfl,hb⟩
 replace C:=C.kept hb
 replace B:=bthen B hb
 replace T:=T.kept hb
 clear hb c0 c1 c2 c3 c4 c5 c6 c7 c8 c9 c10 c11 c12 c13 
 obtain ⟨_,c0,c1,c2,c3,c4,c5,c6,c7,c8,c9,c10,c11,c12,c13⟩:=id C
 go_wp2_with fail
 refine (cw _).mono ?_
 rintro e w3 ⟨rfl,hb⟩
 replace C:=C.kept hb
 replace B:=bthen B hb
 replace T:=T.kept hb
 clear hb c0 c1 c2 c3 c4 c5 c6 c7 c8 c9 c10 c11 c12 c13 
 obtain ⟨_,c0,c1,c2,c3,c4,c5,c6,c7,c8,c9,c10,c11,c12,c13⟩:=id C
 go_wp2_with fail
 refine (cs _).mono ?_
 rintro e w4 ⟨rfl,hb⟩
 replace C:=C.kept hb
 replace B:=bthen B hb
 replace T:=T.kept hb
 clear hb c0 c1 c2 c3 c4 c5 c6 c7 c8 c9 c10 c11 c12 c13 
 obtain ⟨_,c0,c1,c2,c3,c4,c5,c6,c7,c8,c9,c10,c11,c12,c13⟩:=id C
 clear ct cs cp cw
 clear c0 c1 c2 c3 c4 c5 c6 c7 c8 c9 c10 c11 c12 c13 
 have HC:=C
 obtain ⟨_,c0,c1,c2,c3,c4,c5,c6,c7,c8,c9,c10,c11,c12,c13⟩:=id C
 go_wp2
 clear c0 c1 c2 c3 c4 c5 c6 c7 c8 c9 c10 c11 c12 c13
 go_loopw [7,21,23] (fun Z D Y wr=>∃ k:Nat,k≤n∧Y= .int .i64 ((k:Int)+1)∧D= .int .i64 (pend c y k+1)∧One1 3 w4 wr Z k (fend c y)) (fun _ _ Y _=>((n:Int)+1 - intOf Y).toNat)
 case atStart=>exact ⟨0,by omega,rfl,by rw [← HS.out];rfl,One1.start _ _ (Below.refl _ _)⟩
 case round =>
  obtain ⟨k,kM,rfl,rfl,X⟩:=hrel
  have C2:=C.kept X.below
  by_cases hlt:k<n
  ·obtain ⟨P,v,q,hp,hv,hv2,hq,q0,q1,P0,P1,v0,v1,OO⟩:=HL.out k hlt
   have HV:=Lib.hid (And.intro hv hv2)
   rw [hp]
   have kk:(k:Int)+1≤(n:Int):=by omega
   obtain ⟨_,c0,c1,c2,c3,c4,c5,c6,c7,c8,c9,c10,c11,c12,c13⟩:=id C2
   have hq4:=HP.out ((k:Int)+1)
   rw [hq] at hq4
   rw [← hq4] at c9
   clear hq hq4
   clear hv hv2 hp C2
   rcases OO with ⟨o1,hpq⟩|⟨o1,o2,hpq⟩|⟨o1,o2,hpq⟩
   ·obtain ⟨D2,e1⟩:∃ D2,P+1+7*(q)=D2:=⟨_,rfl⟩
    have e2:D2 - 1=v:=by omega
    have HE:Hid (D2=v+1):=Lib.hid (by omega)
    have dd:0≤D2∧D2≤3068099:=by omega
    clear hpq
    go_wp2_with (first
     | (at_builtin;refine wpList_append_own_at _ rfl _ _ 74 rfl w4.heap.size 3 i1 (.int .i64 0) 1 8 hunderN hi hz0 hz1 hz2 rfl (by decide) _ k (lst (fend c y) k) rfl (X.a.alloc _) ⟨_,0,none⟩ 1 1 [.int .i64 v] rfl rfl ?c1 ?c2 ?c3 ?c4 ?c5 ?m1))
    case c1 =>
     intro j u hj
     match j,hj with
     | 0,hj=>simp at hj;subst hj;simp [Addr.add,go_sem]
    case c2=>intro u hu;simp at hu;rcases hu with rfl;rfl
    case c3=>unfold maxLen;omega
    case c4=>omega
    case c5=>have z1:=X.below.size;simp;omega
    case m1 =>
     intro v3 wz hown3 hg3 _ hat
     rw [← HV.out.1] at hown3
     have X4:=X.next hown3 hg3
     go_wp2
     go_roundw
     case rel=>exact ⟨k+1,by omega,by go_num,by rw [HE.out,← HV.out.2];rfl,X4⟩
     case measure=>simp [intOf];omega
   ·obtain ⟨D2,e1⟩:∃ D2,P+1+7*(q)=D2:=⟨_,rfl⟩
    have e2:D2 - 1=v:=by omega
    have HE:Hid (D2=v+1):=Lib.hid (by omega)
    have dd:0≤D2∧D2≤3068099:=by omega
    clear hpq
    go_wp2_with (first
     | (at_builtin;refine wpList_append_own_at _ rfl _ _ 74 rfl w4.heap.size 3 i1 (.int .i64 0) 1 8 hunderN hi hz0 hz1 hz2 rfl (by decide) _ k (lst (fend c y) k) rfl (X.a.alloc _) ⟨_,0,none⟩ 1 1 [.int .i64 v] rfl rfl ?c1 ?c2 ?c3 ?c4 ?c5 ?m1))
    case c1 =>
     intro j u hj
     match j,hj with
     | 0,hj=>simp at hj;subst hj;simp [Addr.add,go_sem]
    case c2=>intro u hu;simp at hu;rcases hu with rfl;rfl
    case c3=>unfold maxLen;omega
    case c4=>omega
    case c5=>have z1:=X.below.size;simp;omega
    case m1 =>
     intro v3 wz hown3 hg3 _ hat
     rw [← HV.out.1] at hown3
     have X4:=X.next hown3 hg3
     go_wp2
     go_roundw
     case rel=>exact ⟨k+1,by omega,by go_num,by rw [HE.out,← HV.out.2];rfl,X4⟩
     case measure=>simp [intOf];omega
   ·obtain ⟨D2,e1⟩:∃ D2,P+1+7*(q+1)=D2:=⟨_,rfl⟩
    have e2:D2 - 1=v:=by omega
    have HE:Hid (D2=v+1):=Lib.hid (by omega)
    have dd:0≤D2∧D2≤3068099:=by omega
    clear hpq
    go_wp2_with (first
     | (at_builtin;refine wpList_append_own_at _ rfl _ _ 74 rfl w4.heap.size 3 i1 (.int .i64 0) 1 8 hunderN hi hz0 hz1 hz2 rfl (by decide) _ k (lst (fend c y) k) rfl (X.a.alloc _) ⟨_,0,none⟩ 1 1 [.int .i64 v] rfl rfl ?c1 ?c2 ?c3 ?c4 ?c5 ?m1))
    case c1 =>
     intro j u hj
     match j,hj with
     | 0,hj=>simp at hj;subst hj;simp [Addr.add,go_sem]
    case c2=>intro u hu;simp at hu;rcases hu with rfl;rfl
    case c3=>unfold maxLen;omega
    case c4=>omega
    case c5=>have z1:=X.below.size;simp;omega
    case m1 =>
     intro v3 wz hown3 hg3 _ hat
     rw [← HV.out.1] at hown3
     have X4:=X.next hown3 hg3
     go_wp2
     go_roundw
     case rel=>exact ⟨k+1,by omega,by go_num,by rw [HE.out,← HV.out.2];rfl,X4⟩
     case measure=>simp [intOf];omega
  ·obtain rfl:k=n:=by omega
   have kk:¬ (k:Int)+1≤(k:Int):=by omega
   have Q:=X.out (by omega)
   obtain ⟨g,cap,rfl,Q,le,_⟩:=Q
   have bb:=bthen B X.below
   have Z:IntsOut w k (fend c y) (.returned (.tuple #[.slice (some ⟨g,0,none⟩) k cap,.int .i64 0])) wr:=⟨g,cap,rfl,Q,by omega,bb⟩
   have HZ:=Lib.hid Z
   clear Z Q X bb
   go_wp2
   exact bodyPost_ret (v:=.tuple #[.slice (some ⟨g,0,none⟩) k cap,.int .i64 0]) (by simp [results,Tryz.results32,go_sem]) rfl HZ.out

theorem rEnds_ok (c:CalZ)(y:Int)(n:Nat)(w:World)(ok:CalOk c)(y0:1601≤y)(y1:y≤9997)(hn:(n:Int)=per c)(K:ChkSays c)(hm:c.nm.size≤maxLen)(T:FTab w) :
  Calls Tryz.prog 32 #[.agg #[.string c.nm,.int .i64 c.k,.int .i64 c.d,.int .i64 c.m,.int .i64 c.s,.int .i64 c.sh,.int .i64 c.p0,.int .i64 c.p1,.int .i64 c.p2,.int .i64 c.cy,.int .i64 c.ex,.int .i64 c.fi,.int .i64 c.la,.int .i64 c.po],.int .i64 y] w (IntsOut w n (fend c y)):=by
 rcases sh_cases ok.1 with ⟨s,_⟩|⟨s,_⟩|⟨s4,s5,k6,cu⟩
 ·exact rends_broad c y n w ok y0 y1 hn K hm T s
 ·exact rends_month c y n w ok y0 y1 hn K hm T s
 ·have:c.sh=1∨c.sh=2∨c.sh=3:=by unfold CutOk at cu;omega
  rcases this with s|s|s
  ·exact rends_cut1 c y n w ok y0 y1 hn K hm T k6 cu s
  ·exact rends_cut2 c y n w ok y0 y1 hn K hm T k6 cu s
  ·exact rends_cut3 c y n w ok y0 y1 hn K hm T k6 cu s

end Go.Proofs.YtoilomigceijaaaGreatDoor.Hr

namespace Go.Proofs.YtoilomigceijaaaGreatDoor.Am
open Cm Em

def qnx (n k:Int):Int:=if k+1=n then 5 else quar n (k+2)
def spM (n L:Int)(k:Nat):Int :=
 if L=1 then (if (k:Int)=n then 1 else 0) else if L=2 then (if (k:Int)=n then 2 else (quar n ((k:Int)+1) - 1) / 2) else if L=3 then (if (k:Int)=n then 4 else quar n ((k:Int)+1) - 1) else k
theorem quar_cases (n p:Int):(p≤n / 4∧quar n p=1)∨(¬ p≤n / 4∧p≤n*2 / 4∧quar n p=2)∨(¬ p≤n / 4∧¬ p≤n*2 / 4∧p≤n*3 / 4∧quar n p=3)∨(¬ p≤n / 4∧¬ p≤n*2 / 4∧¬ p≤n*3 / 4∧quar n p=4):=by
 unfold quar
 by_cases a:p≤n / 4
 ·rw [if_pos a];exact .inl ⟨a,rfl⟩
 ·rw [if_neg a]
  by_cases b:p≤n*2 / 4
  ·rw [if_pos b];exact .inr (.inl ⟨a,b,rfl⟩)
  ·rw [if_neg b]
   by_cases d:p≤n*3 / 4
   ·rw [if_pos d];exact .inr (.inr (.inl ⟨a,b,d,rfl⟩))
   ·rw [if_neg d];exact .inr (.inr (.inr ⟨a,b,d,rfl⟩))
section
variable {c:CalZ} {y:Int} {k:Nat}
theorem spm_zero (h:KindOk c)(L:Int):spM (per c) L 0=0:=by
 have q:=quar_cases (per c) 1
 have pe:=per_is h
 have p0:¬ ((0:Nat):Int)=per c:=by omega
 have f:quar (per c) 1=1:=by generalize per c=n at *;rcases pe with rfl|rfl|rfl|rfl<;>omega
 unfold spM
 rw [if_neg p0,if_neg p0,if_neg p0,show ((0:Nat):Int)+1=1 from rfl,f]
 split
 ·rfl
 ·split
  ·rfl
  ·split
   ·rfl
   ·rfl
theorem spm_last (h:KindOk c)(L:Int)(L0:1≤L)(L4:L≤4)(hk:(k:Int)=per c):spM (per c) L k=ucount c y L:=by
 unfold spM ucount
 have l:L=1∨L=2∨L=3∨L=4:=by omega
 rcases l with rfl|rfl|rfl|rfl
 ·simp [hk]
 ·simp [hk]
 ·simp [hk]
 ·simp [hk]
theorem spm1 (n:Int)(k:Nat):spM n 1 k=if (k:Int)=n then 1 else 0:=by simp [spM]
theorem spm2 (n:Int)(k:Nat):spM n 2 k=if (k:Int)=n then 2 else (quar n ((k:Int)+1) - 1) / 2:=by simp [spM]
theorem spm3 (n:Int)(k:Nat):spM n 3 k=if (k:Int)=n then 4 else quar n ((k:Int)+1) - 1:=by simp [spM]
theorem spm_le (h:KindOk c)(L:Int)(L0:1≤L)(L4:L≤4)(hk:(k:Int)≤per c):0≤spM (per c) L k∧spM (per c) L k≤ucount c y L:=by
 have q:=quar_cases (per c) ((k:Int)+1)
 have l:L=1∨L=2∨L=3∨L=4:=by omega
 rcases l with rfl|rfl|rfl|rfl
 ·rw [spm1,show ucount c y 1=1 from rfl];split<;>omega
 ·rw [spm2,show ucount c y 2=2 from rfl];split<;>omega
 ·rw [spm3,show ucount c y 3=4 from rfl];split<;>omega
 ·rw [show ucount c y 4=per c from rfl,show spM (per c) 4 k=k by simp [spM]];omega
theorem sp_1 (h:KindOk c)(hk:(k:Int)<per c):((k:Int)+1=per c∧spM (per c) 1 (k+1)=spM (per c) 1 k+1∧uend c y 1 (spM (per c) 1 k+1)=pend c y ((k:Int)+1))∨((k:Int)+1<per c∧spM (per c) 1 (k+1)=spM (per c) 1 k):=by
 have e:((k+1:Nat):Int)=(k:Int)+1:=by omega
 rw [spm1,spm1,e,if_neg (show ¬ (k:Int)=per c by omega)]
 by_cases q:(k:Int)+1=per c
 ·rw [if_pos q]
  refine .inl ⟨q,rfl,?_⟩
  rw [q];rfl
 ·rw [if_neg q]
  exact .inr ⟨by omega,rfl⟩
theorem sp_3 (h:KindOk c)(hk:(k:Int)<per c) :
  (quar (per c) ((k:Int)+1)<qnx (per c) k∧spM (per c) 3 (k+1)=spM (per c) 3 k+1∧uend c y 3 (spM (per c) 3 k+1)=pend c y ((k:Int)+1))∨(¬ quar (per c) ((k:Int)+1)<qnx (per c) k∧(k:Int)+1<per c∧spM (per c) 3 (k+1)=spM (per c) 3 k):=by
 have e:((k+1:Nat):Int)=(k:Int)+1:=by omega
 have q1:=quar_cases (per c) ((k:Int)+1)
 have q2:=quar_cases (per c) ((k:Int)+2)
 have ue:∀ i,uend c y 3 i=pend c y (per c*i / 4):=fun i=>by simp [uend]
 unfold qnx
 rw [spm3,spm3,e,if_neg (show ¬ (k:Int)=per c by omega),ue,show (k:Int)+1+1=(k:Int)+2 by omega]
 have pe:=per_is h
 by_cases q:(k:Int)+1=per c
 ·rw [if_pos q,if_pos q]
  refine .inl ⟨by omega,by omega,?_⟩
  congr 1
  generalize per c=n at *;rcases pe with rfl|rfl|rfl|rfl<;>omega
 ·rw [if_neg q,if_neg q]
  by_cases r:quar (per c) ((k:Int)+1)<quar (per c) ((k:Int)+2)
  ·refine .inl ⟨r,by generalize per c=n at *;rcases pe with rfl|rfl|rfl|rfl<;>omega,?_⟩
   congr 1
   generalize per c=n at *;rcases pe with rfl|rfl|rfl|rfl<;>omega
  ·exact .inr ⟨r,by omega,by generalize per c=n at *;rcases pe with rfl|rfl|rfl|rfl<;>omega⟩
theorem sp_2 (h:KindOk c)(hk:(k:Int)<per c) :
  (quar (per c) ((k:Int)+1)<qnx (per c) k∧quar (per c) ((k:Int)+1)%2=0∧spM (per c) 2 (k+1)=spM (per c) 2 k+1∧uend c y 2 (spM (per c) 2 k+1)=pend c y ((k:Int)+1))∨(¬ (quar (per c) ((k:Int)+1)<qnx (per c) k∧quar (per c) ((k:Int)+1)%2=0)∧(k:Int)+1<per c∧spM (per c) 2 (k+1)=spM (per c) 2 k):=by
 have e:((k+1:Nat):Int)=(k:Int)+1:=by omega
 have q1:=quar_cases (per c) ((k:Int)+1)
 have q2:=quar_cases (per c) ((k:Int)+2)
 have ue:∀ i,uend c y 2 i=pend c y (per c*(2*i) / 4):=fun i=>by simp [uend]
 unfold qnx
 rw [spm2,spm2,e,if_neg (show ¬ (k:Int)=per c by omega),ue,show (k:Int)+1+1=(k:Int)+2 by omega]
 have pe:=per_is h
 by_cases q:(k:Int)+1=per c
 ·rw [if_pos q,if_pos q]
  have f:quar (per c) ((k:Int)+1)=4:=by generalize per c=n at *;rcases pe with rfl|rfl|rfl|rfl<;>omega
  rw [f]
  refine .inl ⟨by omega,by omega,by omega,?_⟩
  congr 1
  generalize per c=n at *;rcases pe with rfl|rfl|rfl|rfl<;>omega
 ·rw [if_neg q,if_neg q]
  by_cases r:quar (per c) ((k:Int)+1)<quar (per c) ((k:Int)+2)∧quar (per c) ((k:Int)+1)%2=0
  ·refine .inl ⟨r.1,r.2,by generalize per c=n at *;rcases pe with rfl|rfl|rfl|rfl<;>omega,?_⟩
   congr 1
   generalize per c=n at *;rcases pe with rfl|rfl|rfl|rfl<;>omega
  ·exact .inr ⟨r,by omega,by generalize per c=n at *;rcases pe with rfl|rfl|rfl|rfl<;>omega⟩
theorem sp_4 (hk:(k:Int)<per c):spM (per c) 4 (k+1)=spM (per c) 4 k+1∧uend c y 4 (spM (per c) 4 k+1)=pend c y ((k:Int)+1):=by
 have ue:∀ i,uend c y 4 i=pend c y i:=fun i=>by simp [uend]
 have e:∀ j:Nat,spM (per c) 4 j=j:=fun j=>by simp [spM]
 rw [e,e,ue]
 exact ⟨by omega,rfl⟩
theorem sp_5 (h:KindOk c)(y0:1601≤y)(y1:y≤9997)(hk:(k:Int)<per c)(j:Int)(j0:0≤j)(j1:j≤wks c y ((k:Int)+1)) :
  (j<wks c y ((k:Int)+1)∧pend c y k+7*j+1≤pend c y ((k:Int)+1)∧uend c y 5 (wsum c y k+j)=pend c y k+7*j∧uend c y 5 (wsum c y k+j+1)=min (pend c y k+7*j+1+6) (pend c y ((k:Int)+1)))∨(j=wks c y ((k:Int)+1)∧¬ pend c y k+7*j+1≤pend c y ((k:Int)+1)∧wsum c y (k+1)=wsum c y k+j∧uend c y 5 (wsum c y (k+1))=pend c y ((k:Int)+1)):=by
 have pe:=perN_is h
 have w:=wks_bd h y0 y1 (p:=(k:Int)+1) (by omega) (by omega)
 rw [show (k:Int)+1 - 1=k by omega] at w
 have ws:wsum c y (k+1)=wsum c y k+wks c y ((k:Int)+1):=rfl
 have ue:∀ i,uend c y 5 i=wend c y i:=fun i=>by simp [uend]
 have t:=wsum_step h y0 y1 (a:=k+1) (b:=perN c) (by omega) (by omega)
 have t0:=wsum_step h y0 y1 (a:=0) (b:=k) (by omega) (by omega)
 have z:wsum c y 0=0:=rfl
 simp only [ue]
 by_cases q:j<wks c y ((k:Int)+1)
 ·refine .inl ⟨q,by omega,?_,?_⟩
  ·by_cases r:j=0
   ·subst r
    cases k with
    | zero=>rw [z,show (0:Int)+0=0 from rfl,wend_zero h y0 y1];simp
    | succ i =>
      have w2:=wks_bd h y0 y1 (p:=(i:Int)+1) (by omega) (by omega)
      rw [show (i:Int)+1 - 1=i by omega] at w2
      have ws2:wsum c y (i+1)=wsum c y i+wks c y ((i:Int)+1):=rfl
      rw [Int.add_zero,wend_at h y0 y1 (p:=i) (by omega) (by omega) (Int.le_refl _),show ((i+1:Nat):Int)=(i:Int)+1 by omega]
      omega
   ·rw [wend_at h y0 y1 (p:=k) (by omega) (by omega) (by omega)]
    omega
  ·rw [wend_at h y0 y1 (p:=k) (by omega) (by omega) (by omega)]
   omega
 ·have r:j=wks c y ((k:Int)+1):=by omega
  refine .inr ⟨r,by omega,by omega,?_⟩
  rw [wend_at h y0 y1 (p:=k) (by omega) (by omega) (Int.le_refl _)]
  omega
end

end Go.Proofs.YtoilomigceijaaaGreatDoor.Am

namespace Go.Proofs.YtoilomigceijaaaGreatDoor.Ir
open Go.RowKit Go.Maps Bn Bx Cp Am Fp Ap Ar Cm Em Ep Rk Hp Hr

set_option maxHeartbeats 8000000

def spl (c:CalZ)(y L:Int):Nat→List (Int×Int)
 | 0=>[]
 | k+1=>spl c y L k++[(uend c y L k+1,uend c y L ((k:Int)+1))]
theorem spl_len (c:CalZ)(y L:Int)(k:Nat):(spl c y L k).length=k:=by
 induction k with
 | zero=>rfl
 | succ n ih=>simp [spl,ih]
theorem spl_at (c:CalZ)(y L:Int)(N k:Nat)(h:k<N):(spl c y L N)[k]?=some (uend c y L k+1,uend c y L ((k:Int)+1)):=by
 induction N with
 | zero=>omega
 | succ n ih =>
   by_cases e:k=n
   ·subst e
    simp [spl,List.getElem?_append_right,spl_len]
   ·rw [spl,List.getElem?_append_left (by rw [spl_len];omega)]
    exact ih (by omega)
structure OneS (EL:TypeId) (w W:World) (v:Value) (m:Nat) (l:List (Int×Int)):Prop where
 below:Below w.heap.size w W
 a:W.ownsRow w.heap.size EL 2 v m (scells l)
section
variable {EL:TypeId} {w W w1:World} {v:Value} {m:Nat} {l:List (Int×Int)}
theorem OneS.start (EL:TypeId)(h:Below w.heap.size w W):OneS EL w W (.slice none 0 0) 0 []:=⟨h,World.ownsRow_nil _ _ _ _⟩
theorem OneS.kept (x:OneS EL w W v m l)(hb:Below W.heap.size W w1):OneS EL w w1 v m l:=⟨Pr.bthen x.below hb,own_below x.a hb⟩
theorem OneS.next {W2:World}{o1:Obj}{v':Value}{f t:Int}(X:OneS EL w W v m l)
  (h1:W2.ownsRow w.heap.size EL 2 v' (m+1) (scells l++[.int .i64 f,.int .i64 t])) (r1:(W.alloc o1).grownBy W2 v.ownBlock):OneS EL w W2 v' (m+1) (l++[(f,t)]) :=
 ⟨below_grown (Pr.balloc X.below o1) r1 (fun x e=>(row_lt X.a e).1) (Nat.le_refl _),by rw [scells_app];exact h1⟩
theorem OneS.out (X:OneS EL w W v m l)(hl:l.length=m)(hn:0<m):∃ g cap,v= .slice (some ⟨g,0,none⟩) m cap∧Srow W g l∧w.heap.size≤g∧m≤cap:=by
 obtain ⟨g,cap,rfl,h2,_⟩:=X.a.form hn
 have e:=own_cap X.a
 subst hl
 exact ⟨g,cap,rfl,Srow.of_owns X.a hn,h2,e⟩
end
def SpTo (w:World)(N:Nat)(l:List (Int×Int))(e:Ending)(w':World):Prop :=
 ∃ g cap:Nat,e= .returned (.tuple #[.slice (some ⟨g,0,none⟩) N cap,.int .i64 0])∧Srow w' g l∧w.heap.size≤g∧Below w.heap.size w w'∧N≤cap
theorem rinfoS:(Tryz.prog.info? 26).map (fun i=>(i.zero,i.size,i.bytes))=some (some (.agg #[.int .i64 0,.int .i64 0]),2,16):=by kernel_rfl
theorem runderS:Tryz.prog.underlying 56=some (.slice 26):=by kernel_rfl

set_option maxRecDepth 100000 in
theorem rspans_1 (c:CalZ)(y:Int)(n N:Nat)(w:World)(ok:CalOk c)(sv:Served c y)(hn:(n:Int)=per c)(hN:(N:Int)=ucount c y 1)(K:ChkSays c)(hm:c.nm.size≤maxLen)(T:FTab w) :
  Calls Tryz.prog 19 #[.agg #[.string c.nm,.int .i64 c.k,.int .i64 c.d,.int .i64 c.m,.int .i64 c.s,.int .i64 c.sh,.int .i64 c.p0,.int .i64 c.p1,.int .i64 c.p2,.int .i64 c.cy,.int .i64 c.ex,.int .i64 c.fi,.int .i64 c.la,.int .i64 c.po],.int .i64 1,.int .i64 y] w (SpTo w N (spl c y 1 N)):=by
 obtain ⟨i1,hi,hz0,hz1,hz2⟩:=info_parts rinfoS
 have C:=CalIn.new w c 24
 have B:=balloc (Below.refl _ w) (.cells #[.string c.nm,.int .i64 c.k,.int .i64 c.d,.int .i64 c.m,.int .i64 c.s,.int .i64 c.sh,.int .i64 c.p0,.int .i64 c.p1,.int .i64 c.p2,.int .i64 c.cy,.int .i64 c.ex,.int .i64 c.fi,.int .i64 c.la,.int .i64 c.po] 24)
 replace T:=T.alloc (.cells #[.string c.nm,.int .i64 c.k,.int .i64 c.d,.int .i64 c.m,.int .i64 c.s,.int .i64 c.sh,.int .i64 c.p0,.int .i64 c.p1,.int .i64 c.p2,.int .i64 c.cy,.int .i64 c.ex,.int .i64 c.fi,.int .i64 c.la,.int .i64 c.po] 24)
 have st:=served_told ok sv
 have ck:=fun w=>K 0 w (.inl ⟨ok,rfl⟩)
 have cs:=fun w=>rStart_any c y (uend c y 1 (0:Nat)+1) 0 w (.inl ⟨ok,by omega,by omega,by rw [show ((0:Nat):Int)=0 from rfl,uend_zero ok.1 (by omega) (by omega) (by unfold LevOk;omega),pend_zero],rfl⟩) K
 have ce:=fun w T=>rEnds_ok c y n w ok (by omega) (by omega) hn K hm T
 have cb:=ucount_bd (L:=1) (y:=y) ok.1 (by omega) (by omega)
 rw [← hN] at cb
 have pb:=per_bd ok.1
 rw [← hn] at pb
 have f0:decide (y<c.fi)=false:=decide_eq_false (by unfold Served at sv;omega)
 have f1:decide (c.la<y)=false:=decide_eq_false (by unfold Served at sv;omega)
 have HC:Hid (∀ (p:Int),1≤p→p≤(n:Int)→∀ w (T:FTab w),Calls Tryz.prog 33 #[.agg #[.string c.nm,.int .i64 c.k,.int .i64 c.d,.int .i64 c.m,.int .i64 c.s,.int .i64 c.sh,.int .i64 c.p0,.int .i64 c.p1,.int .i64 c.p2,.int .i64 c.cy,.int .i64 c.ex,.int .i64 c.fi,.int .i64 c.la,.int .i64 c.po],.int .i64 p] w fun e w'=>e= .returned (.tuple #[.int .i64 (quar (n:Int) p),.int .i64 0])∧Below w.heap.size w w') :=
  Lib.hid (fun p p0 p1 w T=>Hl.rQuarter_any c p (quar n p) 0 w (.inl ⟨ok,p0,by omega,by rw [hn],rfl⟩) hm T)
 have HB:Hid (∀ k:Nat,k<n→0≤fend c y k∧fend c y k≤3068036) :=
  Lib.hid (fun k hk=>by
   have b:=pend_bd ok.1 (y:=y) (p:=(k:Int)+1) (by omega) (by omega) (by omega) (by omega)
   exact ⟨b.1,b.2⟩)
 have HQB:Hid (∀ p:Int,1≤quar (n:Int) p∧quar (n:Int) p≤4):=Lib.hid (fun p=>by have:=quar_cases (n:Int) p;omega)
 have HM:Hid (∀ k m:Nat,k≤n→(m:Int)=spM (n:Int) 1 k→(m:Int)≤60∧0≤uend c y 1 m+1∧uend c y 1 m+1≤3068037) :=
  Lib.hid (fun k m hk e=>by
   have b:(m:Int)≤ucount c y 1:=by
    rw [e,hn]
    exact (spm_le ok.1 1 (by omega) (by omega) (by omega)).2
   have b2:=uend_bd (L:=1) (i:=m) ok.1 (y:=y) (by omega) (by omega) (by unfold LevOk;omega) (by omega) b
   omega)
 have HE:Hid (∀ m:Nat,(m:Int)=spM (n:Int) 1 n→(m:Int)=N):=Lib.hid (fun m e=>by rw [e,hN,hn];exact spm_last ok.1 1 (by omega) (by omega) hn)
 have H0:Hid (((0:Nat):Int)=spM (n:Int) 1 0):=Lib.hid (by rw [hn,spm_zero ok.1];rfl)
 have HL:Hid (∀ k m:Nat,k<n→(m:Int)=spM (n:Int) 1 k→((k:Int)+1=n∧spM n 1 (k+1)=m+1∧uend c y 1 ((m:Int)+1)=fend c y k)∨((k:Int)+1<n∧spM n 1 (k+1)=m)) :=
  Lib.hid (fun k m hk hm'=>by
   have h:=sp_1 (y:=y) ok.1 (k:=k) (by omega)
   rw [← hn,← hm'] at h
   exact h)
 have n52:(n:Int)≤52:=by omega
 have n12:(12:Int)≤(n:Int):=by omega
 have N1:1≤N∧N≤60:=by omega
 clear ok sv hn hN K st cb pb
 go_enter Tryz.func19,Tryz.ntmps19
 go_upto_region 1 with fail
 generalize w.alloc (.cells #[.string c.nm,.int .i64 c.k,.int .i64 c.d,.int .i64 c.m,.int .i64 c.s,.int .i64 c.sh,.int .i64 c.p0,.int .i64 c.p1,.int .i64 c.p2,.int .i64 c.cy,.int .i64 c.ex,.int .i64 c.fi,.int .i64 c.la,.int .i64 c.po] 24)=W0 at *
 obtain ⟨_,c0,c1,c2,c3,c4,c5,c6,c7,c8,c9,c10,c11,c12,c13⟩:=id C
 go_wp2_with fail
 refine (ck _).mono ?_
 rintro e w1 ⟨rfl,hb⟩
 replace C:=C.kept hb
 replace B:=bthen B hb
 replace T:=T.kept hb
 clear hb c0 c1 c2 c3 c4 c5 c6 c7 c8 c9 c10 c11 c12 c13 
 obtain ⟨_,c0,c1,c2,c3,c4,c5,c6,c7,c8,c9,c10,c11,c12,c13⟩:=id C
 go_wp2_with fail
 refine (cs _).mono ?_
 rintro e w2 ⟨rfl,hb⟩
 replace C:=C.kept hb
 replace B:=bthen B hb
 replace T:=T.kept hb
 clear hb c0 c1 c2 c3 c4 c5 c6 c7 c8 c9 c10 c11 c12 c13 
 obtain ⟨_,c0,c1,c2,c3,c4,c5,c6,c7,c8,c9,c10,c11,c12,c13⟩:=id C
 go_wp2_with fail
 refine (ce _ T).mono ?_
 rintro e w3 ⟨ge,cape,rfl,R,hge,hb⟩
 replace C:=C.kept hb
 replace B:=bthen B hb
 replace T:=T.kept hb
 clear hb c0 c1 c2 c3 c4 c5 c6 c7 c8 c9 c10 c11 c12 c13 
 obtain ⟨_,c0,c1,c2,c3,c4,c5,c6,c7,c8,c9,c10,c11,c12,c13⟩:=id C
 clear hge
 obtain ⟨_,_,_⟩:=id R
 clear ck cs ce
 clear c0 c1 c2 c3 c4 c5 c6 c7 c8 c9 c10 c11 c12 c13 
 go_wp2
 go_loopw [9,13,54] (fun F Z I wr=>∃ k m:Nat,k≤n∧(m:Int)=spM (n:Int) 1 k∧I= .int .i64 (k:Int)∧F= .int .i64 (uend c y 1 m+1)∧OneS 26 w3 wr Z m (spl c y 1 m)) (fun _ _ I _=>n - (intOf I).toNat)
 case atStart=>exact ⟨0,0,by omega,H0.out,rfl,rfl,OneS.start _ (Below.refl _ _)⟩
 case round =>
  obtain ⟨k,m,kM,hm',rfl,rfl,X⟩:=hrel
  have C2:=C.kept X.below
  have T2:=T.kept X.below
  have R2:=R.kept X.below
  by_cases hlt:k<n
  ·have rk:=R2.c k hlt
   have vb:=HB.out k hlt
   have c1:=HC.out ((k:Int)+1) (by omega) (by omega)
   have HS:=HL.out k m hlt hm'
   obtain ⟨v,hv⟩:∃ v,fend c y k=v:=⟨_,rfl⟩
   rw [hv] at rk vb
   have HV:=Lib.hid hv
   obtain ⟨q,hq⟩:∃ q,quar (n:Int) ((k:Int)+1)=q:=⟨_,rfl⟩
   rw [hq] at c1
   have kk:(k:Int)<(n:Int):=by omega
   have m60:m≤60:=by have:=HM.out k m (by omega) hm';omega
   have HMM:=Lib.hid hm'
   have HQ:=Lib.hid hq
   obtain ⟨F,hF⟩:∃ F,uend c y 1 m+1=F:=⟨_,rfl⟩
   have Fb:0≤F∧F≤3068037:=by have:=HM.out k m (by omega) hm';omega
   rw [hF]
   have HF:=Lib.hid hF
   clear hv hm' hq R2 hF
   obtain ⟨_,d0,d1,d2,d3,d4,d5,d6,d7,d8,d9,d10,d11,d12,d13⟩:=id C2
   go_wp2_with fail
   refine (c1 _ T2).mono ?_
   rintro e w8 ⟨rfl,hb⟩
   replace X:=X.kept hb
   replace C2:=C2.kept hb
   replace T2:=T2.kept hb
   clear hb c1 d0 d1 d2 d3 d4 d5 d6 d7 d8 d9 d10 d11 d12 d13
   by_cases hl:k+1<n
   ·have kl:(k:Int)+1<(n:Int):=by omega
    have kl2:((k:Int)+1==(n:Int))=false:=beq_eq_false_iff_ne.2 (by omega)
    have c2:=HC.out ((k:Int)+2) (by omega) (by omega)
    obtain ⟨x,hx⟩:∃ x,quar (n:Int) ((k:Int)+2)=x:=⟨_,rfl⟩
    rw [hx] at c2
    have HX:Hid (qnx (n:Int) k=x):=Lib.hid (by unfold qnx;rw [if_neg (by omega)];exact hx)
    clear hx
    obtain ⟨_,d0,d1,d2,d3,d4,d5,d6,d7,d8,d9,d10,d11,d12,d13⟩:=id C2
    go_wp2_with fail
    refine (c2 _ T2).mono ?_
    rintro e w9 ⟨rfl,hb⟩
    replace X:=X.kept hb
    clear hb c2 d0 d1 d2 d3 d4 d5 d6 d7 d8 d9 d10 d11 d12 d13 C2 T2
    have qb:=HQB.out ((k:Int)+1)
    rw [HQ.out] at qb
    rcases HS with ⟨h0,h2,h3⟩|⟨_,h2⟩
    ·exact absurd h0 (by omega)
    ·have HN:=Lib.hid h2
     clear h2
     go_wp2
     go_roundw
     case rel=>exact ⟨k+1,m,by omega,by rw [HN.out],by go_num,by rw [HF.out],X⟩
     case measure=>simp [intOf];omega
   ·have kl:¬ (k:Int)+1<(n:Int):=by omega
    have kl2:((k:Int)+1==(n:Int))=true:=beq_iff_eq.2 (by omega)
    have HX:Hid (qnx (n:Int) k=5):=Lib.hid (by unfold qnx;rw [if_pos (by omega)])
    clear C2 T2
    have qb:=HQB.out ((k:Int)+1)
    rw [HQ.out] at qb
    rcases HS with ⟨_,h2,h3⟩|⟨h0,_⟩
    ·have HN:=Lib.hid h2
     have HU:Hid (uend c y 1 ((m:Int)+1)=v):=Lib.hid (h3.trans HV.out)
     clear h2 h3
     go_wp2_with (first
      | (at_builtin;refine wpList_append_own_at _ rfl _ _ 56 rfl w3.heap.size 26 i1 (.agg #[.int .i64 0,.int .i64 0]) 2 16 runderS hi hz0 hz1 hz2 rfl (by decide) _ m (scells (spl c y 1 m)) rfl (X.a.alloc _) ⟨_,0,none⟩ 1 1 [.int .i64 F,.int .i64 v] rfl rfl ?c1 ?c2 ?c3 ?c4 ?c5 ?m1))
     case c1 =>
      intro j u hj
      match j,hj with
      | 0,hj=>simp at hj;subst hj;simp [Addr.add,go_sem]
      | 1,hj=>simp at hj;subst hj;simp [Addr.add,go_sem]
     case c2=>intro u hu;simp at hu;rcases hu with rfl|rfl<;>rfl
     case c3=>unfold maxLen;omega
     case c4=>omega
     case c5=>have z1:=X.below.size;simp;omega
     case m1 =>
      intro v3 wz hown3 hg3 _ hat
      have X4:=X.next hown3 hg3
      have X5:OneS 26 w3 wz v3 (m+1) (spl c y 1 (m+1)):=by
       show OneS 26 w3 wz v3 (m+1) (spl c y 1 m++[(uend c y 1 m+1,uend c y 1 ((m:Int)+1))])
       rw [HF.out,HU.out]
       exact X4
      clear X4
      go_wp2
      go_roundw
      case rel=>exact ⟨k+1,m+1,by omega,by have:=HN.out;omega,by go_num,by rw [show ((m+1:Nat):Int)=(m:Int)+1 by omega,HU.out],X5⟩
      case measure=>simp [intOf];omega
    ·exact absurd h0 (by omega)
  ·obtain rfl:k=n:=by omega
   have kk:¬ (k:Int)<(k:Int):=by omega
   have hmN:=HE.out m hm'
   obtain rfl:N=m:=by omega
   have QQ:=X.out (spl_len _ _ _ _) (by omega)
   obtain ⟨g,cap,rfl,QQ,le,hcap⟩:=QQ
   have bb:=bthen B X.below
   have Z:SpTo w N (spl c y 1 N) (.returned (.tuple #[.slice (some ⟨g,0,none⟩) N cap,.int .i64 0])) wr:=⟨g,cap,rfl,QQ,by omega,bb,hcap⟩
   have HZ:=Lib.hid Z
   clear Z QQ X bb
   go_wp2
   exact bodyPost_ret (v:=.tuple #[.slice (some ⟨g,0,none⟩) N cap,.int .i64 0]) (by simp [results,Tryz.results19,go_sem]) rfl HZ.out

set_option maxRecDepth 100000 in
theorem rspans_2 (c:CalZ)(y:Int)(n N:Nat)(w:World)(ok:CalOk c)(sv:Served c y)(hn:(n:Int)=per c)(hN:(N:Int)=ucount c y 2)(K:ChkSays c)(hm:c.nm.size≤maxLen)(T:FTab w) :
  Calls Tryz.prog 19 #[.agg #[.string c.nm,.int .i64 c.k,.int .i64 c.d,.int .i64 c.m,.int .i64 c.s,.int .i64 c.sh,.int .i64 c.p0,.int .i64 c.p1,.int .i64 c.p2,.int .i64 c.cy,.int .i64 c.ex,.int .i64 c.fi,.int .i64 c.la,.int .i64 c.po],.int .i64 2,.int .i64 y] w (SpTo w N (spl c y 2 N)):=by
 obtain ⟨i1,hi,hz0,hz1,hz2⟩:=info_parts rinfoS
 have C:=CalIn.new w c 24
 have B:=balloc (Below.refl _ w) (.cells #[.string c.nm,.int .i64 c.k,.int .i64 c.d,.int .i64 c.m,.int .i64 c.s,.int .i64 c.sh,.int .i64 c.p0,.int .i64 c.p1,.int .i64 c.p2,.int .i64 c.cy,.int .i64 c.ex,.int .i64 c.fi,.int .i64 c.la,.int .i64 c.po] 24)
 replace T:=T.alloc (.cells #[.string c.nm,.int .i64 c.k,.int .i64 c.d,.int .i64 c.m,.int .i64 c.s,.int .i64 c.sh,.int .i64 c.p0,.int .i64 c.p1,.int .i64 c.p2,.int .i64 c.cy,.int .i64 c.ex,.int .i64 c.fi,.int .i64 c.la,.int .i64 c.po] 24)
 have st:=served_told ok sv
 have ck:=fun w=>K 0 w (.inl ⟨ok,rfl⟩)
 have cs:=fun w=>rStart_any c y (uend c y 2 (0:Nat)+1) 0 w (.inl ⟨ok,by omega,by omega,by rw [show ((0:Nat):Int)=0 from rfl,uend_zero ok.1 (by omega) (by omega) (by unfold LevOk;omega),pend_zero],rfl⟩) K
 have ce:=fun w T=>rEnds_ok c y n w ok (by omega) (by omega) hn K hm T
 have cb:=ucount_bd (L:=2) (y:=y) ok.1 (by omega) (by omega)
 rw [← hN] at cb
 have pb:=per_bd ok.1
 rw [← hn] at pb
 have f0:decide (y<c.fi)=false:=decide_eq_false (by unfold Served at sv;omega)
 have f1:decide (c.la<y)=false:=decide_eq_false (by unfold Served at sv;omega)
 have HC:Hid (∀ (p:Int),1≤p→p≤(n:Int)→∀ w (T:FTab w),Calls Tryz.prog 33 #[.agg #[.string c.nm,.int .i64 c.k,.int .i64 c.d,.int .i64 c.m,.int .i64 c.s,.int .i64 c.sh,.int .i64 c.p0,.int .i64 c.p1,.int .i64 c.p2,.int .i64 c.cy,.int .i64 c.ex,.int .i64 c.fi,.int .i64 c.la,.int .i64 c.po],.int .i64 p] w fun e w'=>e= .returned (.tuple #[.int .i64 (quar (n:Int) p),.int .i64 0])∧Below w.heap.size w w') :=
  Lib.hid (fun p p0 p1 w T=>Hl.rQuarter_any c p (quar n p) 0 w (.inl ⟨ok,p0,by omega,by rw [hn],rfl⟩) hm T)
 have HB:Hid (∀ k:Nat,k<n→0≤fend c y k∧fend c y k≤3068036) :=
  Lib.hid (fun k hk=>by
   have b:=pend_bd ok.1 (y:=y) (p:=(k:Int)+1) (by omega) (by omega) (by omega) (by omega)
   exact ⟨b.1,b.2⟩)
 have HQB:Hid (∀ p:Int,1≤quar (n:Int) p∧quar (n:Int) p≤4):=Lib.hid (fun p=>by have:=quar_cases (n:Int) p;omega)
 have HM:Hid (∀ k m:Nat,k≤n→(m:Int)=spM (n:Int) 2 k→(m:Int)≤60∧0≤uend c y 2 m+1∧uend c y 2 m+1≤3068037) :=
  Lib.hid (fun k m hk e=>by
   have b:(m:Int)≤ucount c y 2:=by
    rw [e,hn]
    exact (spm_le ok.1 2 (by omega) (by omega) (by omega)).2
   have b2:=uend_bd (L:=2) (i:=m) ok.1 (y:=y) (by omega) (by omega) (by unfold LevOk;omega) (by omega) b
   omega)
 have HE:Hid (∀ m:Nat,(m:Int)=spM (n:Int) 2 n→(m:Int)=N):=Lib.hid (fun m e=>by rw [e,hN,hn];exact spm_last ok.1 2 (by omega) (by omega) hn)
 have H0:Hid (((0:Nat):Int)=spM (n:Int) 2 0):=Lib.hid (by rw [hn,spm_zero ok.1];rfl)
 have HL:Hid (∀ k m:Nat,k<n→(m:Int)=spM (n:Int) 2 k→(quar n ((k:Int)+1)<qnx n k∧quar n ((k:Int)+1)%2=0∧spM n 2 (k+1)=m+1∧uend c y 2 ((m:Int)+1)=fend c y k)∨(¬ (quar n ((k:Int)+1)<qnx n k∧quar n ((k:Int)+1)%2=0)∧(k:Int)+1<n∧spM n 2 (k+1)=m)) :=
  Lib.hid (fun k m hk hm'=>by
   have h:=sp_2 (y:=y) ok.1 (k:=k) (by omega)
   rw [← hn,← hm'] at h
   exact h)
 have n52:(n:Int)≤52:=by omega
 have n12:(12:Int)≤(n:Int):=by omega
 have N1:1≤N∧N≤60:=by omega
 clear ok sv hn hN K st cb pb
 go_enter Tryz.func19,Tryz.ntmps19
 go_upto_region 1 with fail
 generalize w.alloc (.cells #[.string c.nm,.int .i64 c.k,.int .i64 c.d,.int .i64 c.m,.int .i64 c.s,.int .i64 c.sh,.int .i64 c.p0,.int .i64 c.p1,.int .i64 c.p2,.int .i64 c.cy,.int .i64 c.ex,.int .i64 c.fi,.int .i64 c.la,.int .i64 c.po] 24)=W0 at *
 obtain ⟨_,c0,c1,c2,c3,c4,c5,c6,c7,c8,c9,c10,c11,c12,c13⟩:=id C
 go_wp2_with fail
 refine (ck _).mono ?_
 rintro e w1 ⟨rfl,hb⟩
 replace C:=C.kept hb
 replace B:=bthen B hb
 replace T:=T.kept hb
 clear hb c0 c1 c2 c3 c4 c5 c6 c7 c8 c9 c10 c11 c12 c13 
 obtain ⟨_,c0,c1,c2,c3,c4,c5,c6,c7,c8,c9,c10,c11,c12,c13⟩:=id C
 go_wp2_with fail
 refine (cs _).mono ?_
 rintro e w2 ⟨rfl,hb⟩
 replace C:=C.kept hb
 replace B:=bthen B hb
 replace T:=T.kept hb
 clear hb c0 c1 c2 c3 c4 c5 c6 c7 c8 c9 c10 c11 c12 c13 
 obtain ⟨_,c0,c1,c2,c3,c4,c5,c6,c7,c8,c9,c10,c11,c12,c13⟩:=id C
 go_wp2_with fail
 refine (ce _ T).mono ?_
 rintro e w3 ⟨ge,cape,rfl,R,hge,hb⟩
 replace C:=C.kept hb
 replace B:=bthen B hb
 replace T:=T.kept hb
 clear hb c0 c1 c2 c3 c4 c5 c6 c7 c8 c9 c10 c11 c12 c13 
 obtain ⟨_,c0,c1,c2,c3,c4,c5,c6,c7,c8,c9,c10,c11,c12,c13⟩:=id C
 clear hge
 obtain ⟨_,_,_⟩:=id R
 clear ck cs ce
 clear c0 c1 c2 c3 c4 c5 c6 c7 c8 c9 c10 c11 c12 c13 
 go_wp2
 go_loopw [9,13,54] (fun F Z I wr=>∃ k m:Nat,k≤n∧(m:Int)=spM (n:Int) 2 k∧I= .int .i64 (k:Int)∧F= .int .i64 (uend c y 2 m+1)∧OneS 26 w3 wr Z m (spl c y 2 m)) (fun _ _ I _=>n - (intOf I).toNat)
 case atStart=>exact ⟨0,0,by omega,H0.out,rfl,rfl,OneS.start _ (Below.refl _ _)⟩
 case round =>
  obtain ⟨k,m,kM,hm',rfl,rfl,X⟩:=hrel
  have C2:=C.kept X.below
  have T2:=T.kept X.below
  have R2:=R.kept X.below
  by_cases hlt:k<n
  ·have rk:=R2.c k hlt
   have vb:=HB.out k hlt
   have c1:=HC.out ((k:Int)+1) (by omega) (by omega)
   have HS:=HL.out k m hlt hm'
   obtain ⟨v,hv⟩:∃ v,fend c y k=v:=⟨_,rfl⟩
   rw [hv] at rk vb
   have HV:=Lib.hid hv
   obtain ⟨q,hq⟩:∃ q,quar (n:Int) ((k:Int)+1)=q:=⟨_,rfl⟩
   rw [hq] at c1
   have kk:(k:Int)<(n:Int):=by omega
   have m60:m≤60:=by have:=HM.out k m (by omega) hm';omega
   have HMM:=Lib.hid hm'
   have HQ:=Lib.hid hq
   obtain ⟨F,hF⟩:∃ F,uend c y 2 m+1=F:=⟨_,rfl⟩
   have Fb:0≤F∧F≤3068037:=by have:=HM.out k m (by omega) hm';omega
   rw [hF]
   have HF:=Lib.hid hF
   clear hv hm' hq R2 hF
   obtain ⟨_,d0,d1,d2,d3,d4,d5,d6,d7,d8,d9,d10,d11,d12,d13⟩:=id C2
   go_wp2_with fail
   refine (c1 _ T2).mono ?_
   rintro e w8 ⟨rfl,hb⟩
   replace X:=X.kept hb
   replace C2:=C2.kept hb
   replace T2:=T2.kept hb
   clear hb c1 d0 d1 d2 d3 d4 d5 d6 d7 d8 d9 d10 d11 d12 d13
   by_cases hl:k+1<n
   ·have kl:(k:Int)+1<(n:Int):=by omega
    have kl2:((k:Int)+1==(n:Int))=false:=beq_eq_false_iff_ne.2 (by omega)
    have c2:=HC.out ((k:Int)+2) (by omega) (by omega)
    obtain ⟨x,hx⟩:∃ x,quar (n:Int) ((k:Int)+2)=x:=⟨_,rfl⟩
    rw [hx] at c2
    have HX:Hid (qnx (n:Int) k=x):=Lib.hid (by unfold qnx;rw [if_neg (by omega)];exact hx)
    clear hx
    obtain ⟨_,d0,d1,d2,d3,d4,d5,d6,d7,d8,d9,d10,d11,d12,d13⟩:=id C2
    go_wp2_with fail
    refine (c2 _ T2).mono ?_
    rintro e w9 ⟨rfl,hb⟩
    replace X:=X.kept hb
    clear hb c2 d0 d1 d2 d3 d4 d5 d6 d7 d8 d9 d10 d11 d12 d13 C2 T2
    have qb:=HQB.out ((k:Int)+1)
    rw [HQ.out] at qb
    rw [HQ.out,HX.out] at HS
    rcases HS with ⟨h1,h4,h2,h3⟩|⟨h1,_,h2⟩
    ·have qm:q.tmod 2=0:=by rw [Int.tmod_eq_emod_of_nonneg (by omega)];exact h4
     clear h4
     have HN:=Lib.hid h2
     have HU:Hid (uend c y 2 ((m:Int)+1)=v):=Lib.hid (h3.trans HV.out)
     clear h2 h3
     go_wp2_with (first
      | (at_builtin;refine wpList_append_own_at _ rfl _ _ 56 rfl w3.heap.size 26 i1 (.agg #[.int .i64 0,.int .i64 0]) 2 16 runderS hi hz0 hz1 hz2 rfl (by decide) _ m (scells (spl c y 2 m)) rfl (X.a.alloc _) ⟨_,0,none⟩ 1 1 [.int .i64 F,.int .i64 v] rfl rfl ?c1 ?c2 ?c3 ?c4 ?c5 ?m1))
     case c1 =>
      intro j u hj
      match j,hj with
      | 0,hj=>simp at hj;subst hj;simp [Addr.add,go_sem]
      | 1,hj=>simp at hj;subst hj;simp [Addr.add,go_sem]
     case c2=>intro u hu;simp at hu;rcases hu with rfl|rfl<;>rfl
     case c3=>unfold maxLen;omega
     case c4=>omega
     case c5=>have z1:=X.below.size;simp;omega
     case m1 =>
      intro v3 wz hown3 hg3 _ hat
      have X4:=X.next hown3 hg3
      have X5:OneS 26 w3 wz v3 (m+1) (spl c y 2 (m+1)):=by
       show OneS 26 w3 wz v3 (m+1) (spl c y 2 m++[(uend c y 2 m+1,uend c y 2 ((m:Int)+1))])
       rw [HF.out,HU.out]
       exact X4
      clear X4
      go_wp2
      go_roundw
      case rel=>exact ⟨k+1,m+1,by omega,by have:=HN.out;omega,by go_num,by rw [show ((m+1:Nat):Int)=(m:Int)+1 by omega,HU.out],X5⟩
      case measure=>simp [intOf];omega
    ·by_cases hx:q<x
     ·have qm:q.tmod 2=1:=by
       have z:¬ q%2=0:=fun z=>h1 ⟨hx,z⟩
       rw [Int.tmod_eq_emod_of_nonneg (by omega)];omega
      clear h1
      have HN:=Lib.hid h2
      clear h2
      go_wp2
      go_roundw
      case rel=>exact ⟨k+1,m,by omega,by rw [HN.out],by go_num,by rw [HF.out],X⟩
      case measure=>simp [intOf];omega
     ·clear h1
      have HN:=Lib.hid h2
      clear h2
      go_wp2
      go_roundw
      case rel=>exact ⟨k+1,m,by omega,by rw [HN.out],by go_num,by rw [HF.out],X⟩
      case measure=>simp [intOf];omega
   ·have kl:¬ (k:Int)+1<(n:Int):=by omega
    have kl2:((k:Int)+1==(n:Int))=true:=beq_iff_eq.2 (by omega)
    have HX:Hid (qnx (n:Int) k=5):=Lib.hid (by unfold qnx;rw [if_pos (by omega)])
    clear C2 T2
    have qb:=HQB.out ((k:Int)+1)
    rw [HQ.out] at qb
    rw [HQ.out,HX.out] at HS
    rcases HS with ⟨h1,h4,h2,h3⟩|⟨_,h0,_⟩
    ·have qm:q.tmod 2=0:=by rw [Int.tmod_eq_emod_of_nonneg (by omega)];exact h4
     clear h4
     have HN:=Lib.hid h2
     have HU:Hid (uend c y 2 ((m:Int)+1)=v):=Lib.hid (h3.trans HV.out)
     clear h2 h3
     go_wp2_with (first
      | (at_builtin;refine wpList_append_own_at _ rfl _ _ 56 rfl w3.heap.size 26 i1 (.agg #[.int .i64 0,.int .i64 0]) 2 16 runderS hi hz0 hz1 hz2 rfl (by decide) _ m (scells (spl c y 2 m)) rfl (X.a.alloc _) ⟨_,0,none⟩ 1 1 [.int .i64 F,.int .i64 v] rfl rfl ?c1 ?c2 ?c3 ?c4 ?c5 ?m1))
     case c1 =>
      intro j u hj
      match j,hj with
      | 0,hj=>simp at hj;subst hj;simp [Addr.add,go_sem]
      | 1,hj=>simp at hj;subst hj;simp [Addr.add,go_sem]
     case c2=>intro u hu;simp at hu;rcases hu with rfl|rfl<;>rfl
     case c3=>unfold maxLen;omega
     case c4=>omega
     case c5=>have z1:=X.below.size;simp;omega
     case m1 =>
      intro v3 wz hown3 hg3 _ hat
      have X4:=X.next hown3 hg3
      have X5:OneS 26 w3 wz v3 (m+1) (spl c y 2 (m+1)):=by
       show OneS 26 w3 wz v3 (m+1) (spl c y 2 m++[(uend c y 2 m+1,uend c y 2 ((m:Int)+1))])
       rw [HF.out,HU.out]
       exact X4
      clear X4
      go_wp2
      go_roundw
      case rel=>exact ⟨k+1,m+1,by omega,by have:=HN.out;omega,by go_num,by rw [show ((m+1:Nat):Int)=(m:Int)+1 by omega,HU.out],X5⟩
      case measure=>simp [intOf];omega
    ·exact absurd h0 (by omega)
  ·obtain rfl:k=n:=by omega
   have kk:¬ (k:Int)<(k:Int):=by omega
   have hmN:=HE.out m hm'
   obtain rfl:N=m:=by omega
   have QQ:=X.out (spl_len _ _ _ _) (by omega)
   obtain ⟨g,cap,rfl,QQ,le,hcap⟩:=QQ
   have bb:=bthen B X.below
   have Z:SpTo w N (spl c y 2 N) (.returned (.tuple #[.slice (some ⟨g,0,none⟩) N cap,.int .i64 0])) wr:=⟨g,cap,rfl,QQ,by omega,bb,hcap⟩
   have HZ:=Lib.hid Z
   clear Z QQ X bb
   go_wp2
   exact bodyPost_ret (v:=.tuple #[.slice (some ⟨g,0,none⟩) N cap,.int .i64 0]) (by simp [results,Tryz.results19,go_sem]) rfl HZ.out

set_option maxRecDepth 100000 in
theorem rspans_3 (c:CalZ)(y:Int)(n N:Nat)(w:World)(ok:CalOk c)(sv:Served c y)(hn:(n:Int)=per c)(hN:(N:Int)=ucount c y 3)(K:ChkSays c)(hm:c.nm.size≤maxLen)(T:FTab w) :
  Calls Tryz.prog 19 #[.agg #[.string c.nm,.int .i64 c.k,.int .i64 c.d,.int .i64 c.m,.int .i64 c.s,.int .i64 c.sh,.int .i64 c.p0,.int .i64 c.p1,.int .i64 c.p2,.int .i64 c.cy,.int .i64 c.ex,.int .i64 c.fi,.int .i64 c.la,.int .i64 c.po],.int .i64 3,.int .i64 y] w (SpTo w N (spl c y 3 N)):=by
 obtain ⟨i1,hi,hz0,hz1,hz2⟩:=info_parts rinfoS
 have C:=CalIn.new w c 24
 have B:=balloc (Below.refl _ w) (.cells #[.string c.nm,.int .i64 c.k,.int .i64 c.d,.int .i64 c.m,.int .i64 c.s,.int .i64 c.sh,.int .i64 c.p0,.int .i64 c.p1,.int .i64 c.p2,.int .i64 c.cy,.int .i64 c.ex,.int .i64 c.fi,.int .i64 c.la,.int .i64 c.po] 24)
 replace T:=T.alloc (.cells #[.string c.nm,.int .i64 c.k,.int .i64 c.d,.int .i64 c.m,.int .i64 c.s,.int .i64 c.sh,.int .i64 c.p0,.int .i64 c.p1,.int .i64 c.p2,.int .i64 c.cy,.int .i64 c.ex,.int .i64 c.fi,.int .i64 c.la,.int .i64 c.po] 24)
 have st:=served_told ok sv
 have ck:=fun w=>K 0 w (.inl ⟨ok,rfl⟩)
 have cs:=fun w=>rStart_any c y (uend c y 3 (0:Nat)+1) 0 w (.inl ⟨ok,by omega,by omega,by rw [show ((0:Nat):Int)=0 from rfl,uend_zero ok.1 (by omega) (by omega) (by unfold LevOk;omega),pend_zero],rfl⟩) K
 have ce:=fun w T=>rEnds_ok c y n w ok (by omega) (by omega) hn K hm T
 have cb:=ucount_bd (L:=3) (y:=y) ok.1 (by omega) (by omega)
 rw [← hN] at cb
 have pb:=per_bd ok.1
 rw [← hn] at pb
 have f0:decide (y<c.fi)=false:=decide_eq_false (by unfold Served at sv;omega)
 have f1:decide (c.la<y)=false:=decide_eq_false (by unfold Served at sv;omega)
 have HC:Hid (∀ (p:Int),1≤p→p≤(n:Int)→∀ w (T:FTab w),Calls Tryz.prog 33 #[.agg #[.string c.nm,.int .i64 c.k,.int .i64 c.d,.int .i64 c.m,.int .i64 c.s,.int .i64 c.sh,.int .i64 c.p0,.int .i64 c.p1,.int .i64 c.p2,.int .i64 c.cy,.int .i64 c.ex,.int .i64 c.fi,.int .i64 c.la,.int .i64 c.po],.int .i64 p] w fun e w'=>e= .returned (.tuple #[.int .i64 (quar (n:Int) p),.int .i64 0])∧Below w.heap.size w w') :=
  Lib.hid (fun p p0 p1 w T=>Hl.rQuarter_any c p (quar n p) 0 w (.inl ⟨ok,p0,by omega,by rw [hn],rfl⟩) hm T)
 have HB:Hid (∀ k:Nat,k<n→0≤fend c y k∧fend c y k≤3068036) :=
  Lib.hid (fun k hk=>by
   have b:=pend_bd ok.1 (y:=y) (p:=(k:Int)+1) (by omega) (by omega) (by omega) (by omega)
   exact ⟨b.1,b.2⟩)
 have HQB:Hid (∀ p:Int,1≤quar (n:Int) p∧quar (n:Int) p≤4):=Lib.hid (fun p=>by have:=quar_cases (n:Int) p;omega)
 have HM:Hid (∀ k m:Nat,k≤n→(m:Int)=spM (n:Int) 3 k→(m:Int)≤60∧0≤uend c y 3 m+1∧uend c y 3 m+1≤3068037) :=
  Lib.hid (fun k m hk e=>by
   have b:(m:Int)≤ucount c y 3:=by
    rw [e,hn]
    exact (spm_le ok.1 3 (by omega) (by omega) (by omega)).2
   have b2:=uend_bd (L:=3) (i:=m) ok.1 (y:=y) (by omega) (by omega) (by unfold LevOk;omega) (by omega) b
   omega)
 have HE:Hid (∀ m:Nat,(m:Int)=spM (n:Int) 3 n→(m:Int)=N):=Lib.hid (fun m e=>by rw [e,hN,hn];exact spm_last ok.1 3 (by omega) (by omega) hn)
 have H0:Hid (((0:Nat):Int)=spM (n:Int) 3 0):=Lib.hid (by rw [hn,spm_zero ok.1];rfl)
 have HL:Hid (∀ k m:Nat,k<n→(m:Int)=spM (n:Int) 3 k→(quar n ((k:Int)+1)<qnx n k∧spM n 3 (k+1)=m+1∧uend c y 3 ((m:Int)+1)=fend c y k)∨(¬ quar n ((k:Int)+1)<qnx n k∧(k:Int)+1<n∧spM n 3 (k+1)=m)) :=
  Lib.hid (fun k m hk hm'=>by
   have h:=sp_3 (y:=y) ok.1 (k:=k) (by omega)
   rw [← hn,← hm'] at h
   exact h)
 have n52:(n:Int)≤52:=by omega
 have n12:(12:Int)≤(n:Int):=by omega
 have N1:1≤N∧N≤60:=by omega
 clear ok sv hn hN K st cb pb
 go_enter Tryz.func19,Tryz.ntmps19
 go_upto_region 1 with fail
 generalize w.alloc (.cells #[.string c.nm,.int .i64 c.k,.int .i64 c.d,.int .i64 c.m,.int .i64 c.s,.int .i64 c.sh,.int .i64 c.p0,.int .i64 c.p1,.int .i64 c.p2,.int .i64 c.cy,.int .i64 c.ex,.int .i64 c.fi,.int .i64 c.la,.int .i64 c.po] 24)=W0 at *
 obtain ⟨_,c0,c1,c2,c3,c4,c5,c6,c7,c8,c9,c10,c11,c12,c13⟩:=id C
 go_wp2_with fail
 refine (ck _).mono ?_
 rintro e w1 ⟨rfl,hb⟩
 replace C:=C.kept hb
 replace B:=bthen B hb
 replace T:=T.kept hb
 clear hb c0 c1 c2 c3 c4 c5 c6 c7 c8 c9 c10 c11 c12 c13 
 obtain ⟨_,c0,c1,c2,c3,c4,c5,c6,c7,c8,c9,c10,c11,c12,c13⟩:=id C
 go_wp2_with fail
 refine (cs _).mono ?_
 rintro e w2 ⟨rfl,hb⟩
 replace C:=C.kept hb
 replace B:=bthen B hb
 replace T:=T.kept hb
 clear hb c0 c1 c2 c3 c4 c5 c6 c7 c8 c9 c10 c11 c12 c13 
 obtain ⟨_,c0,c1,c2,c3,c4,c5,c6,c7,c8,c9,c10,c11,c12,c13⟩:=id C
 go_wp2_with fail
 refine (ce _ T).mono ?_
 rintro e w3 ⟨ge,cape,rfl,R,hge,hb⟩
 replace C:=C.kept hb
 replace B:=bthen B hb
 replace T:=T.kept hb
 clear hb c0 c1 c2 c3 c4 c5 c6 c7 c8 c9 c10 c11 c12 c13 
 obtain ⟨_,c0,c1,c2,c3,c4,c5,c6,c7,c8,c9,c10,c11,c12,c13⟩:=id C
 clear hge
 obtain ⟨_,_,_⟩:=id R
 clear ck cs ce
 clear c0 c1 c2 c3 c4 c5 c6 c7 c8 c9 c10 c11 c12 c13 
 go_wp2
 go_loopw [9,13,54] (fun F Z I wr=>∃ k m:Nat,k≤n∧(m:Int)=spM (n:Int) 3 k∧I= .int .i64 (k:Int)∧F= .int .i64 (uend c y 3 m+1)∧OneS 26 w3 wr Z m (spl c y 3 m)) (fun _ _ I _=>n - (intOf I).toNat)
 case atStart=>exact ⟨0,0,by omega,H0.out,rfl,rfl,OneS.start _ (Below.refl _ _)⟩
 case round =>
  obtain ⟨k,m,kM,hm',rfl,rfl,X⟩:=hrel
  have C2:=C.kept X.below
  have T2:=T.kept X.below
  have R2:=R.kept X.below
  by_cases hlt:k<n
  ·have rk:=R2.c k hlt
   have vb:=HB.out k hlt
   have c1:=HC.out ((k:Int)+1) (by omega) (by omega)
   have HS:=HL.out k m hlt hm'
   obtain ⟨v,hv⟩:∃ v,fend c y k=v:=⟨_,rfl⟩
   rw [hv] at rk vb
   have HV:=Lib.hid hv
   obtain ⟨q,hq⟩:∃ q,quar (n:Int) ((k:Int)+1)=q:=⟨_,rfl⟩
   rw [hq] at c1
   have kk:(k:Int)<(n:Int):=by omega
   have m60:m≤60:=by have:=HM.out k m (by omega) hm';omega
   have HMM:=Lib.hid hm'
   have HQ:=Lib.hid hq
   obtain ⟨F,hF⟩:∃ F,uend c y 3 m+1=F:=⟨_,rfl⟩
   have Fb:0≤F∧F≤3068037:=by have:=HM.out k m (by omega) hm';omega
   rw [hF]
   have HF:=Lib.hid hF
   clear hv hm' hq R2 hF
   obtain ⟨_,d0,d1,d2,d3,d4,d5,d6,d7,d8,d9,d10,d11,d12,d13⟩:=id C2
   go_wp2_with fail
   refine (c1 _ T2).mono ?_
   rintro e w8 ⟨rfl,hb⟩
   replace X:=X.kept hb
   replace C2:=C2.kept hb
   replace T2:=T2.kept hb
   clear hb c1 d0 d1 d2 d3 d4 d5 d6 d7 d8 d9 d10 d11 d12 d13
   by_cases hl:k+1<n
   ·have kl:(k:Int)+1<(n:Int):=by omega
    have kl2:((k:Int)+1==(n:Int))=false:=beq_eq_false_iff_ne.2 (by omega)
    have c2:=HC.out ((k:Int)+2) (by omega) (by omega)
    obtain ⟨x,hx⟩:∃ x,quar (n:Int) ((k:Int)+2)=x:=⟨_,rfl⟩
    rw [hx] at c2
    have HX:Hid (qnx (n:Int) k=x):=Lib.hid (by unfold qnx;rw [if_neg (by omega)];exact hx)
    clear hx
    obtain ⟨_,d0,d1,d2,d3,d4,d5,d6,d7,d8,d9,d10,d11,d12,d13⟩:=id C2
    go_wp2_with fail
    refine (c2 _ T2).mono ?_
    rintro e w9 ⟨rfl,hb⟩
    replace X:=X.kept hb
    clear hb c2 d0 d1 d2 d3 d4 d5 d6 d7 d8 d9 d10 d11 d12 d13 C2 T2
    have qb:=HQB.out ((k:Int)+1)
    rw [HQ.out] at qb
    rw [HQ.out,HX.out] at HS
    rcases HS with ⟨h1,h2,h3⟩|⟨h1,_,h2⟩
    ·have HN:=Lib.hid h2
     have HU:Hid (uend c y 3 ((m:Int)+1)=v):=Lib.hid (h3.trans HV.out)
     clear h2 h3
     go_wp2_with (first
      | (at_builtin;refine wpList_append_own_at _ rfl _ _ 56 rfl w3.heap.size 26 i1 (.agg #[.int .i64 0,.int .i64 0]) 2 16 runderS hi hz0 hz1 hz2 rfl (by decide) _ m (scells (spl c y 3 m)) rfl (X.a.alloc _) ⟨_,0,none⟩ 1 1 [.int .i64 F,.int .i64 v] rfl rfl ?c1 ?c2 ?c3 ?c4 ?c5 ?m1))
     case c1 =>
      intro j u hj
      match j,hj with
      | 0,hj=>simp at hj;subst hj;simp [Addr.add,go_sem]
      | 1,hj=>simp at hj;subst hj;simp [Addr.add,go_sem]
     case c2=>intro u hu;simp at hu;rcases hu with rfl|rfl<;>rfl
     case c3=>unfold maxLen;omega
     case c4=>omega
     case c5=>have z1:=X.below.size;simp;omega
     case m1 =>
      intro v3 wz hown3 hg3 _ hat
      have X4:=X.next hown3 hg3
      have X5:OneS 26 w3 wz v3 (m+1) (spl c y 3 (m+1)):=by
       show OneS 26 w3 wz v3 (m+1) (spl c y 3 m++[(uend c y 3 m+1,uend c y 3 ((m:Int)+1))])
       rw [HF.out,HU.out]
       exact X4
      clear X4
      go_wp2
      go_roundw
      case rel=>exact ⟨k+1,m+1,by omega,by have:=HN.out;omega,by go_num,by rw [show ((m+1:Nat):Int)=(m:Int)+1 by omega,HU.out],X5⟩
      case measure=>simp [intOf];omega
    ·have HN:=Lib.hid h2
     clear h2
     go_wp2
     go_roundw
     case rel=>exact ⟨k+1,m,by omega,by rw [HN.out],by go_num,by rw [HF.out],X⟩
     case measure=>simp [intOf];omega
   ·have kl:¬ (k:Int)+1<(n:Int):=by omega
    have kl2:((k:Int)+1==(n:Int))=true:=beq_iff_eq.2 (by omega)
    have HX:Hid (qnx (n:Int) k=5):=Lib.hid (by unfold qnx;rw [if_pos (by omega)])
    clear C2 T2
    have qb:=HQB.out ((k:Int)+1)
    rw [HQ.out] at qb
    rw [HQ.out,HX.out] at HS
    rcases HS with ⟨h1,h2,h3⟩|⟨_,h0,_⟩
    ·have HN:=Lib.hid h2
     have HU:Hid (uend c y 3 ((m:Int)+1)=v):=Lib.hid (h3.trans HV.out)
     clear h2 h3
     go_wp2_with (first
      | (at_builtin;refine wpList_append_own_at _ rfl _ _ 56 rfl w3.heap.size 26 i1 (.agg #[.int .i64 0,.int .i64 0]) 2 16 runderS hi hz0 hz1 hz2 rfl (by decide) _ m (scells (spl c y 3 m)) rfl (X.a.alloc _) ⟨_,0,none⟩ 1 1 [.int .i64 F,.int .i64 v] rfl rfl ?c1 ?c2 ?c3 ?c4 ?c5 ?m1))
     case c1 =>
      intro j u hj
      match j,hj with
      | 0,hj=>simp at hj;subst hj;simp [Addr.add,go_sem]
      | 1,hj=>simp at hj;subst hj;simp [Addr.add,go_sem]
     case c2=>intro u hu;simp at hu;rcases hu with rfl|rfl<;>rfl
     case c3=>unfold maxLen;omega
     case c4=>omega
     case c5=>have z1:=X.below.size;simp;omega
     case m1 =>
      intro v3 wz hown3 hg3 _ hat
      have X4:=X.next hown3 hg3
      have X5:OneS 26 w3 wz v3 (m+1) (spl c y 3 (m+1)):=by
       show OneS 26 w3 wz v3 (m+1) (spl c y 3 m++[(uend c y 3 m+1,uend c y 3 ((m:Int)+1))])
       rw [HF.out,HU.out]
       exact X4
      clear X4
      go_wp2
      go_roundw
      case rel=>exact ⟨k+1,m+1,by omega,by have:=HN.out;omega,by go_num,by rw [show ((m+1:Nat):Int)=(m:Int)+1 by omega,HU.out],X5⟩
      case measure=>simp [intOf];omega
    ·exact absurd h0 (by omega)
  ·obtain rfl:k=n:=by omega
   have kk:¬ (k:Int)<(k:Int):=by omega
   have hmN:=HE.out m hm'
   obtain rfl:N=m:=by omega
   have QQ:=X.out (spl_len _ _ _ _) (by omega)
   obtain ⟨g,cap,rfl,QQ,le,hcap⟩:=QQ
   have bb:=bthen B X.below
   have Z:SpTo w N (spl c y 3 N) (.returned (.tuple #[.slice (some ⟨g,0,none⟩) N cap,.int .i64 0])) wr:=⟨g,cap,rfl,QQ,by omega,bb,hcap⟩
   have HZ:=Lib.hid Z
   clear Z QQ X bb
   go_wp2
   exact bodyPost_ret (v:=.tuple #[.slice (some ⟨g,0,none⟩) N cap,.int .i64 0]) (by simp [results,Tryz.results19,go_sem]) rfl HZ.out

set_option maxRecDepth 100000 in
theorem rspans_4 (c:CalZ)(y:Int)(n N:Nat)(w:World)(ok:CalOk c)(sv:Served c y)(hn:(n:Int)=per c)(hN:(N:Int)=ucount c y 4)(K:ChkSays c)(hm:c.nm.size≤maxLen)(T:FTab w) :
  Calls Tryz.prog 19 #[.agg #[.string c.nm,.int .i64 c.k,.int .i64 c.d,.int .i64 c.m,.int .i64 c.s,.int .i64 c.sh,.int .i64 c.p0,.int .i64 c.p1,.int .i64 c.p2,.int .i64 c.cy,.int .i64 c.ex,.int .i64 c.fi,.int .i64 c.la,.int .i64 c.po],.int .i64 4,.int .i64 y] w (SpTo w N (spl c y 4 N)):=by
 obtain ⟨i1,hi,hz0,hz1,hz2⟩:=info_parts rinfoS
 have C:=CalIn.new w c 24
 have B:=balloc (Below.refl _ w) (.cells #[.string c.nm,.int .i64 c.k,.int .i64 c.d,.int .i64 c.m,.int .i64 c.s,.int .i64 c.sh,.int .i64 c.p0,.int .i64 c.p1,.int .i64 c.p2,.int .i64 c.cy,.int .i64 c.ex,.int .i64 c.fi,.int .i64 c.la,.int .i64 c.po] 24)
 replace T:=T.alloc (.cells #[.string c.nm,.int .i64 c.k,.int .i64 c.d,.int .i64 c.m,.int .i64 c.s,.int .i64 c.sh,.int .i64 c.p0,.int .i64 c.p1,.int .i64 c.p2,.int .i64 c.cy,.int .i64 c.ex,.int .i64 c.fi,.int .i64 c.la,.int .i64 c.po] 24)
 have st:=served_told ok sv
 have ck:=fun w=>K 0 w (.inl ⟨ok,rfl⟩)
 have cs:=fun w=>rStart_any c y (uend c y 4 (0:Nat)+1) 0 w (.inl ⟨ok,by omega,by omega,by rw [show ((0:Nat):Int)=0 from rfl,uend_zero ok.1 (by omega) (by omega) (by unfold LevOk;omega),pend_zero],rfl⟩) K
 have ce:=fun w T=>rEnds_ok c y n w ok (by omega) (by omega) hn K hm T
 have cb:=ucount_bd (L:=4) (y:=y) ok.1 (by omega) (by omega)
 rw [← hN] at cb
 have pb:=per_bd ok.1
 rw [← hn] at pb
 have f0:decide (y<c.fi)=false:=decide_eq_false (by unfold Served at sv;omega)
 have f1:decide (c.la<y)=false:=decide_eq_false (by unfold Served at sv;omega)
 have HC:Hid (∀ (p:Int),1≤p→p≤(n:Int)→∀ w (T:FTab w),Calls Tryz.prog 33 #[.agg #[.string c.nm,.int .i64 c.k,.int .i64 c.d,.int .i64 c.m,.int .i64 c.s,.int .i64 c.sh,.int .i64 c.p0,.int .i64 c.p1,.int .i64 c.p2,.int .i64 c.cy,.int .i64 c.ex,.int .i64 c.fi,.int .i64 c.la,.int .i64 c.po],.int .i64 p] w fun e w'=>e= .returned (.tuple #[.int .i64 (quar (n:Int) p),.int .i64 0])∧Below w.heap.size w w') :=
  Lib.hid (fun p p0 p1 w T=>Hl.rQuarter_any c p (quar n p) 0 w (.inl ⟨ok,p0,by omega,by rw [hn],rfl⟩) hm T)
 have HB:Hid (∀ k:Nat,k<n→0≤fend c y k∧fend c y k≤3068036) :=
  Lib.hid (fun k hk=>by
   have b:=pend_bd ok.1 (y:=y) (p:=(k:Int)+1) (by omega) (by omega) (by omega) (by omega)
   exact ⟨b.1,b.2⟩)
 have HQB:Hid (∀ p:Int,1≤quar (n:Int) p∧quar (n:Int) p≤4):=Lib.hid (fun p=>by have:=quar_cases (n:Int) p;omega)
 have HM:Hid (∀ k m:Nat,k≤n→(m:Int)=spM (n:Int) 4 k→(m:Int)≤60∧0≤uend c y 4 m+1∧uend c y 4 m+1≤3068037) :=
  Lib.hid (fun k m hk e=>by
   have b:(m:Int)≤ucount c y 4:=by
    rw [e,hn]
    exact (spm_le ok.1 4 (by omega) (by omega) (by omega)).2
   have b2:=uend_bd (L:=4) (i:=m) ok.1 (y:=y) (by omega) (by omega) (by unfold LevOk;omega) (by omega) b
   omega)
 have HE:Hid (∀ m:Nat,(m:Int)=spM (n:Int) 4 n→(m:Int)=N):=Lib.hid (fun m e=>by rw [e,hN,hn];exact spm_last ok.1 4 (by omega) (by omega) hn)
 have H0:Hid (((0:Nat):Int)=spM (n:Int) 4 0):=Lib.hid (by rw [hn,spm_zero ok.1];rfl)
 have HL:Hid (∀ k m:Nat,k<n→(m:Int)=spM (n:Int) 4 k→spM n 4 (k+1)=m+1∧uend c y 4 ((m:Int)+1)=fend c y k) :=
  Lib.hid (fun k m hk hm'=>by
   have h:=sp_4 (y:=y) (c:=c) (k:=k) (by omega)
   rw [← hn,← hm'] at h
   exact h)
 have n52:(n:Int)≤52:=by omega
 have n12:(12:Int)≤(n:Int):=by omega
 have N1:1≤N∧N≤60:=by omega
 clear ok sv hn hN K st cb pb
 go_enter Tryz.func19,Tryz.ntmps19
 go_upto_region 1 with fail
 generalize w.alloc (.cells #[.string c.nm,.int .i64 c.k,.int .i64 c.d,.int .i64 c.m,.int .i64 c.s,.int .i64 c.sh,.int .i64 c.p0,.int .i64 c.p1,.int .i64 c.p2,.int .i64 c.cy,.int .i64 c.ex,.int .i64 c.fi,.int .i64 c.la,.int .i64 c.po] 24)=W0 at *
 obtain ⟨_,c0,c1,c2,c3,c4,c5,c6,c7,c8,c9,c10,c11,c12,c13⟩:=id C
 go_wp2_with fail
 refine (ck _).mono ?_
 rintro e w1 ⟨rfl,hb⟩
 replace C:=C.kept hb
 replace B:=bthen B hb
 replace T:=T.kept hb
 clear hb c0 c1 c2 c3 c4 c5 c6 c7 c8 c9 c10 c11 c12 c13 
 obtain ⟨_,c0,c1,c2,c3,c4,c5,c6,c7,c8,c9,c10,c11,c12,c13⟩:=id C
 go_wp2_with fail
 refine (cs _).mono ?_
 rintro e w2 ⟨rfl,hb⟩
 replace C:=C.kept hb
 replace B:=bthen B hb
 replace T:=T.kept hb
 clear hb c0 c1 c2 c3 c4 c5 c6 c7 c8 c9 c10 c11 c12 c13 
 obtain ⟨_,c0,c1,c2,c3,c4,c5,c6,c7,c8,c9,c10,c11,c12,c13⟩:=id C
 go_wp2_with fail
 refine (ce _ T).mono ?_
 rintro e w3 ⟨ge,cape,rfl,R,hge,hb⟩
 replace C:=C.kept hb
 replace B:=bthen B hb
 replace T:=T.kept hb
 clear hb c0 c1 c2 c3 c4 c5 c6 c7 c8 c9 c10 c11 c12 c13 
 obtain ⟨_,c0,c1,c2,c3,c4,c5,c6,c7,c8,c9,c10,c11,c12,c13⟩:=id C
 clear hge
 obtain ⟨_,_,_⟩:=id R
 clear ck cs ce
 clear c0 c1 c2 c3 c4 c5 c6 c7 c8 c9 c10 c11 c12 c13 
 go_wp2
 go_loopw [9,13,54] (fun F Z I wr=>∃ k m:Nat,k≤n∧(m:Int)=spM (n:Int) 4 k∧I= .int .i64 (k:Int)∧F= .int .i64 (uend c y 4 m+1)∧OneS 26 w3 wr Z m (spl c y 4 m)) (fun _ _ I _=>n - (intOf I).toNat)
 case atStart=>exact ⟨0,0,by omega,H0.out,rfl,rfl,OneS.start _ (Below.refl _ _)⟩
 case round =>
  obtain ⟨k,m,kM,hm',rfl,rfl,X⟩:=hrel
  have C2:=C.kept X.below
  have T2:=T.kept X.below
  have R2:=R.kept X.below
  by_cases hlt:k<n
  ·have rk:=R2.c k hlt
   have vb:=HB.out k hlt
   have c1:=HC.out ((k:Int)+1) (by omega) (by omega)
   have HS:=HL.out k m hlt hm'
   obtain ⟨v,hv⟩:∃ v,fend c y k=v:=⟨_,rfl⟩
   rw [hv] at rk vb
   have HV:=Lib.hid hv
   obtain ⟨q,hq⟩:∃ q,quar (n:Int) ((k:Int)+1)=q:=⟨_,rfl⟩
   rw [hq] at c1
   have kk:(k:Int)<(n:Int):=by omega
   have m60:m≤60:=by have:=HM.out k m (by omega) hm';omega
   have HMM:=Lib.hid hm'
   have HQ:=Lib.hid hq
   obtain ⟨F,hF⟩:∃ F,uend c y 4 m+1=F:=⟨_,rfl⟩
   have Fb:0≤F∧F≤3068037:=by have:=HM.out k m (by omega) hm';omega
   rw [hF]
   have HF:=Lib.hid hF
   clear hv hm' hq R2 hF
   obtain ⟨_,d0,d1,d2,d3,d4,d5,d6,d7,d8,d9,d10,d11,d12,d13⟩:=id C2
   go_wp2_with fail
   refine (c1 _ T2).mono ?_
   rintro e w8 ⟨rfl,hb⟩
   replace X:=X.kept hb
   replace C2:=C2.kept hb
   replace T2:=T2.kept hb
   clear hb c1 d0 d1 d2 d3 d4 d5 d6 d7 d8 d9 d10 d11 d12 d13
   by_cases hl:k+1<n
   ·have kl:(k:Int)+1<(n:Int):=by omega
    have kl2:((k:Int)+1==(n:Int))=false:=beq_eq_false_iff_ne.2 (by omega)
    have c2:=HC.out ((k:Int)+2) (by omega) (by omega)
    obtain ⟨x,hx⟩:∃ x,quar (n:Int) ((k:Int)+2)=x:=⟨_,rfl⟩
    rw [hx] at c2
    have HX:Hid (qnx (n:Int) k=x):=Lib.hid (by unfold qnx;rw [if_neg (by omega)];exact hx)
    clear hx
    obtain ⟨_,d0,d1,d2,d3,d4,d5,d6,d7,d8,d9,d10,d11,d12,d13⟩:=id C2
    go_wp2_with fail
    refine (c2 _ T2).mono ?_
    rintro e w9 ⟨rfl,hb⟩
    replace X:=X.kept hb
    clear hb c2 d0 d1 d2 d3 d4 d5 d6 d7 d8 d9 d10 d11 d12 d13 C2 T2
    have qb:=HQB.out ((k:Int)+1)
    rw [HQ.out] at qb
    obtain ⟨h2,h3⟩:=HS
    have HN:=Lib.hid h2
    have HU:Hid (uend c y 4 ((m:Int)+1)=v):=Lib.hid (h3.trans HV.out)
    clear h2 h3
    go_wp2_with (first
     | (at_builtin;refine wpList_append_own_at _ rfl _ _ 56 rfl w3.heap.size 26 i1 (.agg #[.int .i64 0,.int .i64 0]) 2 16 runderS hi hz0 hz1 hz2 rfl (by decide) _ m (scells (spl c y 4 m)) rfl (X.a.alloc _) ⟨_,0,none⟩ 1 1 [.int .i64 F,.int .i64 v] rfl rfl ?c1 ?c2 ?c3 ?c4 ?c5 ?m1))
    case c1 =>
     intro j u hj
     match j,hj with
     | 0,hj=>simp at hj;subst hj;simp [Addr.add,go_sem]
     | 1,hj=>simp at hj;subst hj;simp [Addr.add,go_sem]
    case c2=>intro u hu;simp at hu;rcases hu with rfl|rfl<;>rfl
    case c3=>unfold maxLen;omega
    case c4=>omega
    case c5=>have z1:=X.below.size;simp;omega
    case m1 =>
     intro v3 wz hown3 hg3 _ hat
     have X4:=X.next hown3 hg3
     have X5:OneS 26 w3 wz v3 (m+1) (spl c y 4 (m+1)):=by
      show OneS 26 w3 wz v3 (m+1) (spl c y 4 m++[(uend c y 4 m+1,uend c y 4 ((m:Int)+1))])
      rw [HF.out,HU.out]
      exact X4
     clear X4
     go_wp2
     go_roundw
     case rel=>exact ⟨k+1,m+1,by omega,by have:=HN.out;omega,by go_num,by rw [show ((m+1:Nat):Int)=(m:Int)+1 by omega,HU.out],X5⟩
     case measure=>simp [intOf];omega
   ·have kl:¬ (k:Int)+1<(n:Int):=by omega
    have kl2:((k:Int)+1==(n:Int))=true:=beq_iff_eq.2 (by omega)
    have HX:Hid (qnx (n:Int) k=5):=Lib.hid (by unfold qnx;rw [if_pos (by omega)])
    clear C2 T2
    have qb:=HQB.out ((k:Int)+1)
    rw [HQ.out] at qb
    obtain ⟨h2,h3⟩:=HS
    have HN:=Lib.hid h2
    have HU:Hid (uend c y 4 ((m:Int)+1)=v):=Lib.hid (h3.trans HV.out)
    clear h2 h3
    go_wp2_with (first
     | (at_builtin;refine wpList_append_own_at _ rfl _ _ 56 rfl w3.heap.size 26 i1 (.agg #[.int .i64 0,.int .i64 0]) 2 16 runderS hi hz0 hz1 hz2 rfl (by decide) _ m (scells (spl c y 4 m)) rfl (X.a.alloc _) ⟨_,0,none⟩ 1 1 [.int .i64 F,.int .i64 v] rfl rfl ?c1 ?c2 ?c3 ?c4 ?c5 ?m1))
    case c1 =>
     intro j u hj
     match j,hj with
     | 0,hj=>simp at hj;subst hj;simp [Addr.add,go_sem]
     | 1,hj=>simp at hj;subst hj;simp [Addr.add,go_sem]
    case c2=>intro u hu;simp at hu;rcases hu with rfl|rfl<;>rfl
    case c3=>unfold maxLen;omega
    case c4=>omega
    case c5=>have z1:=X.below.size;simp;omega
    case m1 =>
     intro v3 wz hown3 hg3 _ hat
     have X4:=X.next hown3 hg3
     have X5:OneS 26 w3 wz v3 (m+1) (spl c y 4 (m+1)):=by
      show OneS 26 w3 wz v3 (m+1) (spl c y 4 m++[(uend c y 4 m+1,uend c y 4 ((m:Int)+1))])
      rw [HF.out,HU.out]
      exact X4
     clear X4
     go_wp2
     go_roundw
     case rel=>exact ⟨k+1,m+1,by omega,by have:=HN.out;omega,by go_num,by rw [show ((m+1:Nat):Int)=(m:Int)+1 by omega,HU.out],X5⟩
     case measure=>simp [intOf];omega
  ·obtain rfl:k=n:=by omega
   have kk:¬ (k:Int)<(k:Int):=by omega
   have hmN:=HE.out m hm'
   obtain rfl:N=m:=by omega
   have QQ:=X.out (spl_len _ _ _ _) (by omega)
   obtain ⟨g,cap,rfl,QQ,le,hcap⟩:=QQ
   have bb:=bthen B X.below
   have Z:SpTo w N (spl c y 4 N) (.returned (.tuple #[.slice (some ⟨g,0,none⟩) N cap,.int .i64 0])) wr:=⟨g,cap,rfl,QQ,by omega,bb,hcap⟩
   have HZ:=Lib.hid Z
   clear Z QQ X bb
   go_wp2
   exact bodyPost_ret (v:=.tuple #[.slice (some ⟨g,0,none⟩) N cap,.int .i64 0]) (by simp [results,Tryz.results19,go_sem]) rfl HZ.out

set_option maxRecDepth 100000 in
theorem rspans_5 (c:CalZ)(y:Int)(n N:Nat)(w:World)(ok:CalOk c)(sv:Served c y)(hn:(n:Int)=per c)(hN:(N:Int)=ucount c y 5)(K:ChkSays c)(hm:c.nm.size≤maxLen)(T:FTab w) :
  Calls Tryz.prog 19 #[.agg #[.string c.nm,.int .i64 c.k,.int .i64 c.d,.int .i64 c.m,.int .i64 c.s,.int .i64 c.sh,.int .i64 c.p0,.int .i64 c.p1,.int .i64 c.p2,.int .i64 c.cy,.int .i64 c.ex,.int .i64 c.fi,.int .i64 c.la,.int .i64 c.po],.int .i64 5,.int .i64 y] w (SpTo w N (spl c y 5 N)):=by
 obtain ⟨i1,hi,hz0,hz1,hz2⟩:=info_parts rinfoS
 have C:=CalIn.new w c 24
 have B:=balloc (Below.refl _ w) (.cells #[.string c.nm,.int .i64 c.k,.int .i64 c.d,.int .i64 c.m,.int .i64 c.s,.int .i64 c.sh,.int .i64 c.p0,.int .i64 c.p1,.int .i64 c.p2,.int .i64 c.cy,.int .i64 c.ex,.int .i64 c.fi,.int .i64 c.la,.int .i64 c.po] 24)
 replace T:=T.alloc (.cells #[.string c.nm,.int .i64 c.k,.int .i64 c.d,.int .i64 c.m,.int .i64 c.s,.int .i64 c.sh,.int .i64 c.p0,.int .i64 c.p1,.int .i64 c.p2,.int .i64 c.cy,.int .i64 c.ex,.int .i64 c.fi,.int .i64 c.la,.int .i64 c.po] 24)
 have st:=served_told ok sv
 have ck:=fun w=>K 0 w (.inl ⟨ok,rfl⟩)
 have cs:=fun w=>rStart_any c y (pend c y (0:Nat)+1) 0 w (.inl ⟨ok,by omega,by omega,by rw [show ((0:Nat):Int)=0 from rfl,pend_zero],rfl⟩) K
 have ce:=fun w T=>rEnds_ok c y n w ok (by omega) (by omega) hn K hm T
 have cb:=ucount_bd (L:=5) (y:=y) ok.1 (by omega) (by omega)
 rw [← hN] at cb
 have pb:=per_bd ok.1
 rw [← hn] at pb
 have f0:decide (y<c.fi)=false:=decide_eq_false (by unfold Served at sv;omega)
 have f1:decide (c.la<y)=false:=decide_eq_false (by unfold Served at sv;omega)
 have HC:Hid (∀ (p:Int),1≤p→p≤(n:Int)→∀ w (T:FTab w),Calls Tryz.prog 33 #[.agg #[.string c.nm,.int .i64 c.k,.int .i64 c.d,.int .i64 c.m,.int .i64 c.s,.int .i64 c.sh,.int .i64 c.p0,.int .i64 c.p1,.int .i64 c.p2,.int .i64 c.cy,.int .i64 c.ex,.int .i64 c.fi,.int .i64 c.la,.int .i64 c.po],.int .i64 p] w fun e w'=>e= .returned (.tuple #[.int .i64 (quar (n:Int) p),.int .i64 0])∧Below w.heap.size w w') :=
  Lib.hid (fun p p0 p1 w T=>Hl.rQuarter_any c p (quar n p) 0 w (.inl ⟨ok,p0,by omega,by rw [hn],rfl⟩) hm T)
 have HB:Hid (∀ k:Nat,k<n→0≤fend c y k∧fend c y k≤3068036) :=
  Lib.hid (fun k hk=>by
   have b:=pend_bd ok.1 (y:=y) (p:=(k:Int)+1) (by omega) (by omega) (by omega) (by omega)
   exact ⟨b.1,b.2⟩)
 have HQB:Hid (∀ p:Int,1≤quar (n:Int) p∧quar (n:Int) p≤4):=Lib.hid (fun p=>by have:=quar_cases (n:Int) p;omega)
 have pe:=perN_is ok.1
 have eN:(N:Int)=wsum c y n:=by rw [hN,show n=perN c by omega];rfl
 have HM:Hid (∀ k m:Nat,k≤n→(m:Int)=wsum c y k→(m:Int)≤60∧0≤pend c y k+1∧pend c y k+1≤3068037) :=
  Lib.hid (fun k m hk e=>by
   have s:=wsum_step ok.1 (y:=y) (by omega) (by omega) hk (by omega)
   have b:=pend_bd ok.1 (y:=y) (p:=(k:Int)) (by omega) (by omega) (by omega) (by omega)
   omega)
 have HE:Hid (∀ m:Nat,(m:Int)=wsum c y n→(m:Int)=N):=Lib.hid (fun m e=>by omega)
 have H0:Hid (((0:Nat):Int)=wsum c y 0):=Lib.hid rfl
 have HL:Hid (∀ k m:Nat,k<n→(m:Int)=wsum c y k→∃ wk:Int,1≤wk∧wk≤6∧(m:Int)+wk≤60∧∀ j:Nat,(j:Int)≤wk→(((j:Int)<wk∧pend c y k+7*(j:Int)+1≤fend c y k∧uend c y 5 ((m:Int)+j)=pend c y k+7*(j:Int)∧uend c y 5 ((m:Int)+j+1)=min (pend c y k+7*(j:Int)+1+6) (fend c y k))∨((j:Int)=wk∧¬ pend c y k+7*(j:Int)+1≤fend c y k∧wsum c y (k+1)=(m:Int)+j))) :=
  Lib.hid (fun k m hk hm'=>by
   have wb:=wks_bd ok.1 (y:=y) (p:=(k:Int)+1) (by omega) (by omega) (by omega) (by omega)
   have s:=wsum_step ok.1 (y:=y) (by omega) (by omega) (a:=k+1) (b:=n) (by omega) (by omega)
   have ws:wsum c y (k+1)=wsum c y k+wks c y ((k:Int)+1):=rfl
   refine ⟨_,wb.1,wb.2.1,by omega,fun j hj=>?_⟩
   rw [hm']
   rcases sp_5 ok.1 (y:=y) (by omega) (by omega) (k:=k) (by omega) (j:Int) (by omega) hj with ⟨h1,h2,h3,h4⟩|⟨h1,h2,h3,_⟩
   ·exact .inl ⟨h1,h2,h3,h4⟩
   ·exact .inr ⟨h1,h2,h3⟩)
 clear pe eN
 have n52:(n:Int)≤52:=by omega
 have n12:(12:Int)≤(n:Int):=by omega
 have N1:1≤N∧N≤60:=by omega
 clear ok sv hn hN K st cb pb
 go_enter Tryz.func19,Tryz.ntmps19
 go_upto_region 1 with fail
 generalize w.alloc (.cells #[.string c.nm,.int .i64 c.k,.int .i64 c.d,.int .i64 c.m,.int .i64 c.s,.int .i64 c.sh,.int .i64 c.p0,.int .i64 c.p1,.int .i64 c.p2,.int .i64 c.cy,.int .i64 c.ex,.int .i64 c.fi,.int .i64 c.la,.int .i64 c.po] 24)=W0 at *
 obtain ⟨_,c0,c1,c2,c3,c4,c5,c6,c7,c8,c9,c10,c11,c12,c13⟩:=id C
 go_wp2_with fail
 refine (ck _).mono ?_
 rintro e w1 ⟨rfl,hb⟩
 replace C:=C.kept hb
 replace B:=bthen B hb
 replace T:=T.kept hb
 clear hb c0 c1 c2 c3 c4 c5 c6 c7 c8 c9 c10 c11 c12 c13 
 obtain ⟨_,c0,c1,c2,c3,c4,c5,c6,c7,c8,c9,c10,c11,c12,c13⟩:=id C
 go_wp2_with fail
 refine (cs _).mono ?_
 rintro e w2 ⟨rfl,hb⟩
 replace C:=C.kept hb
 replace B:=bthen B hb
 replace T:=T.kept hb
 clear hb c0 c1 c2 c3 c4 c5 c6 c7 c8 c9 c10 c11 c12 c13 
 obtain ⟨_,c0,c1,c2,c3,c4,c5,c6,c7,c8,c9,c10,c11,c12,c13⟩:=id C
 go_wp2_with fail
 refine (ce _ T).mono ?_
 rintro e w3 ⟨ge,cape,rfl,R,hge,hb⟩
 replace C:=C.kept hb
 replace B:=bthen B hb
 replace T:=T.kept hb
 clear hb c0 c1 c2 c3 c4 c5 c6 c7 c8 c9 c10 c11 c12 c13 
 obtain ⟨_,c0,c1,c2,c3,c4,c5,c6,c7,c8,c9,c10,c11,c12,c13⟩:=id C
 clear hge
 obtain ⟨_,_,_⟩:=id R
 clear ck cs ce
 clear c0 c1 c2 c3 c4 c5 c6 c7 c8 c9 c10 c11 c12 c13 
 go_wp2
 go_loopw [9,13,54] (fun F Z I wr=>∃ k m:Nat,k≤n∧(m:Int)=wsum c y k∧I= .int .i64 (k:Int)∧F= .int .i64 (pend c y k+1)∧OneS 26 w3 wr Z m (spl c y 5 m)) (fun _ _ I _=>n - (intOf I).toNat)
 case atStart=>exact ⟨0,0,by omega,H0.out,rfl,rfl,OneS.start _ (Below.refl _ _)⟩
 case round =>
  obtain ⟨k,m,kM,hm',rfl,rfl,X⟩:=hrel
  have C2:=C.kept X.below
  have T2:=T.kept X.below
  have R2:=R.kept X.below
  by_cases hlt:k<n
  ·have rk:=R2.c k hlt
   have vb:=HB.out k hlt
   have c1:=HC.out ((k:Int)+1) (by omega) (by omega)
   have HS:=HL.out k m hlt hm'
   obtain ⟨v,hv⟩:∃ v,fend c y k=v:=⟨_,rfl⟩
   rw [hv] at rk vb HS
   have HV:=Lib.hid hv
   obtain ⟨q,hq⟩:∃ q,quar (n:Int) ((k:Int)+1)=q:=⟨_,rfl⟩
   rw [hq] at c1
   have kk:(k:Int)<(n:Int):=by omega
   have m60:m≤60:=by have:=HM.out k m (by omega) hm';omega
   have HMM:=Lib.hid hm'
   have HQ:=Lib.hid hq
   obtain ⟨P,hP⟩:∃ P,pend c y k=P:=⟨_,rfl⟩
   rw [hP] at HS
   rw [hP]
   obtain ⟨F,hF⟩:∃ F,P+1=F:=⟨_,rfl⟩
   have Fb:0≤F∧F≤3068037:=by have:=HM.out k m (by omega) hm';omega
   have HP:=Lib.hid hP
   rw [hF]
   have HF:=Lib.hid hF
   clear hv hm' hq R2 hF hP
   obtain ⟨_,d0,d1,d2,d3,d4,d5,d6,d7,d8,d9,d10,d11,d12,d13⟩:=id C2
   go_wp2_with fail
   refine (c1 _ T2).mono ?_
   rintro e w8 ⟨rfl,hb⟩
   replace X:=X.kept hb
   replace C2:=C2.kept hb
   replace T2:=T2.kept hb
   clear hb c1 d0 d1 d2 d3 d4 d5 d6 d7 d8 d9 d10 d11 d12 d13
   by_cases hl:k+1<n
   ·have kl:(k:Int)+1<(n:Int):=by omega
    have kl2:((k:Int)+1==(n:Int))=false:=beq_eq_false_iff_ne.2 (by omega)
    have c2:=HC.out ((k:Int)+2) (by omega) (by omega)
    obtain ⟨x,hx⟩:∃ x,quar (n:Int) ((k:Int)+2)=x:=⟨_,rfl⟩
    rw [hx] at c2
    have HX:Hid (qnx (n:Int) k=x):=Lib.hid (by unfold qnx;rw [if_neg (by omega)];exact hx)
    clear hx
    obtain ⟨_,d0,d1,d2,d3,d4,d5,d6,d7,d8,d9,d10,d11,d12,d13⟩:=id C2
    go_wp2_with fail
    refine (c2 _ T2).mono ?_
    rintro e w9 ⟨rfl,hb⟩
    replace X:=X.kept hb
    clear hb c2 d0 d1 d2 d3 d4 d5 d6 d7 d8 d9 d10 d11 d12 d13 C2 T2
    obtain ⟨wk,wk0,wk1,mw,HS⟩:=HS
    replace HS:=Lib.hid HS
    go_wp2
    go_loopw [9,13] (fun F Z wr'=>∃ j:Nat,(j:Int)≤wk∧F= .int .i64 (P+7*(j:Int)+1)∧OneS 26 w3 wr' Z (m+j) (spl c y 5 (m+j))) (fun F _ _=>(v+7 - intOf F).toNat)
    case atStart=>exact ⟨0,by omega,by have:=HF.out;congr 1;omega,X⟩
    case round =>
     clear X
     obtain ⟨j,jM,rfl,X⟩:=hrel
     obtain ⟨F2,hF2⟩:∃ F2,P+7*(j:Int)+1=F2:=⟨_,rfl⟩
     have HS2:=HS.out j jM
     rw [hF2] at HS2
     rw [hF2]
     rcases HS2 with ⟨a1,a2,a3,a4⟩|⟨b1,b2,b3⟩
     ·have F2b:0≤F2∧F2≤3068037:=by have:=HF.out;omega
      obtain ⟨tt,ht⟩:∃ tt,min (F2+6) v=tt:=⟨_,rfl⟩
      have tb:0≤tt∧tt≤3068043:=by omega
      rw [ht] at a4
      replace a3:uend c y 5 ((m:Int)+j)+1=P+7*(j:Int)+1:=by omega
      have HA:=Lib.hid (And.intro a3 (And.intro a4 hF2))
      clear a3 a4 hF2
      go_wp2_with (first
       | (at_builtin;refine wpList_append_own_at _ rfl _ _ 56 rfl w3.heap.size 26 i1 (.agg #[.int .i64 0,.int .i64 0]) 2 16 runderS hi hz0 hz1 hz2 rfl (by decide) _ (m+j) (scells (spl c y 5 (m+j))) rfl (X.a.alloc _) ⟨_,0,none⟩ 1 1 [.int .i64 F2,.int .i64 (tt)] rfl rfl ?c1 ?c2 ?c3 ?c4 ?c5 ?m1))
      case c1 =>
       intro j u hj
       match j,hj with
       | 0,hj=>simp at hj;subst hj;simp [Addr.add,go_sem]
       | 1,hj=>simp at hj;subst hj;simp [Addr.add,go_sem]
      case c2=>intro u hu;simp at hu;rcases hu with rfl|rfl<;>rfl
      case c3=>unfold maxLen;omega
      case c4=>omega
      case c5=>have z1:=X.below.size;simp;omega
      case m1 =>
       intro v3 wz hown3 hg3 _ hat
       have X4:=X.next hown3 hg3
       have X5:OneS 26 w3 wz v3 (m+(j+1)) (spl c y 5 (m+(j+1))):=by
        show OneS 26 w3 wz v3 (m+(j+1)) (spl c y 5 (m+j)++[(uend c y 5 ((m+j:Nat):Int)+1,uend c y 5 (((m+j:Nat):Int)+1))])
        rw [show ((m+j:Nat):Int)=(m:Int)+j by omega,HA.out.1,HA.out.2.1,HA.out.2.2]
        exact X4
       clear X4
       go_wp2
       go_roundw
       case rel=>exact ⟨j+1,by omega,by have:=HA.out.2.2;congr 1;omega,X5⟩
       case measure=>simp [intOf];omega
     ·have HN:=Lib.hid b3
      clear b3 hF2
      go_wp2
      go_roundw
      case rel=>exact ⟨k+1,m+j,by omega,by have:=HN.out;omega,by go_num,by rw [← HV.out];rfl,X⟩
      case measure=>simp [intOf];omega
   ·have kl:¬ (k:Int)+1<(n:Int):=by omega
    have kl2:((k:Int)+1==(n:Int))=true:=beq_iff_eq.2 (by omega)
    have HX:Hid (qnx (n:Int) k=5):=Lib.hid (by unfold qnx;rw [if_pos (by omega)])
    clear C2 T2
    obtain ⟨wk,wk0,wk1,mw,HS⟩:=HS
    replace HS:=Lib.hid HS
    go_wp2
    go_loopw [9,13] (fun F Z wr'=>∃ j:Nat,(j:Int)≤wk∧F= .int .i64 (P+7*(j:Int)+1)∧OneS 26 w3 wr' Z (m+j) (spl c y 5 (m+j))) (fun F _ _=>(v+7 - intOf F).toNat)
    case atStart=>exact ⟨0,by omega,by have:=HF.out;congr 1;omega,X⟩
    case round =>
     clear X
     obtain ⟨j,jM,rfl,X⟩:=hrel
     obtain ⟨F2,hF2⟩:∃ F2,P+7*(j:Int)+1=F2:=⟨_,rfl⟩
     have HS2:=HS.out j jM
     rw [hF2] at HS2
     rw [hF2]
     rcases HS2 with ⟨a1,a2,a3,a4⟩|⟨b1,b2,b3⟩
     ·have F2b:0≤F2∧F2≤3068037:=by have:=HF.out;omega
      obtain ⟨tt,ht⟩:∃ tt,min (F2+6) v=tt:=⟨_,rfl⟩
      have tb:0≤tt∧tt≤3068043:=by omega
      rw [ht] at a4
      replace a3:uend c y 5 ((m:Int)+j)+1=P+7*(j:Int)+1:=by omega
      have HA:=Lib.hid (And.intro a3 (And.intro a4 hF2))
      clear a3 a4 hF2
      go_wp2_with (first
       | (at_builtin;refine wpList_append_own_at _ rfl _ _ 56 rfl w3.heap.size 26 i1 (.agg #[.int .i64 0,.int .i64 0]) 2 16 runderS hi hz0 hz1 hz2 rfl (by decide) _ (m+j) (scells (spl c y 5 (m+j))) rfl (X.a.alloc _) ⟨_,0,none⟩ 1 1 [.int .i64 F2,.int .i64 (tt)] rfl rfl ?c1 ?c2 ?c3 ?c4 ?c5 ?m1))
      case c1 =>
       intro j u hj
       match j,hj with
       | 0,hj=>simp at hj;subst hj;simp [Addr.add,go_sem]
       | 1,hj=>simp at hj;subst hj;simp [Addr.add,go_sem]
      case c2=>intro u hu;simp at hu;rcases hu with rfl|rfl<;>rfl
      case c3=>unfold maxLen;omega
      case c4=>omega
      case c5=>have z1:=X.below.size;simp;omega
      case m1 =>
       intro v3 wz hown3 hg3 _ hat
       have X4:=X.next hown3 hg3
       have X5:OneS 26 w3 wz v3 (m+(j+1)) (spl c y 5 (m+(j+1))):=by
        show OneS 26 w3 wz v3 (m+(j+1)) (spl c y 5 (m+j)++[(uend c y 5 ((m+j:Nat):Int)+1,uend c y 5 (((m+j:Nat):Int)+1))])
        rw [show ((m+j:Nat):Int)=(m:Int)+j by omega,HA.out.1,HA.out.2.1,HA.out.2.2]
        exact X4
       clear X4
       go_wp2
       go_roundw
       case rel=>exact ⟨j+1,by omega,by have:=HA.out.2.2;congr 1;omega,X5⟩
       case measure=>simp [intOf];omega
     ·have HN:=Lib.hid b3
      clear b3 hF2
      go_wp2
      go_roundw
      case rel=>exact ⟨k+1,m+j,by omega,by have:=HN.out;omega,by go_num,by rw [← HV.out];rfl,X⟩
      case measure=>simp [intOf];omega
  ·obtain rfl:k=n:=by omega
   have kk:¬ (k:Int)<(k:Int):=by omega
   have hmN:=HE.out m hm'
   obtain rfl:N=m:=by omega
   have QQ:=X.out (spl_len _ _ _ _) (by omega)
   obtain ⟨g,cap,rfl,QQ,le,hcap⟩:=QQ
   have bb:=bthen B X.below
   have Z:SpTo w N (spl c y 5 N) (.returned (.tuple #[.slice (some ⟨g,0,none⟩) N cap,.int .i64 0])) wr:=⟨g,cap,rfl,QQ,by omega,bb,hcap⟩
   have HZ:=Lib.hid Z
   clear Z QQ X bb
   go_wp2
   exact bodyPost_ret (v:=.tuple #[.slice (some ⟨g,0,none⟩) N cap,.int .i64 0]) (by simp [results,Tryz.results19,go_sem]) rfl HZ.out

theorem rspans_ok (L:Int)(c:CalZ)(y:Int)(n N:Nat)(w:World)(hL:LevOk L)(ok:CalOk c)(sv:Served c y)(hn:(n:Int)=per c)(hN:(N:Int)=ucount c y L)(K:ChkSays c)(hm:c.nm.size≤maxLen)(T:FTab w) :
  Calls Tryz.prog 19 #[.agg #[.string c.nm,.int .i64 c.k,.int .i64 c.d,.int .i64 c.m,.int .i64 c.s,.int .i64 c.sh,.int .i64 c.p0,.int .i64 c.p1,.int .i64 c.p2,.int .i64 c.cy,.int .i64 c.ex,.int .i64 c.fi,.int .i64 c.la,.int .i64 c.po],.int .i64 L,.int .i64 y] w (SpTo w N (spl c y L N)):=by
 have l:L=1∨L=2∨L=3∨L=4∨L=5:=by unfold LevOk at hL;omega
 rcases l with rfl|rfl|rfl|rfl|rfl
 ·exact rspans_1 c y n N w ok sv hn hN K hm T
 ·exact rspans_2 c y n N w ok sv hn hN K hm T
 ·exact rspans_3 c y n N w ok sv hn hN K hm T
 ·exact rspans_4 c y n N w ok sv hn hN K hm T
 ·exact rspans_5 c y n N w ok sv hn hN K hm T

end Go.Proofs.YtoilomigceijaaaGreatDoor.Ir

