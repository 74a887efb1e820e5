/- What Days, Split, Exact, Same of the reference of layer 21 come to. -/
import Derived.Test.YtoilomigceijaaaGreatDoorQrIrl
import Derived.Test.YtoilomigceijaaaGreatDoorQrJC
import Derived.Test.YtoilomigceijaaaGreatDoorQrFtab
import Derived.Test.YtoilomigceijaaaGreatDoorQrJD
import Derived.Test.YtoilomigceijaaaGreatDoorQrPcode3
import Derived.Test.YtoilomigceijaaaGreatDoorQrJRa
import Derived.Test.YtoilomigceijaaaGreatDoorQrJRc
import Derived.Test.YtoilomigceijaaaGreatDoorQrProw2
import Derived.Test.YtoilomigceijaaaGreatDoorQrJK
import Derived.Lib.MinMax
import Derived.Maps.AppendAt
import Derived.Maps.OwnIn
import Derived.Deep.AppendLies
import Derived.Deep.RegionLaw
import Derived.BigRegion
set_option linter.unusedSimpArgs false
set_option linter.unusedVariables false
namespace Go.Proofs.YtoilomigceijaaaGreatDoor.Rr
open Go.RowKit Go.Maps Bn Bx Cp Am Fp Ap Ar Cm Em Ep Rk Hp Hr Ip Dp Jr Ir Rf Pp
open Sm (IsSplit sm)
open Vm (Fit1)
open Qm (Rat1 rat1_ex)
open Sr (wt exact_go exact_over ExactRes RExactRes rexact_go rexact_over rsplit_go SameRatios_yes)
open Sl (ls ls_len ls_at ls_sum row_rd)

set_option maxHeartbeats 8000000

theorem infoN:(Tryz.prog.info? 2).map (fun i=>(i.zero,i.size,i.bytes))=some (some (.int .i64 0),1,8):=by kernel_rfl
theorem underN:Tryz.prog.underlying 29=some (.slice 2):=by kernel_rfl
theorem infoH:(Tryz.prog.info? 48).map (fun i=>(i.zero,i.size,i.bytes))=some (some (.agg #[.int .i64 0,.int .i64 0,.int .i64 0,.int .i64 0]),4,32):=by kernel_rfl
theorem underH:Tryz.prog.underlying 33=some (.slice 48):=by kernel_rfl
def NumsTo (w:World)(n:Nat)(f:Nat→Int)(e:Ending)(w':World):Prop :=
 ∃ g cap:Nat,e= .returned (.tuple #[.slice (some ⟨g,0,none⟩) n cap,.int .i64 0])∧Row w' g n f∧w.heap.size≤g∧Below w.heap.size w w'
def YrAt (c:CalZ)(L:Int)(W:World)(v:Value)(k:Nat)(Y:Int)(S:Value):Prop :=
 (k=0∧Y=0)∨∃ (gs caps Mz:Nat),1602≤Y∧(Mz:Int)=ucount c Y L∧S= .slice (some ⟨gs,0,none⟩) Mz caps∧Srow W gs (spl c Y L Mz)∧∀ x,v.ownBlock=some x→x≠gs

set_option maxRecDepth 100000 in
theorem rDays_er (c:CalZ)(L a b er:Int)(w:World)(R:MeetsA c L a b er)(ne:er≠0)(K:ChkSays c)(O:OfSays c)(hm:c.nm.size≤maxLen)(T:FTab w) :
  Calls Tryz.prog 7 #[.agg #[.string c.nm,.int .i64 c.k,.int .i64 c.d,.int .i64 c.m,.int .i64 c.s,.int .i64 c.sh,.int .i64 c.p0,.int .i64 c.p1,.int .i64 c.p2,.int .i64 c.cy,.int .i64 c.ex,.int .i64 c.fi,.int .i64 c.la,.int .i64 c.po],.int .i64 L,.agg #[.int .i64 a,.int .i64 b]] w fun e w'=>e= .returned (.tuple #[.slice none 0 0,.int .i64 er])∧Below w.heap.size w w':=by
 have C:=CalIn.new w c 24
 have S:=Pr.Two.new (w.alloc (.cells #[.string c.nm,.int .i64 c.k,.int .i64 c.d,.int .i64 c.m,.int .i64 c.s,.int .i64 c.sh,.int .i64 c.p0,.int .i64 c.p1,.int .i64 c.p2,.int .i64 c.cy,.int .i64 c.ex,.int .i64 c.fi,.int .i64 c.la,.int .i64 c.po] 24)) (.int .i64 a) (.int .i64 b) 26
 rw [World.size_alloc] at S
 replace C:=C.alloc (.cells #[.int .i64 a,.int .i64 b] 26)
 have B:=balloc (balloc (Below.refl _ w) (.cells #[.string c.nm,.int .i64 c.k,.int .i64 c.d,.int .i64 c.m,.int .i64 c.s,.int .i64 c.sh,.int .i64 c.p0,.int .i64 c.p1,.int .i64 c.p2,.int .i64 c.cy,.int .i64 c.ex,.int .i64 c.fi,.int .i64 c.la,.int .i64 c.po] 24)) (.cells #[.int .i64 a,.int .i64 b] 26)
 replace T:=(T.alloc (.cells #[.string c.nm,.int .i64 c.k,.int .i64 c.d,.int .i64 c.m,.int .i64 c.s,.int .i64 c.sh,.int .i64 c.p0,.int .i64 c.p1,.int .i64 c.p2,.int .i64 c.cy,.int .i64 c.ex,.int .i64 c.fi,.int .i64 c.la,.int .i64 c.po] 24)).alloc (.cells #[.int .i64 a,.int .i64 b] 26)
 have cm:=fun w T=>rMeets_er c L a b er w R K O T
 have n1:(er != 0)=true:=bne_iff_ne.2 ne
 clear R ne K O
 go_enter Tryz.func7,Tryz.ntmps7
 go_upto_region 1 with fail
 generalize (w.alloc (.cells #[.string c.nm,.int .i64 c.k,.int .i64 c.d,.int .i64 c.m,.int .i64 c.s,.int .i64 c.sh,.int .i64 c.p0,.int .i64 c.p1,.int .i64 c.p2,.int .i64 c.cy,.int .i64 c.ex,.int .i64 c.fi,.int .i64 c.la,.int .i64 c.po] 24)).alloc (.cells #[.int .i64 a,.int .i64 b] 26)=W0 at *
 obtain ⟨_,c0,c1,c2,c3,c4,c5,c6,c7,c8,c9,c10,c11,c12,c13⟩:=id C
 obtain ⟨_,s0,s1,fs0,fs1⟩:=id S
 go_wp2_with fail
 refine (cm _ T).mono ?_
 rintro e w1 ⟨rfl,hb⟩
 replace C:=C.kept hb
 replace B:=bthen B hb
 replace T:=T.kept hb
 replace S:=S.kept hb
 clear hb c0 c1 c2 c3 c4 c5 c6 c7 c8 c9 c10 c11 c12 c13 s0 s1 fs0 fs1
 obtain ⟨_,c0,c1,c2,c3,c4,c5,c6,c7,c8,c9,c10,c11,c12,c13⟩:=id C
 obtain ⟨_,s0,s1,fs0,fs1⟩:=id S
 go_wp2
 go_ret2
 exact ⟨by simp,B⟩

set_option maxRecDepth 100000 in
theorem rDays_ok (c:CalZ)(L a b y0 i0 y n:Int)(N M:Nat)(w:World)(h:Cut c L a b y0 i0 y n N)(hM:N+1=M)(M1:M≤1000000)(K:ChkSays c)(O:OfSays c)(hm:c.nm.size≤maxLen)(T:FTab w) :
  Calls Tryz.prog 7 #[.agg #[.string c.nm,.int .i64 c.k,.int .i64 c.d,.int .i64 c.m,.int .i64 c.s,.int .i64 c.sh,.int .i64 c.p0,.int .i64 c.p1,.int .i64 c.p2,.int .i64 c.cy,.int .i64 c.ex,.int .i64 c.fi,.int .i64 c.la,.int .i64 c.po],.int .i64 L,.agg #[.int .i64 a,.int .i64 b]] w (NumsTo w M (pday c L a b (y0,i0))):=by
 obtain ⟨j0,hi,hz0,hz1,hz2⟩:=info_parts infoN
 have C:=CalIn.new w c 24
 have S:=Pr.Two.new (w.alloc (.cells #[.string c.nm,.int .i64 c.k,.int .i64 c.d,.int .i64 c.m,.int .i64 c.s,.int .i64 c.sh,.int .i64 c.p0,.int .i64 c.p1,.int .i64 c.p2,.int .i64 c.cy,.int .i64 c.ex,.int .i64 c.fi,.int .i64 c.la,.int .i64 c.po] 24)) (.int .i64 a) (.int .i64 b) 26
 rw [World.size_alloc] at S
 replace C:=C.alloc (.cells #[.int .i64 a,.int .i64 b] 26)
 have B:=balloc (balloc (Below.refl _ w) (.cells #[.string c.nm,.int .i64 c.k,.int .i64 c.d,.int .i64 c.m,.int .i64 c.s,.int .i64 c.sh,.int .i64 c.p0,.int .i64 c.p1,.int .i64 c.p2,.int .i64 c.cy,.int .i64 c.ex,.int .i64 c.fi,.int .i64 c.la,.int .i64 c.po] 24)) (.cells #[.int .i64 a,.int .i64 b] 26)
 replace T:=(T.alloc (.cells #[.string c.nm,.int .i64 c.k,.int .i64 c.d,.int .i64 c.m,.int .i64 c.s,.int .i64 c.sh,.int .i64 c.p0,.int .i64 c.p1,.int .i64 c.p2,.int .i64 c.cy,.int .i64 c.ex,.int .i64 c.fi,.int .i64 c.la,.int .i64 c.po] 24)).alloc (.cells #[.int .i64 a,.int .i64 b] 26)
 have cm:=fun w T=>rMeets_ok c L a b y0 i0 y n N w h.way h.da h.db h.ab K O hm T
 have bd:=h.bd
 have ab:=h.ab
 obtain ⟨nn,hnn⟩:∃ nn:Nat,(nn:Int)=per c:=⟨(per c).toNat,by have:=per_bd h.way.u.1.1;omega⟩
 have FK:Hid (∀ k:Nat,k<M→∃ (z:Int) (ni Mz:Nat) (ff tt pd:Int),itu c L (y0,i0) k=(z,(ni:Int)+1)∧1602≤z∧z≤9996∧ni<Mz∧Mz≤60∧(Mz:Int)=ucount c z L∧(spl c z L Mz)[ni]?=some (ff,tt)∧0≤ff∧ff≤3068037∧0≤tt∧tt≤3068036∧(pday c L a b (y0,i0)) k=pd∧pd=min b tt - max a ff+1∧1≤pd∧(∀ w,FTab w→Calls Tryz.prog 19 #[.agg #[.string c.nm,.int .i64 c.k,.int .i64 c.d,.int .i64 c.m,.int .i64 c.s,.int .i64 c.sh,.int .i64 c.p0,.int .i64 c.p1,.int .i64 c.p2,.int .i64 c.cy,.int .i64 c.ex,.int .i64 c.fi,.int .i64 c.la,.int .i64 c.po],.int .i64 L,.int .i64 z] w (SpTo w Mz (spl c z L Mz)))) :=
  Lib.hid (fun k hk=>by
   obtain ⟨⟨ok,lv,sv,i1,i2⟩,_⟩:=h.way.ok k (by omega)
   have d:=h.day k (by omega)
   obtain ⟨⟨z,i⟩,hzi⟩:∃ s,itu c L (y0,i0) k=s:=⟨_,rfl⟩
   have e1:pday c L a b (y0,i0) k=plst c L b (y0,i0) k - pfst c L a (y0,i0) k+1:=rfl
   unfold pfst plst ufst ulst at e1
   rw [hzi] at sv i1 i2 e1
   simp only at sv i1 i2 e1
   have st:=served_told ok sv
   have cb:=ucount_bd (L:=L) (y:=z) ok.1 (by omega) (by omega)
   obtain ⟨Mz,hMz⟩:∃ Mz:Nat,(Mz:Int)=ucount c z L:=⟨(ucount c z L).toNat,by omega⟩
   obtain ⟨ni,hni⟩:∃ ni:Nat,(ni:Int)=i - 1:=⟨(i - 1).toNat,by omega⟩
   have b0:=uend_bd (c:=c) (L:=L) (y:=z) (i:=i - 1) ok.1 (by omega) (by omega) lv (by omega) (by omega)
   have b1:=uend_bd (c:=c) (L:=L) (y:=z) (i:=i) ok.1 (by omega) (by omega) lv (by omega) i2
   refine ⟨z,ni,Mz,uend c z L (i - 1)+1,uend c z L i,_,by rw [hzi,hni];simp,st.1,st.2,by omega,by omega,hMz,?_,by omega,by omega,by omega,by omega,rfl,?_,d.1,fun w T=>rspans_ok L c z nn Mz w lv ok sv hnn hMz K hm T⟩
   ·rw [spl_at c z L Mz ni (by omega),hni,show i - 1+1=i by omega]
   ·rw [e1]
    split<;>split<;>omega)
 have ulen:=ulist_len c L (y0,i0) (N+1)
 rw [hM] at ulen
 have HU:Hid (∀ k:Nat,k<M→(ulist c L (y0,i0) M)[k]?=some (L,(itu c L (y0,i0) k).1,(itu c L (y0,i0) k).2)):=Lib.hid (fun k hk=>ulist_at c L (y0,i0) M k hk)
 rw [hM] at cm
 have M0:1≤M:=by omega
 have bd2:0≤a∧b≤3068036∧a≤b:=by omega
 obtain ⟨a0,b1,ab⟩:=bd2
 clear h K O bd hM hnn
 go_enter Tryz.func7,Tryz.ntmps7
 go_upto_region 1 with fail
 generalize (w.alloc (.cells #[.string c.nm,.int .i64 c.k,.int .i64 c.d,.int .i64 c.m,.int .i64 c.s,.int .i64 c.sh,.int .i64 c.p0,.int .i64 c.p1,.int .i64 c.p2,.int .i64 c.cy,.int .i64 c.ex,.int .i64 c.fi,.int .i64 c.la,.int .i64 c.po] 24)).alloc (.cells #[.int .i64 a,.int .i64 b] 26)=W0 at *
 obtain ⟨_,c0,c1,c2,c3,c4,c5,c6,c7,c8,c9,c10,c11,c12,c13⟩:=id C
 obtain ⟨_,s0,s1,fs0,fs1⟩:=id S
 go_wp2_with fail
 refine (cm _ T).mono ?_
 rintro e w1 ⟨g,cap,rfl,R,hg,hb,hcap⟩
 replace C:=C.kept hb
 replace B:=bthen B hb
 replace T:=T.kept hb
 replace S:=S.kept hb
 clear hb c0 c1 c2 c3 c4 c5 c6 c7 c8 c9 c10 c11 c12 c13 s0 s1 fs0 fs1
 obtain ⟨_,c0,c1,c2,c3,c4,c5,c6,c7,c8,c9,c10,c11,c12,c13⟩:=id C
 obtain ⟨_,s0,s1,fs0,fs1⟩:=id S
 rw [ulen]
 clear cm hg hcap s0 s1 fs0 fs1
 clear c0 c1 c2 c3 c4 c5 c6 c7 c8 c9 c10 c11 c12 c13 
 go_wp2
 go_loopw [10,11,12,28] (fun Q S' Y J wr=>∃ (k:Nat) (yy:Int) (SV:Value),k≤M∧J= .int .i64 (k:Int)∧Y= .int .i64 yy∧S'=SV∧One1 2 w1 wr Q k (pday c L a b (y0,i0))∧YrAt c L wr Q k yy SV) (fun _ _ _ J _=>M - (intOf J).toNat)
 case atStart=>exact ⟨0,0,_,by omega,rfl,rfl,rfl,One1.start _ _ (Below.refl _ _),.inl ⟨rfl,rfl⟩⟩
 case round =>
  obtain ⟨k,yy,SV,kM,rfl,rfl,rfl,X,YA⟩:=hrel
  by_cases hlt:k<M
  ·obtain ⟨z,ni,Mz,ff,tt,pd,hit,z0,z1,nM,M60,hMz,sa,f0,f1,t0,t1,hp,hpd,p1,csp⟩:=FK.out k hlt
   have hu:=HU.out k hlt
   rw [hit] at hu
   obtain ⟨e0,e1,e2⟩:=(R.kept X.below).c k _ hu
   simp only at e0 e1 e2
   have HP:=Lib.hid hp.symm
   have C2:=C.kept X.below
   have T2:=T.kept X.below
   have S2:=S.kept X.below
   have kk:(k:Int)<(M:Int):=by omega
   have hpd1:IntKind.i64.wrap (min b tt - max a ff)=min b tt - max a ff:=IntWalk.i64_in _ (by omega)
   have hpd2:IntKind.i64.wrap (min b tt - max a ff+1)=pd:=by rw [← hpd];exact IntWalk.i64_in _ (by omega)
   have HPD:=Lib.hid hpd
   clear hu hit hp hpd
   have Z:=Bx.Tri.new wr (.int .i64 L) (.int .i64 z) (.int .i64 ((ni:Int)+1)) 46
   go_upto_region 10 with fail
   clear e0 e1 e2
   replace C2:=C2.alloc (.cells #[.int .i64 L,.int .i64 z,.int .i64 ((ni:Int)+1)] 46)
   replace T2:=T2.alloc (.cells #[.int .i64 L,.int .i64 z,.int .i64 ((ni:Int)+1)] 46)
   replace S2:=S2.alloc (.cells #[.int .i64 L,.int .i64 z,.int .i64 ((ni:Int)+1)] 46)
   by_cases hz:z=yy
   ·subst hz
    rcases YA with ⟨_,q⟩|⟨gs,caps,Mz',_,hMz',rfl,SR,NE⟩
    ·omega
    obtain rfl:Mz=Mz':=by omega
    have dz:(z != z)=false:=by simp
    replace X:=X.alloc (.cells #[.int .i64 L,.int .i64 z,.int .i64 ((ni:Int)+1)] 46)
    replace SR:=SR.alloc (.cells #[.int .i64 L,.int .i64 z,.int .i64 ((ni:Int)+1)] 46)
    clear csp C2 T2 hMz'
    generalize wr.alloc (.cells #[.int .i64 L,.int .i64 z,.int .i64 ((ni:Int)+1)] 46)=W9 at *
    obtain ⟨_,z0',z1',z2',fz0,fz1,fz2⟩:=id Z
    -- the unit's span, what of it lies in the whole, and it is put behind
    obtain ⟨d0,d1⟩:=SR.c ni _ sa
    simp only at d0 d1
    have nI:(ni:Int)<(Mz:Int):=by omega
    have nI0:(0:Int)≤(ni:Int):=by omega
    have wi:IntKind.i64.wrap ((ni:Int)+1 - 1)=(ni:Int):=by rw [show (ni:Int)+1 - 1=ni by omega];exact IntWalk.i64_in _ (by omega)
    go_upto_region 14 with fail
    clear d0 d1
    have Kb:=Pr.Two.new W9 (.int .i64 ff) (.int .i64 tt) 26
    replace X:=X.alloc (.cells #[.int .i64 ff,.int .i64 tt] 26)
    replace SR:=SR.alloc (.cells #[.int .i64 ff,.int .i64 tt] 26)
    replace S2:=S2.alloc (.cells #[.int .i64 ff,.int .i64 tt] 26)
    generalize W9.alloc (.cells #[.int .i64 ff,.int .i64 tt] 26)=W12 at *
    obtain ⟨_,k0,k1,fk0,fk1⟩:=id Kb
    obtain ⟨_,s0,s1,fs0,fs1⟩:=id S2
    go_wp2_with (first
     | (at_builtin;refine wpList_append_own_at _ rfl _ _ 29 rfl w1.heap.size 2 j0 (.int .i64 0) 1 8 underN hi hz0 hz1 hz2 rfl (by decide) _ k (lst (pday c L a b (y0,i0)) k) rfl (X.a.alloc _) ⟨_,0,none⟩ 1 1 [.int .i64 pd] rfl rfl ?c1 ?c2 ?c3 ?c4 ?c5 ?m1))
    case c1 =>
     intro j u hj
     match j,hj with
     | 0,hj=>simp at hj;subst hj;simp [Addr.add,go_sem]
    case c2=>intro u hu;simp at hu;rcases hu with rfl;rfl
    case c3=>unfold maxLen;omega
    case c4=>omega
    case c5=>have z1:=X.below.size;simp at z1 ⊢;omega
    case m1 =>
     intro v3 wz hown3 hg3 _ hat
     rw [HP.out] at hown3
     have X3:=X.next hown3 hg3
     have SR3:=srow_grown (SR.alloc _) hg3 (fun e=>NE gs e.symm rfl)
     have NE3:∀ x,v3.ownBlock=some x→x≠gs:=fun x h=>by
      rcases hat with q|q
      ·exact NE x (q.symm.trans h)
      ·have z1:=SR.lt
       rw [q] at h
       simp at h
       omega
     clear hat
     go_wp2
     go_roundw
     case rel=>exact ⟨k+1,z,_,by omega,by go_num,rfl,rfl,X3,.inr ⟨gs,caps,Mz,by omega,hMz,rfl,SR3,NE3⟩⟩
     case measure=>simp [intOf];omega
   ·have dz:(z != yy)=true:=bne_iff_ne.2 hz
    clear YA hz
    have X0:=X
    replace X:=X.alloc (.cells #[.int .i64 L,.int .i64 z,.int .i64 ((ni:Int)+1)] 46)
    generalize hW9:wr.alloc (.cells #[.int .i64 L,.int .i64 z,.int .i64 ((ni:Int)+1)] 46)=W9 at *
    have z9:wr.heap.size≤W9.heap.size:=by rw [← hW9];simp
    clear hW9
    obtain ⟨_,z0',z1',z2',fz0,fz1,fz2⟩:=id Z
    obtain ⟨_,c0,c1,c2,c3,c4,c5,c6,c7,c8,c9,c10,c11,c12,c13⟩:=id C2
    go_wp2_with fail
    refine (csp _ T2).mono ?_
    rintro e w8 ⟨gs,caps,rfl,SR,hgs,hb,hcs⟩
    have NE:=fun x h=>Nat.ne_of_lt (Nat.lt_of_lt_of_le (row_lt X0.a (x:=x) h).2 (Nat.le_trans z9 hgs))
    replace X:=X.kept hb
    replace Z:=Z.kept hb
    replace S2:=S2.kept hb
    clear csp hb C2 T2 hgs hcs X0 z9 z0' z1' z2' fz0 fz1 fz2
    clear c0 c1 c2 c3 c4 c5 c6 c7 c8 c9 c10 c11 c12 c13 
    obtain ⟨_,z0',z1',z2',fz0,fz1,fz2⟩:=id Z
    -- the unit's span, what of it lies in the whole, and it is put behind
    obtain ⟨d0,d1⟩:=SR.c ni _ sa
    simp only at d0 d1
    have nI:(ni:Int)<(Mz:Int):=by omega
    have nI0:(0:Int)≤(ni:Int):=by omega
    have wi:IntKind.i64.wrap ((ni:Int)+1 - 1)=(ni:Int):=by rw [show (ni:Int)+1 - 1=ni by omega];exact IntWalk.i64_in _ (by omega)
    go_upto_region 14 with fail
    clear d0 d1
    have Kb:=Pr.Two.new w8 (.int .i64 ff) (.int .i64 tt) 26
    replace X:=X.alloc (.cells #[.int .i64 ff,.int .i64 tt] 26)
    replace SR:=SR.alloc (.cells #[.int .i64 ff,.int .i64 tt] 26)
    replace S2:=S2.alloc (.cells #[.int .i64 ff,.int .i64 tt] 26)
    generalize w8.alloc (.cells #[.int .i64 ff,.int .i64 tt] 26)=W12 at *
    obtain ⟨_,k0,k1,fk0,fk1⟩:=id Kb
    obtain ⟨_,s0,s1,fs0,fs1⟩:=id S2
    go_wp2_with (first
     | (at_builtin;refine wpList_append_own_at _ rfl _ _ 29 rfl w1.heap.size 2 j0 (.int .i64 0) 1 8 underN hi hz0 hz1 hz2 rfl (by decide) _ k (lst (pday c L a b (y0,i0)) k) rfl (X.a.alloc _) ⟨_,0,none⟩ 1 1 [.int .i64 pd] rfl rfl ?c1 ?c2 ?c3 ?c4 ?c5 ?m1))
    case c1 =>
     intro j u hj
     match j,hj with
     | 0,hj=>simp at hj;subst hj;simp [Addr.add,go_sem]
    case c2=>intro u hu;simp at hu;rcases hu with rfl;rfl
    case c3=>unfold maxLen;omega
    case c4=>omega
    case c5=>have z1:=X.below.size;simp at z1 ⊢;omega
    case m1 =>
     intro v3 wz hown3 hg3 _ hat
     rw [HP.out] at hown3
     have X3:=X.next hown3 hg3
     have SR3:=srow_grown (SR.alloc _) hg3 (fun e=>NE gs e.symm rfl)
     have NE3:∀ x,v3.ownBlock=some x→x≠gs:=fun x h=>by
      rcases hat with q|q
      ·exact NE x (q.symm.trans h)
      ·have z1:=SR.lt
       rw [q] at h
       simp at h
       omega
     clear hat
     go_wp2
     go_roundw
     case rel=>exact ⟨k+1,z,_,by omega,by go_num,rfl,rfl,X3,.inr ⟨gs,caps,Mz,by omega,hMz,rfl,SR3,NE3⟩⟩
     case measure=>simp [intOf];omega
  ·obtain rfl:k=M:=by omega
   have kk:¬ (k:Int)<(k:Int):=by omega
   obtain ⟨g2,cap2,rfl,Q2,hg2,_⟩:=X.out (by omega)
   have Bz:=bthen B X.below
   have sz:=B.size
   clear X YA
   go_wp2
   go_ret2
   exact ⟨g2,cap2,by simp,Q2,by omega,Bz⟩

set_option maxRecDepth 100000 in
theorem rExact_er (c:CalZ)(L A a b er:Int)(w:World)(R:MeetsA c L a b er)(ne:er≠0)(K:ChkSays c)(O:OfSays c)(hm:c.nm.size≤maxLen)(T:FTab w) :
  Calls Tryz.prog 11 #[.agg #[.string c.nm,.int .i64 c.k,.int .i64 c.d,.int .i64 c.m,.int .i64 c.s,.int .i64 c.sh,.int .i64 c.p0,.int .i64 c.p1,.int .i64 c.p2,.int .i64 c.cy,.int .i64 c.ex,.int .i64 c.fi,.int .i64 c.la,.int .i64 c.po],.int .i64 L,.int .i64 A,.agg #[.int .i64 a,.int .i64 b]] w fun e w'=>e= .returned (.tuple #[.slice none 0 0,.int .i64 er])∧Below w.heap.size w w':=by
 have C:=CalIn.new w c 24
 have S:=Pr.Two.new (w.alloc (.cells #[.string c.nm,.int .i64 c.k,.int .i64 c.d,.int .i64 c.m,.int .i64 c.s,.int .i64 c.sh,.int .i64 c.p0,.int .i64 c.p1,.int .i64 c.p2,.int .i64 c.cy,.int .i64 c.ex,.int .i64 c.fi,.int .i64 c.la,.int .i64 c.po] 24)) (.int .i64 a) (.int .i64 b) 26
 rw [World.size_alloc] at S
 replace C:=C.alloc (.cells #[.int .i64 a,.int .i64 b] 26)
 have B:=balloc (balloc (Below.refl _ w) (.cells #[.string c.nm,.int .i64 c.k,.int .i64 c.d,.int .i64 c.m,.int .i64 c.s,.int .i64 c.sh,.int .i64 c.p0,.int .i64 c.p1,.int .i64 c.p2,.int .i64 c.cy,.int .i64 c.ex,.int .i64 c.fi,.int .i64 c.la,.int .i64 c.po] 24)) (.cells #[.int .i64 a,.int .i64 b] 26)
 replace T:=(T.alloc (.cells #[.string c.nm,.int .i64 c.k,.int .i64 c.d,.int .i64 c.m,.int .i64 c.s,.int .i64 c.sh,.int .i64 c.p0,.int .i64 c.p1,.int .i64 c.p2,.int .i64 c.cy,.int .i64 c.ex,.int .i64 c.fi,.int .i64 c.la,.int .i64 c.po] 24)).alloc (.cells #[.int .i64 a,.int .i64 b] 26)
 have cm:=fun w T=>rDays_er c L a b er w R ne K O hm T
 have n1:(er != 0)=true:=bne_iff_ne.2 ne
 clear R ne K O
 go_enter Tryz.func11,Tryz.ntmps11
 go_upto_region 1 with fail
 generalize (w.alloc (.cells #[.string c.nm,.int .i64 c.k,.int .i64 c.d,.int .i64 c.m,.int .i64 c.s,.int .i64 c.sh,.int .i64 c.p0,.int .i64 c.p1,.int .i64 c.p2,.int .i64 c.cy,.int .i64 c.ex,.int .i64 c.fi,.int .i64 c.la,.int .i64 c.po] 24)).alloc (.cells #[.int .i64 a,.int .i64 b] 26)=W0 at *
 obtain ⟨_,c0,c1,c2,c3,c4,c5,c6,c7,c8,c9,c10,c11,c12,c13⟩:=id C
 obtain ⟨_,s0,s1,fs0,fs1⟩:=id S
 go_wp2_with fail
 refine (cm _ T).mono ?_
 rintro e w1 ⟨rfl,hb⟩
 replace C:=C.kept hb
 replace B:=bthen B hb
 replace T:=T.kept hb
 replace S:=S.kept hb
 clear hb c0 c1 c2 c3 c4 c5 c6 c7 c8 c9 c10 c11 c12 c13 s0 s1 fs0 fs1
 obtain ⟨_,c0,c1,c2,c3,c4,c5,c6,c7,c8,c9,c10,c11,c12,c13⟩:=id C
 obtain ⟨_,s0,s1,fs0,fs1⟩:=id S
 go_wp2
 go_ret2
 exact ⟨by simp,B⟩

set_option maxRecDepth 100000 in
theorem rExact_ok (c:CalZ)(L A a b y0 i0 y n:Int)(N M:Nat)(p q:Nat→Int)(w:World)(h:Cut c L a b y0 i0 y n N)(hM:N+1=M)(M1:M≤4096)(fa:Fit1 A)(R:∀ i,i<M→Rat1 (A*pday c L a b (y0,i0) i) (b - a+1) (p i) (q i) 0)(K:ChkSays c)(O:OfSays c)(hm:c.nm.size≤maxLen)(T:FTab w) :
  Calls Tryz.prog 11 #[.agg #[.string c.nm,.int .i64 c.k,.int .i64 c.d,.int .i64 c.m,.int .i64 c.s,.int .i64 c.sh,.int .i64 c.p0,.int .i64 c.p1,.int .i64 c.p2,.int .i64 c.cy,.int .i64 c.ex,.int .i64 c.fi,.int .i64 c.la,.int .i64 c.po],.int .i64 L,.int .i64 A,.agg #[.int .i64 a,.int .i64 b]] w (RExactRes w M p q):=by
 have C:=CalIn.new w c 24
 have S:=Pr.Two.new (w.alloc (.cells #[.string c.nm,.int .i64 c.k,.int .i64 c.d,.int .i64 c.m,.int .i64 c.s,.int .i64 c.sh,.int .i64 c.p0,.int .i64 c.p1,.int .i64 c.p2,.int .i64 c.cy,.int .i64 c.ex,.int .i64 c.fi,.int .i64 c.la,.int .i64 c.po] 24)) (.int .i64 a) (.int .i64 b) 26
 rw [World.size_alloc] at S
 replace C:=C.alloc (.cells #[.int .i64 a,.int .i64 b] 26)
 have B:=balloc (balloc (Below.refl _ w) (.cells #[.string c.nm,.int .i64 c.k,.int .i64 c.d,.int .i64 c.m,.int .i64 c.s,.int .i64 c.sh,.int .i64 c.p0,.int .i64 c.p1,.int .i64 c.p2,.int .i64 c.cy,.int .i64 c.ex,.int .i64 c.fi,.int .i64 c.la,.int .i64 c.po] 24)) (.cells #[.int .i64 a,.int .i64 b] 26)
 replace T:=(T.alloc (.cells #[.string c.nm,.int .i64 c.k,.int .i64 c.d,.int .i64 c.m,.int .i64 c.s,.int .i64 c.sh,.int .i64 c.p0,.int .i64 c.p1,.int .i64 c.p2,.int .i64 c.cy,.int .i64 c.ex,.int .i64 c.fi,.int .i64 c.la,.int .i64 c.po] 24)).alloc (.cells #[.int .i64 a,.int .i64 b] 26)
 have qd:=fun w T=>rDays_ok c L a b y0 i0 y n N M w h hM (by omega) K O hm T
 have W:=weigh h hM
 have bd:=h.bd
 have ab:=h.ab
 have qs:=fun g cap w R2=>rexact_go (some ⟨g,0,none⟩) M cap (ls (pday c L a b (y0,i0)) M) A p q w W.len (by omega) M1 fa W.f R2 W.p (by rw [W.s];omega) (by rw [W.s];unfold Fit1;omega) (fun i hi=>by rw [W.w i hi,W.s];exact R i hi)
 clear h hM bd ab W fa R K O
 go_enter Tryz.func11,Tryz.ntmps11
 go_upto_region 1 with fail
 generalize (w.alloc (.cells #[.string c.nm,.int .i64 c.k,.int .i64 c.d,.int .i64 c.m,.int .i64 c.s,.int .i64 c.sh,.int .i64 c.p0,.int .i64 c.p1,.int .i64 c.p2,.int .i64 c.cy,.int .i64 c.ex,.int .i64 c.fi,.int .i64 c.la,.int .i64 c.po] 24)).alloc (.cells #[.int .i64 a,.int .i64 b] 26)=W0 at *
 obtain ⟨_,c0,c1,c2,c3,c4,c5,c6,c7,c8,c9,c10,c11,c12,c13⟩:=id C
 obtain ⟨_,s0,s1,fs0,fs1⟩:=id S
 go_wp2_with fail
 refine (qd _ T).mono ?_
 rintro e w1 ⟨g,cap,rfl,Q,hg,hb⟩
 replace C:=C.kept hb
 replace B:=bthen B hb
 replace T:=T.kept hb
 replace S:=S.kept hb
 clear hb c0 c1 c2 c3 c4 c5 c6 c7 c8 c9 c10 c11 c12 c13 s0 s1 fs0 fs1
 obtain ⟨_,c0,c1,c2,c3,c4,c5,c6,c7,c8,c9,c10,c11,c12,c13⟩:=id C
 obtain ⟨_,s0,s1,fs0,fs1⟩:=id S
 go_wp2_with fail
 refine (qs g cap _ (row_rd Q)).mono ?_
 rintro e w2 ⟨g2,cap2,rfl,X,hg2,hb⟩
 have Z:RExactRes w M p q (.returned (.tuple #[.slice (some ⟨g2,0,none⟩) M cap2,.int .i64 0])) w2:=⟨g2,cap2,rfl,X,by have:=B.size;omega,bthen B hb⟩
 have HZ:=Lib.hid Z
 clear Z X Q
 go_wp2
 exact bodyPost_ret (v:=.tuple #[.slice (some ⟨g2,0,none⟩) M cap2,.int .i64 0]) (by simp [results,Tryz.results11,go_sem]) rfl HZ.out

set_option maxRecDepth 100000 in
theorem rExact_over (c:CalZ)(L A a b y0 i0 y n:Int)(N M k0:Nat)(p q:Nat→Int)(w:World)(h:Cut c L a b y0 i0 y n N)(hM:N+1=M)(M1:M≤4096)(fa:Fit1 A)(hk:k0<M)(R:∀ i,i<k0→Rat1 (A*pday c L a b (y0,i0) i) (b - a+1) (p i) (q i) 0)(RE:Rat1 (A*pday c L a b (y0,i0) k0) (b - a+1) 0 0 2)(K:ChkSays c)(O:OfSays c)(hm:c.nm.size≤maxLen)(T:FTab w) :
  Calls Tryz.prog 11 #[.agg #[.string c.nm,.int .i64 c.k,.int .i64 c.d,.int .i64 c.m,.int .i64 c.s,.int .i64 c.sh,.int .i64 c.p0,.int .i64 c.p1,.int .i64 c.p2,.int .i64 c.cy,.int .i64 c.ex,.int .i64 c.fi,.int .i64 c.la,.int .i64 c.po],.int .i64 L,.int .i64 A,.agg #[.int .i64 a,.int .i64 b]] w fun e w'=>e= .returned (.tuple #[.slice none 0 0,.int .i64 2])∧Below w.heap.size w w':=by
 have C:=CalIn.new w c 24
 have S:=Pr.Two.new (w.alloc (.cells #[.string c.nm,.int .i64 c.k,.int .i64 c.d,.int .i64 c.m,.int .i64 c.s,.int .i64 c.sh,.int .i64 c.p0,.int .i64 c.p1,.int .i64 c.p2,.int .i64 c.cy,.int .i64 c.ex,.int .i64 c.fi,.int .i64 c.la,.int .i64 c.po] 24)) (.int .i64 a) (.int .i64 b) 26
 rw [World.size_alloc] at S
 replace C:=C.alloc (.cells #[.int .i64 a,.int .i64 b] 26)
 have B:=balloc (balloc (Below.refl _ w) (.cells #[.string c.nm,.int .i64 c.k,.int .i64 c.d,.int .i64 c.m,.int .i64 c.s,.int .i64 c.sh,.int .i64 c.p0,.int .i64 c.p1,.int .i64 c.p2,.int .i64 c.cy,.int .i64 c.ex,.int .i64 c.fi,.int .i64 c.la,.int .i64 c.po] 24)) (.cells #[.int .i64 a,.int .i64 b] 26)
 replace T:=(T.alloc (.cells #[.string c.nm,.int .i64 c.k,.int .i64 c.d,.int .i64 c.m,.int .i64 c.s,.int .i64 c.sh,.int .i64 c.p0,.int .i64 c.p1,.int .i64 c.p2,.int .i64 c.cy,.int .i64 c.ex,.int .i64 c.fi,.int .i64 c.la,.int .i64 c.po] 24)).alloc (.cells #[.int .i64 a,.int .i64 b] 26)
 have qd:=fun w T=>rDays_ok c L a b y0 i0 y n N M w h hM (by omega) K O hm T
 have W:=weigh h hM
 have bd:=h.bd
 have ab:=h.ab
 have qs:=fun g cap w R2=>rexact_over (some ⟨g,0,none⟩) M cap (ls (pday c L a b (y0,i0)) M) A p q k0 hk w W.len (by omega) M1 fa W.f R2 W.p (by rw [W.s];omega) (by rw [W.s];unfold Fit1;omega) (fun i hi=>by rw [W.w i (by omega),W.s];exact R i hi) (by rw [W.w k0 hk,W.s];exact RE)
 clear h hM bd ab W fa R K O RE hk
 go_enter Tryz.func11,Tryz.ntmps11
 go_upto_region 1 with fail
 generalize (w.alloc (.cells #[.string c.nm,.int .i64 c.k,.int .i64 c.d,.int .i64 c.m,.int .i64 c.s,.int .i64 c.sh,.int .i64 c.p0,.int .i64 c.p1,.int .i64 c.p2,.int .i64 c.cy,.int .i64 c.ex,.int .i64 c.fi,.int .i64 c.la,.int .i64 c.po] 24)).alloc (.cells #[.int .i64 a,.int .i64 b] 26)=W0 at *
 obtain ⟨_,c0,c1,c2,c3,c4,c5,c6,c7,c8,c9,c10,c11,c12,c13⟩:=id C
 obtain ⟨_,s0,s1,fs0,fs1⟩:=id S
 go_wp2_with fail
 refine (qd _ T).mono ?_
 rintro e w1 ⟨g,cap,rfl,Q,hg,hb⟩
 replace C:=C.kept hb
 replace B:=bthen B hb
 replace T:=T.kept hb
 replace S:=S.kept hb
 clear hb c0 c1 c2 c3 c4 c5 c6 c7 c8 c9 c10 c11 c12 c13 s0 s1 fs0 fs1
 obtain ⟨_,c0,c1,c2,c3,c4,c5,c6,c7,c8,c9,c10,c11,c12,c13⟩:=id C
 obtain ⟨_,s0,s1,fs0,fs1⟩:=id S
 go_wp2_with fail
 refine (qs g cap _ (row_rd Q)).mono ?_
 rintro e w2 ⟨rfl,hb⟩
 replace B:=bthen B hb
 go_wp2
 go_ret2
 exact ⟨by simp,B⟩

structure OneC (EL:TypeId) (sz:Nat) (w W:World) (v:Value) (m:Nat) (xs:List Value):Prop where
 below:Below w.heap.size w W
 a:W.ownsRow w.heap.size EL sz v m xs
theorem OneC.kept {EL:TypeId}{sz m:Nat}{w W w1:World}{v:Value}{xs:List Value}(x:OneC EL sz w W v m xs)(hb:Below W.heap.size W w1):OneC EL sz w w1 v m xs:=⟨Pr.bthen x.below hb,own_below x.a hb⟩
def shc (c:CalZ)(L:Int)(u:Int×Int)(o:Nat→Int):Nat→List Value
 | 0=>[]
 | k+1=>shc c L u o k++[.int .i64 L,.int .i64 (itu c L u k).1,.int .i64 (itu c L u k).2,.int .i64 (o k)]
theorem shc_len (c:CalZ)(L:Int)(u:Int×Int)(o:Nat→Int)(k:Nat):(shc c L u o k).length=k*4:=by
 induction k with
 | zero=>rfl
 | succ k ih=>simp [shc,ih];omega
theorem shc_at (c:CalZ)(L:Int)(u:Int×Int)(o:Nat→Int)(n k j:Nat)(hk:k<n)(hj:j<4):(shc c L u o n)[k*4+j]?=some (.int .i64 (shareF c L u o k j)):=by
 induction n with
 | zero=>omega
 | succ n ih =>
   by_cases e:k=n
   ·subst e
    rw [shc,List.getElem?_append_right (by rw [shc_len];omega),shc_len,show k*4+j - k*4=j by omega]
    have j4:j=0∨j=1∨j=2∨j=3:=by omega
    rcases j4 with rfl|rfl|rfl|rfl<;>simp [shareF]
   ·rw [shc,List.getElem?_append_left (by rw [shc_len];omega)]
    exact ih (by omega)
theorem shc_row {EL:TypeId}{w W:World}{c:CalZ}{L:Int}{u:Int×Int}{o:Nat→Int}{g cap M:Nat}(X:OneC EL 4 w W (.slice (some ⟨g,0,none⟩) M cap) M (shc c L u o M))(hM:0<M):Mrow W g M 4 (shareF c L u o):=by
 obtain ⟨g',cap',e,_,hlt⟩:=X.a.form hM
 cases e
 exact ⟨hlt,fun i j hi hj=>by rw [X.a.cellAt (i*4+j) (by omega)];exact shc_at c L u o M i j hi hj,fun i j hi hj=>X.a.frozenAt _⟩
def RSharesTo (w:World)(c:CalZ)(L A a b:Int)(u:Int×Int)(M:Nat)(e:Ending)(w':World):Prop :=
 ∃ (g cap:Nat) (o:Nat→Int),e= .returned (.tuple #[.slice (some ⟨g,0,none⟩) M cap,.int .i64 0])∧Mrow w' g M 4 (shareF c L u o)∧IsSplit A (pday c L a b u) M o∧Below w.heap.size w w'

set_option maxRecDepth 100000 in
theorem rSplit_er (c:CalZ)(L A a b er:Int)(w:World)(R:MeetsA c L a b er)(ne:er≠0)(K:ChkSays c)(O:OfSays c)(hm:c.nm.size≤maxLen)(T:FTab w) :
  Calls Tryz.prog 9 #[.agg #[.string c.nm,.int .i64 c.k,.int .i64 c.d,.int .i64 c.m,.int .i64 c.s,.int .i64 c.sh,.int .i64 c.p0,.int .i64 c.p1,.int .i64 c.p2,.int .i64 c.cy,.int .i64 c.ex,.int .i64 c.fi,.int .i64 c.la,.int .i64 c.po],.int .i64 L,.int .i64 A,.agg #[.int .i64 a,.int .i64 b]] w fun e w'=>e= .returned (.tuple #[.slice none 0 0,.int .i64 er])∧Below w.heap.size w w':=by
 have C:=CalIn.new w c 24
 have S:=Pr.Two.new (w.alloc (.cells #[.string c.nm,.int .i64 c.k,.int .i64 c.d,.int .i64 c.m,.int .i64 c.s,.int .i64 c.sh,.int .i64 c.p0,.int .i64 c.p1,.int .i64 c.p2,.int .i64 c.cy,.int .i64 c.ex,.int .i64 c.fi,.int .i64 c.la,.int .i64 c.po] 24)) (.int .i64 a) (.int .i64 b) 26
 rw [World.size_alloc] at S
 replace C:=C.alloc (.cells #[.int .i64 a,.int .i64 b] 26)
 have B:=balloc (balloc (Below.refl _ w) (.cells #[.string c.nm,.int .i64 c.k,.int .i64 c.d,.int .i64 c.m,.int .i64 c.s,.int .i64 c.sh,.int .i64 c.p0,.int .i64 c.p1,.int .i64 c.p2,.int .i64 c.cy,.int .i64 c.ex,.int .i64 c.fi,.int .i64 c.la,.int .i64 c.po] 24)) (.cells #[.int .i64 a,.int .i64 b] 26)
 replace T:=(T.alloc (.cells #[.string c.nm,.int .i64 c.k,.int .i64 c.d,.int .i64 c.m,.int .i64 c.s,.int .i64 c.sh,.int .i64 c.p0,.int .i64 c.p1,.int .i64 c.p2,.int .i64 c.cy,.int .i64 c.ex,.int .i64 c.fi,.int .i64 c.la,.int .i64 c.po] 24)).alloc (.cells #[.int .i64 a,.int .i64 b] 26)
 have cm:=fun w T=>rDays_er c L a b er w R ne K O hm T
 have n1:(er != 0)=true:=bne_iff_ne.2 ne
 clear R ne K O
 go_enter Tryz.func9,Tryz.ntmps9
 go_upto_region 1 with fail
 generalize (w.alloc (.cells #[.string c.nm,.int .i64 c.k,.int .i64 c.d,.int .i64 c.m,.int .i64 c.s,.int .i64 c.sh,.int .i64 c.p0,.int .i64 c.p1,.int .i64 c.p2,.int .i64 c.cy,.int .i64 c.ex,.int .i64 c.fi,.int .i64 c.la,.int .i64 c.po] 24)).alloc (.cells #[.int .i64 a,.int .i64 b] 26)=W0 at *
 obtain ⟨_,c0,c1,c2,c3,c4,c5,c6,c7,c8,c9,c10,c11,c12,c13⟩:=id C
 obtain ⟨_,s0,s1,fs0,fs1⟩:=id S
 go_wp2_with fail
 refine (cm _ T).mono ?_
 rintro e w1 ⟨rfl,hb⟩
 replace C:=C.kept hb
 replace B:=bthen B hb
 replace T:=T.kept hb
 replace S:=S.kept hb
 clear hb c0 c1 c2 c3 c4 c5 c6 c7 c8 c9 c10 c11 c12 c13 s0 s1 fs0 fs1
 obtain ⟨_,c0,c1,c2,c3,c4,c5,c6,c7,c8,c9,c10,c11,c12,c13⟩:=id C
 obtain ⟨_,s0,s1,fs0,fs1⟩:=id S
 go_wp2
 go_ret2
 exact ⟨by simp,B⟩

set_option maxRecDepth 100000 in
theorem rSplit_ok (c:CalZ)(L A a b y0 i0 y n:Int)(N M:Nat)(w:World)(h:Cut c L a b y0 i0 y n N)(hM:N+1=M)(M1:M≤4096)(fa:Fit1 A)(K:ChkSays c)(O:OfSays c)(hm:c.nm.size≤maxLen)(T:FTab w) :
  Calls Tryz.prog 9 #[.agg #[.string c.nm,.int .i64 c.k,.int .i64 c.d,.int .i64 c.m,.int .i64 c.s,.int .i64 c.sh,.int .i64 c.p0,.int .i64 c.p1,.int .i64 c.p2,.int .i64 c.cy,.int .i64 c.ex,.int .i64 c.fi,.int .i64 c.la,.int .i64 c.po],.int .i64 L,.int .i64 A,.agg #[.int .i64 a,.int .i64 b]] w (RSharesTo w c L A a b (y0,i0) M):=by
 obtain ⟨j0,hi,hz0,hz1,hz2⟩:=info_parts infoH
 have C:=CalIn.new w c 24
 have S:=Pr.Two.new (w.alloc (.cells #[.string c.nm,.int .i64 c.k,.int .i64 c.d,.int .i64 c.m,.int .i64 c.s,.int .i64 c.sh,.int .i64 c.p0,.int .i64 c.p1,.int .i64 c.p2,.int .i64 c.cy,.int .i64 c.ex,.int .i64 c.fi,.int .i64 c.la,.int .i64 c.po] 24)) (.int .i64 a) (.int .i64 b) 26
 rw [World.size_alloc] at S
 replace C:=C.alloc (.cells #[.int .i64 a,.int .i64 b] 26)
 have B:=balloc (balloc (Below.refl _ w) (.cells #[.string c.nm,.int .i64 c.k,.int .i64 c.d,.int .i64 c.m,.int .i64 c.s,.int .i64 c.sh,.int .i64 c.p0,.int .i64 c.p1,.int .i64 c.p2,.int .i64 c.cy,.int .i64 c.ex,.int .i64 c.fi,.int .i64 c.la,.int .i64 c.po] 24)) (.cells #[.int .i64 a,.int .i64 b] 26)
 replace T:=(T.alloc (.cells #[.string c.nm,.int .i64 c.k,.int .i64 c.d,.int .i64 c.m,.int .i64 c.s,.int .i64 c.sh,.int .i64 c.p0,.int .i64 c.p1,.int .i64 c.p2,.int .i64 c.cy,.int .i64 c.ex,.int .i64 c.fi,.int .i64 c.la,.int .i64 c.po] 24)).alloc (.cells #[.int .i64 a,.int .i64 b] 26)
 have qd:=fun w T=>rDays_ok c L a b y0 i0 y n N M w h hM (by omega) K O hm T
 have cm:=fun w T=>rMeets_ok c L a b y0 i0 y n N w h.way h.da h.db h.ab K O hm T
 have W:=weigh h hM
 have bd:=h.bd
 have ab:=h.ab
 have qs:=fun g cap w R=>rsplit_go (some ⟨g,0,none⟩) M cap (ls (pday c L a b (y0,i0)) M) A w W.len (by omega) M1 fa W.f R W.p (by rw [W.s];omega) (by rw [W.s];unfold Fit1;omega)
 have HW:Hid (∀ o,IsSplit A (wt (ls (pday c L a b (y0,i0)) M)) M o→IsSplit A (pday c L a b (y0,i0)) M o):=Lib.hid (fun o ho=>Sl.split_congr (fun i hi=>W.w i hi) ho)
 have ulen:=ulist_len c L (y0,i0) (N+1)
 rw [hM] at ulen cm
 have HU:Hid (∀ k:Nat,k<M→(ulist c L (y0,i0) M)[k]?=some (L,(itu c L (y0,i0) k).1,(itu c L (y0,i0) k).2)):=Lib.hid (fun k hk=>ulist_at c L (y0,i0) M k hk)
 have M0:0<M:=by omega
 clear h hM bd ab W fa K O
 go_enter Tryz.func9,Tryz.ntmps9
 go_upto_region 1 with fail
 generalize (w.alloc (.cells #[.string c.nm,.int .i64 c.k,.int .i64 c.d,.int .i64 c.m,.int .i64 c.s,.int .i64 c.sh,.int .i64 c.p0,.int .i64 c.p1,.int .i64 c.p2,.int .i64 c.cy,.int .i64 c.ex,.int .i64 c.fi,.int .i64 c.la,.int .i64 c.po] 24)).alloc (.cells #[.int .i64 a,.int .i64 b] 26)=W0 at *
 obtain ⟨_,c0,c1,c2,c3,c4,c5,c6,c7,c8,c9,c10,c11,c12,c13⟩:=id C
 obtain ⟨_,s0,s1,fs0,fs1⟩:=id S
 go_wp2_with fail
 refine (qd _ T).mono ?_
 rintro e w1 ⟨g,cap,rfl,Q,hg,hb⟩
 replace C:=C.kept hb
 replace B:=bthen B hb
 replace T:=T.kept hb
 replace S:=S.kept hb
 clear hb c0 c1 c2 c3 c4 c5 c6 c7 c8 c9 c10 c11 c12 c13 s0 s1 fs0 fs1
 obtain ⟨_,c0,c1,c2,c3,c4,c5,c6,c7,c8,c9,c10,c11,c12,c13⟩:=id C
 obtain ⟨_,s0,s1,fs0,fs1⟩:=id S
 clear hg
 obtain ⟨_,_,_⟩:=id Q
 go_wp2_with fail
 refine (qs g cap _ (row_rd Q)).mono ?_
 rintro e w2 ⟨g3,cap3,o,rfl,D,hg3,ho,hb⟩
 replace C:=C.kept hb
 replace B:=bthen B hb
 replace T:=T.kept hb
 replace S:=S.kept hb
 replace Q:=Q.kept hb
 clear hb c0 c1 c2 c3 c4 c5 c6 c7 c8 c9 c10 c11 c12 c13 s0 s1 fs0 fs1
 obtain ⟨_,c0,c1,c2,c3,c4,c5,c6,c7,c8,c9,c10,c11,c12,c13⟩:=id C
 obtain ⟨_,s0,s1,fs0,fs1⟩:=id S
 obtain ⟨_,_,_⟩:=id Q
 have HO:=Lib.hid (HW.out o ho)
 clear ho HW hg3 qs qd
 obtain ⟨_,_,_⟩:=id D
 go_wp2_with fail
 refine (cm _ T).mono ?_
 rintro e w3 ⟨gu,capu,rfl,R,hgu,hb,hcapu⟩
 replace C:=C.kept hb
 replace B:=bthen B hb
 replace T:=T.kept hb
 replace S:=S.kept hb
 replace Q:=Q.kept hb
 replace D:=D.kept hb
 clear hb c0 c1 c2 c3 c4 c5 c6 c7 c8 c9 c10 c11 c12 c13 s0 s1 fs0 fs1
 obtain ⟨_,c0,c1,c2,c3,c4,c5,c6,c7,c8,c9,c10,c11,c12,c13⟩:=id C
 obtain ⟨_,s0,s1,fs0,fs1⟩:=id S
 obtain ⟨_,_,_⟩:=id Q
 obtain ⟨_,_,_⟩:=id D
 rw [ulen]
 clear hgu hcapu cm s0 s1 fs0 fs1 S Q
 clear c0 c1 c2 c3 c4 c5 c6 c7 c8 c9 c10 c11 c12 c13 
 go_wp2
 go_loopw [15,46] (fun Z J wr=>∃ k:Nat,k≤M∧J= .int .i64 (k:Int)∧OneC 48 4 w3 wr Z k (shc c L (y0,i0) o k)) (fun _ J _=>M - (intOf J).toNat)
 case atStart=>exact ⟨0,by omega,rfl,Below.refl _ _,World.ownsRow_nil _ _ _ _⟩
 case round =>
  obtain ⟨k,kM,rfl,X⟩:=hrel
  by_cases hlt:k<M
  ·have hu:=HU.out k hlt
   obtain ⟨z,hz⟩:∃ z,(itu c L (y0,i0) k).1=z:=⟨_,rfl⟩
   obtain ⟨i,hi'⟩:∃ i,(itu c L (y0,i0) k).2=i:=⟨_,rfl⟩
   rw [hz,hi'] at hu
   obtain ⟨e0,e1,e2⟩:=(R.kept X.below).c k _ hu
   simp only at e0 e1 e2
   have HI:=Lib.hid (And.intro hz hi')
   have D2:=D.kept X.below
   have ok':=D2.c k hlt
   obtain ⟨ov,hov⟩:∃ ov,o k=ov:=⟨_,rfl⟩
   have HV:=Lib.hid hov
   rw [hov] at ok'
   have kk:(k:Int)<(M:Int):=by omega
   clear hu hz hi' hov
   have Z:=Bx.Tri.new wr (.int .i64 L) (.int .i64 z) (.int .i64 i) 46
   have D3:=D2.kept (balloc (Below.refl _ _) (.cells #[.int .i64 L,.int .i64 z,.int .i64 i] 46))
   go_upto_region 12 with fail
   clear e0 e1 e2 ok'
   have X2:=X.kept (balloc (Below.refl _ _) (.cells #[.int .i64 L,.int .i64 z,.int .i64 i] 46))
   generalize wr.alloc (.cells #[.int .i64 L,.int .i64 z,.int .i64 i] 46)=W9 at *
   obtain ⟨_,z0',z1',z2',fz0,fz1,fz2⟩:=id Z
   have ok':=D3.c k hlt
   rw [HV.out] at ok'
   go_region_law (refine step_append_lies _ rfl (.tmp 51) (.tmp 58) 33 rfl w3.heap.size 48 j0 (.agg #[.int .i64 0,.int .i64 0,.int .i64 0,.int .i64 0]) 4 32 underH hi hz0 hz1 hz2 rfl (by decide) _ k (shc c L (y0,i0) o k) (by simp [Act.eval,Act.put]) (own_below X2.a (by repeat (first|(with_reducible exact Below.refl _ _)|(with_reducible refine Below.drew ?_)|(with_reducible refine balloc ?_ _)))) ⟨W9.heap.size,0,none⟩ 1 1 [.int .i64 L,.int .i64 z,.int .i64 i,.int .i64 ov] (by simp [Act.eval,Act.put]) rfl (fun j u hj=>by (match j,hj with|0,hj=>simp at hj;subst hj;simp [Addr.add,go_sem]|1,hj=>simp at hj;subst hj;simp [Addr.add,go_sem]|2,hj=>simp at hj;subst hj;simp [Addr.add,go_sem]|3,hj=>simp at hj;subst hj;simp [Addr.add,go_sem])) (by intro u hu;simp at hu;rcases hu with rfl|rfl|rfl|rfl<;>rfl) (by decide) (by unfold maxLen;omega) (by omega) (by have z1:=X2.below.size;simp at z1 ⊢;omega) _ rfl ?_;intro g2 cap2 wz hown hgrow _ _)
   all_goals
    have X3:OneC 48 4 w3 wz (.slice (some ⟨g2,0,none⟩) (k+1) cap2) (k+1) (shc c L (y0,i0) o (k+1)):=⟨below_grown ((balloc X2.below _).drew) hgrow (fun x e=>(row_lt X2.a e).1) (Nat.le_refl _),by rw [shc,HI.out.1,HI.out.2,HV.out];exact hown⟩
    clear hown hgrow
    go_wp2
    go_roundw
    case rel=>exact ⟨k+1,by omega,by go_num,X3⟩
    case measure=>simp [intOf];omega
  ·obtain rfl:k=M:=by omega
   have kk:¬ (k:Int)<(k:Int):=by omega
   obtain ⟨g2,cap2,rfl,_,_⟩:=X.a.form (by omega)
   have Q2:=shc_row X (by omega)
   have Bz:=bthen B X.below
   have HO2:=HO.out
   have HQ:Hid (RSharesTo w c L A a b (y0,i0) k (.returned (.tuple #[.slice (some ⟨g2,0,none⟩) k cap2,.int .i64 0])) wr):=Lib.hid ⟨g2,cap2,o,rfl,Q2,HO2,Bz⟩
   clear X Q2 HO2 HO
   go_wp2
   exact bodyPost_ret (v:=.tuple #[.slice (some ⟨g2,0,none⟩) k cap2,.int .i64 0]) (by simp [results,Tryz.results9,go_sem]) rfl HQ.out

theorem rshare_neq (a b c d a' b' c' d':Int)(w:World) :
  (binOp .neq 48 (.agg #[.int .i64 a,.int .i64 b,.int .i64 c,.int .i64 d]) (.agg #[.int .i64 a',.int .i64 b',.int .i64 c',.int .i64 d'])).run Tryz.prog w= .ok (.bool (!decide (a=a'∧b=b'∧c=c'∧d=d'))) w:=by
 by_cases h1:a=a'
 ·by_cases h2:b=b'
  ·by_cases h3:c=c'
   ·by_cases h4:d=d'
    ·subst h1 h2 h3 h4;simp [go_sem]
    ·simp [go_sem,h1,h2,h3,h4]
   ·simp [go_sem,h1,h2,h3]
  ·simp [go_sem,h1,h2]
 ·simp [go_sem,h1]

set_option maxRecDepth 100000 in
theorem rsame_sh (g1 g2 N c1 c2:Nat)(f:Nat→Nat→Int)(w:World)(N1:N≤1000000)(R1:Mrow w g1 N 4 f)(R2:Mrow w g2 N 4 f) :
  Calls Tryz.prog 13 #[.slice (some ⟨g1,0,none⟩) N c1,.slice (some ⟨g2,0,none⟩) N c2] w fun e w'=>e= .returned (.bool true)∧Below w.heap.size w w':=by
 have e0:((N:Int)!=(N:Int))=false:=by simp
 go_enter Tryz.func13,Tryz.ntmps13
 go_wp2
 go_loopw [13] (fun Y wr=>∃ k:Nat,k≤N∧Y= .int .i64 (k:Int)∧Below w.heap.size w wr) (fun Y _=>N - (intOf Y).toNat)
 case atStart=>exact ⟨0,by omega,rfl,Below.refl _ _⟩
 case round =>
  obtain ⟨k,kN,rfl,B2⟩:=hrel
  by_cases hlt:k<N
  ·have q1:=R1.kept B2
   have q2:=R2.kept B2
   have r0:=q1.c k 0 hlt (by omega)
   have r1:=q1.c k 1 hlt (by omega)
   have r2:=q1.c k 2 hlt (by omega)
   have r3:=q1.c k 3 hlt (by omega)
   have s0:=q2.c k 0 hlt (by omega)
   have s1:=q2.c k 1 hlt (by omega)
   have s2:=q2.c k 2 hlt (by omega)
   have s3:=q2.c k 3 hlt (by omega)
   rw [Nat.add_zero] at r0 s0
   obtain ⟨x0,h0⟩:∃ x,f k 0=x:=⟨_,rfl⟩
   obtain ⟨x1,h1⟩:∃ x,f k 1=x:=⟨_,rfl⟩
   obtain ⟨x2,h2⟩:∃ x,f k 2=x:=⟨_,rfl⟩
   obtain ⟨x3,h3⟩:∃ x,f k 3=x:=⟨_,rfl⟩
   rw [h0] at r0 s0
   rw [h1] at r1 s1
   rw [h2] at r2 s2
   rw [h3] at r3 s3
   clear h0 h1 h2 h3 q1 q2
   have hq:=fun w=>rshare_neq x0 x1 x2 x3 x0 x1 x2 x3 w
   rw [show (!decide (x0=x0∧x1=x1∧x2=x2∧x3=x3))=false by simp] at hq
   have kk:(k:Int)<(N:Int):=by omega
   go_upto_region 6 with fail
   go_quiet (fail)
   go_wp2
   go_roundw
   case rel=>exact ⟨k+1,by omega,by go_num,bdrewN B2 _⟩
   case measure=>simp [intOf];omega
  ·obtain rfl:k=N:=by omega
   have kk:decide ((k:Int)<(k:Int))=false:=decide_eq_false (by omega)
   go_wp2
   go_ret
   exact ⟨rfl,B2⟩

set_option maxRecDepth 100000 in
theorem rsame_shnil (p1 p2:Option Addr)(c1 c2:Nat)(w:World):Calls Tryz.prog 13 #[.slice p1 0 c1,.slice p2 0 c2] w fun e w'=>e= .returned (.bool true)∧Below w.heap.size w w':=by
 go_enter Tryz.func13,Tryz.ntmps13
 go_wp2
 refine wp_loop_rounds 1 ?_
 rw [rounds_succ]
 go_wp2
 go_ret
 exact ⟨rfl,Below.refl _ _⟩

structure NumL (W:World) (v:Value) (n:Nat) (f:Nat→Int):Prop where
 o:(n=0∧v= .slice none 0 0)∨∃ g cap:Nat,v= .slice (some ⟨g,0,none⟩) n cap∧Row W g n f
structure ShL (W:World) (v:Value) (c:CalZ) (L A:Int) (pd:Nat→Int) (u:Int×Int) (n:Nat):Prop where
 o:(n=0∧v= .slice none 0 0)∨∃ (g cap:Nat) (o:Nat→Int),v= .slice (some ⟨g,0,none⟩) n cap∧Mrow W g n 4 (shareF c L u o)∧IsSplit A pd n o
structure RatL (W:World) (v:Value) (n:Nat) (p q:Nat→Int):Prop where
 o:(n=0∧v= .slice none 0 0)∨∃ g cap:Nat,v= .slice (some ⟨g,0,none⟩) n cap∧Rowp W g n p q
theorem NumL.kept {W w1:World}{v:Value}{n:Nat}{f:Nat→Int}(x:NumL W v n f)(hb:Below W.heap.size W w1):NumL w1 v n f:=⟨x.o.elim .inl (fun ⟨g,cap,e,R⟩=>.inr ⟨g,cap,e,R.kept hb⟩)⟩
theorem ShL.kept {W w1:World}{v:Value}{c:CalZ}{L A:Int}{pd:Nat→Int}{u:Int×Int}{n:Nat}(x:ShL W v c L A pd u n)(hb:Below W.heap.size W w1):ShL w1 v c L A pd u n:=⟨x.o.elim .inl (fun ⟨g,cap,o,e,R,h⟩=>.inr ⟨g,cap,o,e,R.kept hb,h⟩)⟩
theorem RatL.kept {W w1:World}{v:Value}{n:Nat}{p q:Nat→Int}(x:RatL W v n p q)(hb:Below W.heap.size W w1):RatL w1 v n p q:=⟨x.o.elim .inl (fun ⟨g,cap,e,R⟩=>.inr ⟨g,cap,e,R.kept hb⟩)⟩
def NumTo (w:World)(n:Nat)(f:Nat→Int)(er:Int)(e:Ending)(w':World):Prop:=∃ v,e= .returned (.tuple #[v,.int .i64 er])∧NumL w' v n f∧Below w.heap.size w w'
def ShTo (w:World)(c:CalZ)(L A:Int)(pd:Nat→Int)(u:Int×Int)(n:Nat)(er:Int)(e:Ending)(w':World):Prop:=∃ v,e= .returned (.tuple #[v,.int .i64 er])∧ShL w' v c L A pd u n∧Below w.heap.size w w'
def RatTo (w:World)(n:Nat)(p q:Nat→Int)(er:Int)(e:Ending)(w':World):Prop:=∃ v,e= .returned (.tuple #[v,.int .i64 er])∧RatL w' v n p q∧Below w.heap.size w w'
theorem same_num (n:Nat)(f:Nat→Int)(a b:Value)(w:World)(N1:n≤4096)(R1:NumL w a n f)(R2:NumL w b n f) :
  Calls Tryz.prog 12 #[a,b] w fun e w'=>e= .returned (.bool true)∧Below w.heap.size w w':=by
 have key:∀ v,NumL w v n f→∃ A c,v= .slice A n c∧(n=0∨∃ b off,A=some ⟨b,off,none⟩∧∀ i,i<n→w.cell? ⟨b,off+i,none⟩=some (.int .i64 (f i))):=fun v h=>by
  rcases h.o with ⟨h1,rfl⟩|⟨g,cap,rfl,q⟩
  ·exact ⟨_,_,by rw [h1],.inl h1⟩
  ·exact ⟨_,_,rfl,.inr ⟨g,0,rfl,fun i hi=>by rw [Nat.zero_add];exact q.c i hi⟩⟩
 obtain ⟨A,c1,rfl,hA⟩:=key a R1
 obtain ⟨B,c2,rfl,hB⟩:=key b R2
 exact Sl.Same_yes A B n c1 c2 f w (by omega) hA hB
theorem same_rat (n:Nat)(p q:Nat→Int)(a b:Value)(w:World)(N1:n≤4096)(R1:RatL w a n p q)(R2:RatL w b n p q) :
  Calls Tryz.prog 14 #[a,b] w fun e w'=>e= .returned (.bool true)∧Below w.heap.size w w':=by
 have key:∀ v,RatL w v n p q→∃ A c,v= .slice A n c∧(n=0∨∃ b,A=some ⟨b,0,none⟩∧Rowp w b n p q):=fun v h=>by
  rcases h.o with ⟨h1,rfl⟩|⟨g,cap,rfl,q⟩
  ·exact ⟨_,_,by rw [h1],.inl h1⟩
  ·exact ⟨_,_,rfl,.inr ⟨g,rfl,q⟩⟩
 obtain ⟨A,c1,rfl,hA⟩:=key a R1
 obtain ⟨B,c2,rfl,hB⟩:=key b R2
 exact SameRatios_yes A B n c1 c2 p q w (by omega) hA hB
theorem same_sh (c:CalZ)(L A:Int)(pd:Nat→Int)(u:Int×Int)(n:Nat)(a b:Value)(w:World)(N1:n≤4096)(R1:ShL w a c L A pd u n)(R2:ShL w b c L A pd u n) :
  Calls Tryz.prog 13 #[a,b] w fun e w'=>e= .returned (.bool true)∧Below w.heap.size w w':=by
 rcases R1.o with ⟨h1,rfl⟩|⟨g1,c1,o1,rfl,q1,s1⟩
 ·rcases R2.o with ⟨_,rfl⟩|⟨g2,c2,o2,rfl,q2,s2⟩
  ·exact rsame_shnil _ _ _ _ _
  ·subst h1;exact rsame_shnil _ _ _ _ _
 ·rcases R2.o with ⟨h2,rfl⟩|⟨g2,c2,o2,rfl,q2,s2⟩
  ·subst h2;exact rsame_shnil _ _ _ _ _
  ·refine rsame_sh g1 g2 n c1 c2 (shareF c L u o1) w (by omega) q1 (q2.congr (fun i j hi hj=>?_))
   have e:=Sm.split_unique s1 s2 i hi
   unfold shareF
   rw [e]

end Go.Proofs.YtoilomigceijaaaGreatDoor.Rr

