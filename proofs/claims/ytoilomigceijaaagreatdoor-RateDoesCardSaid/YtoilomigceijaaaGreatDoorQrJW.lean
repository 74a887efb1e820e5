/- Texts that are joined: Hcode4, Hcode5, Hcode6. -/
import Derived.Test.YtoilomigceijaaaGreatDoorQrJH
set_option linter.unusedSimpArgs false
set_option linter.unusedVariables false
namespace Go.Proofs.YtoilomigceijaaaGreatDoor.Hp
open Go.RowKit Bn Bx Cp Am Fp Ap Cm Em Ep Rk

set_option maxHeartbeats 2000000

theorem hinfoN:(Tryz.prog.info? 3).map (fun i=>(i.zero,i.size,i.bytes))=some (some (.int .i64 0),1,8):=by kernel_rfl
theorem hunderN:Tryz.prog.underlying 74=some (.slice 3):=by kernel_rfl

def fend (c:CalZ)(y:Int)(i:Nat):Int:=pend c y ((i:Int)+1)
def fwk (c:CalZ)(y:Int)(i:Nat):Int:=wks c y ((i:Int)+1)

set_option maxRecDepth 100000 in
theorem endsFrom_any (c:CalZ)(y a:Int)(n:Nat)(w:World)(ok:CalOk c)(y0:1601≤y)(y1:y≤9997)(ha:a=pend c y 0+1)(hn:(n:Int)=per c)(hm:c.nm.size≤maxLen)(T:FTab w) :
  Calls Tryz.prog 143 #[.agg #[.string c.nm,.int .i64 c.k,.int .i64 c.d,.int .i64 c.m,.int .i64 c.s,.int .i64 c.sh,.int .i64 c.p0,.int .i64 c.p1,.int .i64 c.p2,.int .i64 c.cy,.int .i64 c.ex,.int .i64 c.fi,.int .i64 c.la,.int .i64 c.po],.int .i64 y,.int .i64 a] w (IntsOne w n (fend c y)):=by
 have C:=CalIn.new w c 24
 have B:=balloc (Below.refl _ w) (.cells #[.string c.nm,.int .i64 c.k,.int .i64 c.d,.int .i64 c.m,.int .i64 c.s,.int .i64 c.sh,.int .i64 c.p0,.int .i64 c.p1,.int .i64 c.p2,.int .i64 c.cy,.int .i64 c.ex,.int .i64 c.fi,.int .i64 c.la,.int .i64 c.po] 24)
 replace T:=T.alloc (.cells #[.string c.nm,.int .i64 c.k,.int .i64 c.d,.int .i64 c.m,.int .i64 c.s,.int .i64 c.sh,.int .i64 c.p0,.int .i64 c.p1,.int .i64 c.p2,.int .i64 c.cy,.int .i64 c.ex,.int .i64 c.fi,.int .i64 c.la,.int .i64 c.po] 24)
 have pb:=per_bd ok.1
 have n0:0<n:=by omega
 have n1:n≤52:=by omega
 have cp:=fun w T=>Periods_any c (n:Int) 0 w (.inl ⟨ok,hn,rfl⟩) hm T
 have CM:Hid (∀ k:Nat,k<n→∃ f v:Int,f=pend c y k+1∧v=fend c y k∧0≤f∧f≤3068037∧0≤v∧v≤3068036∧∀ w,FTab w→Calls Tryz.prog 163 #[.agg #[.string c.nm,.int .i64 c.k,.int .i64 c.d,.int .i64 c.m,.int .i64 c.s,.int .i64 c.sh,.int .i64 c.p0,.int .i64 c.p1,.int .i64 c.p2,.int .i64 c.cy,.int .i64 c.ex,.int .i64 c.fi,.int .i64 c.la,.int .i64 c.po],.int .i64 y,.int .i64 ((k:Int)+1),.int .i64 f] w fun e w'=>e= .returned (.int .i64 v)∧Below w.heap.size w w') :=
  Lib.hid (fun k hk=>by
   have b0:=pend_bd ok.1 y0 y1 (p:=(k:Int)) (by omega) (by omega)
   have b1:=pend_bd ok.1 y0 y1 (p:=(k:Int)+1) (by omega) (by omega)
   exact ⟨_,_,rfl,rfl,by omega,by omega,b1.1,b1.2,fun w T=>pendOf_any c y ((k:Int)+1) _ _ w ok y0 y1 (by omega) (by omega) (by rw [show (k:Int)+1 - 1=k by omega]) rfl hm T⟩)
 have HA:Hid (a=pend c y (0:Nat)+1):=Lib.hid ha
 obtain ⟨i0,hi,hz0,hz1,hz2⟩:=info_parts hinfoN
 clear ok ha hn pb
 go_enter Tryz.func143,Tryz.ntmps143
 go_upto_region 1 with fail
 generalize w.alloc (.cells #[.string c.nm,.int .i64 c.k,.int .i64 c.d,.int .i64 c.m,.int .i64 c.s,.int .i64 c.sh,.int .i64 c.p0,.int .i64 c.p1,.int .i64 c.p2,.int .i64 c.cy,.int .i64 c.ex,.int .i64 c.fi,.int .i64 c.la,.int .i64 c.po] 24)=W0 at *
 obtain ⟨_,c0,c1,c2,c3,c4,c5,c6,c7,c8,c9,c10,c11,c12,c13⟩:=id C
 go_wp2_with fail
 refine (cp _ T).mono ?_
 rintro e w1 ⟨rfl,hb⟩
 replace C:=C.kept hb
 replace B:=bthen B hb
 replace T:=T.kept hb
 clear hb c0 c1 c2 c3 c4 c5 c6 c7 c8 c9 c10 c11 c12 c13
 obtain ⟨_,c0,c1,c2,c3,c4,c5,c6,c7,c8,c9,c10,c11,c12,c13⟩:=id C
 clear cp c0 c1 c2 c3 c4 c5 c6 c7 c8 c9 c10 c11 c12 c13
 go_wp2
 go_loopw [2,9,10] (fun X O Y wr=>∃ k:Nat,k≤n∧Y= .int .i64 ((k:Int)+1)∧(∃ f:Int,X= .int .i64 f∧Hid (f=pend c y k+1))∧One 3 w1 wr O k (fend c y)) (fun _ _ Y _=>(54 - intOf Y).toNat)
 case atStart=>exact ⟨0,by omega,rfl,⟨a,rfl,HA⟩,One.start _ w1 (Below.refl _ w1) _⟩
 case round =>
  obtain ⟨k,hk,rfl,⟨f,rfl,hf⟩,X⟩:=hrel
  by_cases hlt:k<n
  ·obtain ⟨f',v,e1,e2,f0,f1,v0,v1,cc⟩:=CM.out k hlt
   obtain rfl:f=f':=hf.out.trans e1.symm
   have Ck:=C.kept X.below
   have E2:=Lib.hid e2
   have E3:Hid (v+1=pend c y ((k+1:Nat):Int)+1):=Lib.hid (by rw [e2];unfold fend;rw [show ((k+1:Nat):Int)=(k:Int)+1 by omega])
   have ck:=cc wr (T.kept X.below)
   clear e1 e2 cc hf
   obtain ⟨_,c0,c1,c2,c3,c4,c5,c6,c7,c8,c9,c10,c11,c12,c13⟩:=id Ck
   go_wp2_with fail
   refine ck.mono ?_
   rintro e w3 ⟨rfl,hb⟩
   replace X:=X.kept hb
   have sz:=X.below.size
   clear hb ck Ck c0 c1 c2 c3 c4 c5 c6 c7 c8 c9 c10 c11 c12 c13
   go_wp2_with (first
    | (at_builtin;refine wpList_append_lies _ rfl _ _ 74 rfl w1.heap.size 3 i0 (.int .i64 0) 1 8 hunderN hi hz0 hz1 hz2 rfl (by decide) _ k (lst (fend c y) k) rfl (X.a.alloc _) ⟨w3.heap.size,0,none⟩ 1 1 [.int .i64 v] rfl rfl ?q1 ?q2 (by omega) ?q3 ?q4 ?q5 _ rfl ?q6))
   case q1 =>
    intro j u hj
    match j,hj with
    | 0,hj=>simp at hj;subst hj;simp [Addr.add,go_sem]
   case q2=>intro u hu;simp at hu;subst hu;rfl
   case q3=>unfold maxLen;omega
   case q4=>omega
   case q5=>simp;omega
   case q6 =>
    intro g1 cap1 w4 hown1 hgrow1 hat1 hlt1
    have X2:=X.next (o1:=.cells #[.int .i64 v] 3) E2.out hown1 hgrow1
    clear hown1 hgrow1 hat1 hlt1 X sz
    go_wp2
    go_roundw
    case rel=>exact ⟨k+1,by omega,by go_num,⟨v+1,rfl,E3⟩,X2⟩
    case measure=>simp [intOf];omega
  ·obtain rfl:k=n:=by omega
   obtain ⟨g1,cap1,rfl,hg1,R1⟩:=X.out n0
   have Y:IntsOne w k (fend c y) (.returned (.slice (some ⟨g1,0,none⟩) k cap1)) wr:=⟨g1,cap1,rfl,R1,Nat.le_trans B.size hg1,bthen B X.below⟩
   have HY:=Lib.hid Y
   have dk:decide ((k:Int)+1≤(k:Int))=false:=decide_eq_false (by omega)
   clear Y X R1
   go_wp2
   exact bodyPost_ret (v:=.slice (some ⟨g1,0,none⟩) k cap1) (by simp [results,Tryz.results143,go_sem]) rfl HY.out

set_option maxRecDepth 100000 in
theorem Ends_ok (c:CalZ)(y:Int)(n:Nat)(w:World)(ok:CalOk c)(y0:1601≤y)(y1:y≤9997)(hn:(n:Int)=per c)(hm:c.nm.size≤maxLen)(T:FTab w) :
  Calls Tryz.prog 98 #[.agg #[.string c.nm,.int .i64 c.k,.int .i64 c.d,.int .i64 c.m,.int .i64 c.s,.int .i64 c.sh,.int .i64 c.p0,.int .i64 c.p1,.int .i64 c.p2,.int .i64 c.cy,.int .i64 c.ex,.int .i64 c.fi,.int .i64 c.la,.int .i64 c.po],.int .i64 y] w (IntsOut w n (fend c y)):=by
 have C:=CalIn.new w c 24
 have B:=balloc (Below.refl _ w) (.cells #[.string c.nm,.int .i64 c.k,.int .i64 c.d,.int .i64 c.m,.int .i64 c.s,.int .i64 c.sh,.int .i64 c.p0,.int .i64 c.p1,.int .i64 c.p2,.int .i64 c.cy,.int .i64 c.ex,.int .i64 c.fi,.int .i64 c.la,.int .i64 c.po] 24)
 replace T:=T.alloc (.cells #[.string c.nm,.int .i64 c.k,.int .i64 c.d,.int .i64 c.m,.int .i64 c.s,.int .i64 c.sh,.int .i64 c.p0,.int .i64 c.p1,.int .i64 c.p2,.int .i64 c.cy,.int .i64 c.ex,.int .i64 c.fi,.int .i64 c.la,.int .i64 c.po] 24)
 obtain ⟨a,ha⟩:∃ a,a=pend c y 0+1:=⟨_,rfl⟩
 have bd:=pend_bd ok.1 y0 y1 (p:=0) (by omega) (by have:=per_bd ok.1;omega)
 have cs:=fun w T=>Start_any c y a 0 w (.inl ⟨ok,y0,y1,by rw [ha,pend_zero],rfl⟩) hm T
 have ce:=fun w T=>endsFrom_any c y a n w ok y0 y1 ha hn hm T
 obtain ⟨b0,b1⟩:0≤a∧a≤3068037:=by omega
 clear ok hn ha bd
 go_enter Tryz.func98,Tryz.ntmps98
 go_upto_region 1 with fail
 generalize w.alloc (.cells #[.string c.nm,.int .i64 c.k,.int .i64 c.d,.int .i64 c.m,.int .i64 c.s,.int .i64 c.sh,.int .i64 c.p0,.int .i64 c.p1,.int .i64 c.p2,.int .i64 c.cy,.int .i64 c.ex,.int .i64 c.fi,.int .i64 c.la,.int .i64 c.po] 24)=W0 at *
 obtain ⟨_,c0,c1,c2,c3,c4,c5,c6,c7,c8,c9,c10,c11,c12,c13⟩:=id C
 go_wp2_with fail
 refine (cs _ T).mono ?_
 rintro e w1 ⟨rfl,hb⟩
 replace C:=C.kept hb
 replace B:=bthen B hb
 replace T:=T.kept hb
 clear hb c0 c1 c2 c3 c4 c5 c6 c7 c8 c9 c10 c11 c12 c13
 obtain ⟨_,c0,c1,c2,c3,c4,c5,c6,c7,c8,c9,c10,c11,c12,c13⟩:=id C
 go_wp2_with fail
 refine (ce _ T).mono ?_
 rintro e w2 ⟨g,cap,rfl,R,hg,hb⟩
 have Y:IntsOut w n (fend c y) (.returned (.tuple #[.slice (some ⟨g,0,none⟩) n cap,.int .i64 0])) w2:=⟨g,cap,rfl,R,Nat.le_trans B.size hg,bthen B hb⟩
 have HY:=Lib.hid Y
 clear Y R hg hb ce cs
 go_wp2
 exact bodyPost_ret (v:=.tuple #[.slice (some ⟨g,0,none⟩) n cap,.int .i64 0]) (by simp [results,Tryz.results98,go_sem]) rfl HY.out

set_option maxRecDepth 100000 in
theorem Weeks_ok (c:CalZ)(y:Int)(n:Nat)(w:World)(ok:CalOk c)(y0:1601≤y)(y1:y≤9997)(hn:(n:Int)=per c)(hm:c.nm.size≤maxLen)(T:FTab w) :
  Calls Tryz.prog 144 #[.agg #[.string c.nm,.int .i64 c.k,.int .i64 c.d,.int .i64 c.m,.int .i64 c.s,.int .i64 c.sh,.int .i64 c.p0,.int .i64 c.p1,.int .i64 c.p2,.int .i64 c.cy,.int .i64 c.ex,.int .i64 c.fi,.int .i64 c.la,.int .i64 c.po],.int .i64 y] w (IntsOut w n (fwk c y)):=by
 have C:=CalIn.new w c 24
 have B:=balloc (Below.refl _ w) (.cells #[.string c.nm,.int .i64 c.k,.int .i64 c.d,.int .i64 c.m,.int .i64 c.s,.int .i64 c.sh,.int .i64 c.p0,.int .i64 c.p1,.int .i64 c.p2,.int .i64 c.cy,.int .i64 c.ex,.int .i64 c.fi,.int .i64 c.la,.int .i64 c.po] 24)
 replace T:=T.alloc (.cells #[.string c.nm,.int .i64 c.k,.int .i64 c.d,.int .i64 c.m,.int .i64 c.s,.int .i64 c.sh,.int .i64 c.p0,.int .i64 c.p1,.int .i64 c.p2,.int .i64 c.cy,.int .i64 c.ex,.int .i64 c.fi,.int .i64 c.la,.int .i64 c.po] 24)
 have pb:=per_bd ok.1
 have n0:0<n:=by omega
 have n1:n≤52:=by omega
 obtain ⟨a,ha⟩:∃ a,a=pend c y 0+1:=⟨_,rfl⟩
 have bd:=pend_bd ok.1 y0 y1 (p:=0) (by omega) (by have:=per_bd ok.1;omega)
 have cs:=fun w T=>Start_any c y a 0 w (.inl ⟨ok,y0,y1,by rw [ha,pend_zero],rfl⟩) hm T
 have ce:=fun w T=>endsFrom_any c y a n w ok y0 y1 ha hn hm T
 obtain ⟨b0,b1⟩:0≤a∧a≤3068037:=by omega
 have CM:Hid (∀ k:Nat,k<n→∃ f v m:Int,f=pend c y k+1∧v=fend c y k∧m=fwk c y k∧0≤f∧f≤3068037∧0≤v∧v≤3068036∧∀ w,Calls Tryz.prog 164 #[.int .i64 f,.int .i64 v] w fun e w'=>e= .returned (.int .i64 m)∧Below w.heap.size w w') :=
  Lib.hid (fun k hk=>by
   have b0:=pend_bd ok.1 y0 y1 (p:=(k:Int)) (by omega) (by omega)
   have b1:=pend_bd ok.1 y0 y1 (p:=(k:Int)+1) (by omega) (by omega)
   have st:=(step_bd ok.1 y0 y1 (p:=(k:Int)+1) (by omega) (by omega)).1
   rw [show (k:Int)+1 - 1=k by omega] at st
   exact ⟨_,_,_,rfl,rfl,rfl,by omega,by omega,b1.1,b1.2,fun w=>count_any _ _ _ w (by unfold fwk wks fend;rw [show (k:Int)+1 - 1=k by omega];congr 1;omega) (by omega) (by unfold fend;omega) b1.2⟩)
 have HA:Hid (a=pend c y (0:Nat)+1):=Lib.hid ha
 obtain ⟨i0,hi,hz0,hz1,hz2⟩:=info_parts hinfoN
 clear ok hn ha bd pb
 go_enter Tryz.func144,Tryz.ntmps144
 go_upto_region 1 with fail
 generalize w.alloc (.cells #[.string c.nm,.int .i64 c.k,.int .i64 c.d,.int .i64 c.m,.int .i64 c.s,.int .i64 c.sh,.int .i64 c.p0,.int .i64 c.p1,.int .i64 c.p2,.int .i64 c.cy,.int .i64 c.ex,.int .i64 c.fi,.int .i64 c.la,.int .i64 c.po] 24)=W0 at *
 obtain ⟨_,c0,c1,c2,c3,c4,c5,c6,c7,c8,c9,c10,c11,c12,c13⟩:=id C
 go_wp2_with fail
 refine (cs _ T).mono ?_
 rintro e w1 ⟨rfl,hb⟩
 replace C:=C.kept hb
 replace B:=bthen B hb
 replace T:=T.kept hb
 clear hb c0 c1 c2 c3 c4 c5 c6 c7 c8 c9 c10 c11 c12 c13
 obtain ⟨_,c0,c1,c2,c3,c4,c5,c6,c7,c8,c9,c10,c11,c12,c13⟩:=id C
 go_wp2_with fail
 refine (ce _ T).mono ?_
 rintro e w2 ⟨g,cap,rfl,R,hg,hb⟩
 replace B:=bthen B hb
 clear hb ce cs C T hg c0 c1 c2 c3 c4 c5 c6 c7 c8 c9 c10 c11 c12 c13
 go_wp2
 go_loopw [6,8,25] (fun X O Y wr=>∃ k:Nat,k≤n∧Y= .int .i64 (k:Int)∧(∃ f:Int,X= .int .i64 f∧Hid (f=pend c y k+1))∧One 3 w2 wr O k (fwk c y)) (fun _ _ Y _=>(54 - intOf Y).toNat)
 case atStart=>exact ⟨0,by omega,rfl,⟨a,rfl,HA⟩,One.start _ w2 (Below.refl _ w2) _⟩
 case round =>
  obtain ⟨k,hk,rfl,⟨f,rfl,hf⟩,X⟩:=hrel
  by_cases hlt:k<n
  ·obtain ⟨f',v,m,e1,e2,e3,f0,f1,v0,v1,cc⟩:=CM.out k hlt
   obtain rfl:f=f':=hf.out.trans e1.symm
   have rc:=(R.kept X.below).c k hlt
   rw [← e2] at rc
   have E2:=Lib.hid e3
   have E3:Hid (v+1=pend c y ((k+1:Nat):Int)+1):=Lib.hid (by rw [e2];unfold fend;rw [show ((k+1:Nat):Int)=(k:Int)+1 by omega])
   have ck:=cc wr
   have pp:(0:Int)≤(k:Int):=by omega
   have bp:(k:Int)<(n:Int):=by omega
   clear e1 e2 e3 cc hf
   go_wp2_with fail
   refine ck.mono ?_
   rintro e w3 ⟨rfl,hb⟩
   replace X:=X.kept hb
   have sz:=X.below.size
   clear hb ck rc
   go_wp2_with (first
    | (at_builtin;refine wpList_append_lies _ rfl _ _ 74 rfl w2.heap.size 3 i0 (.int .i64 0) 1 8 hunderN hi hz0 hz1 hz2 rfl (by decide) _ k (lst (fwk c y) k) rfl (X.a.alloc _) ⟨w3.heap.size,0,none⟩ 1 1 [.int .i64 m] rfl rfl ?q1 ?q2 (by omega) ?q3 ?q4 ?q5 _ rfl ?q6))
   case q1 =>
    intro j u hj
    match j,hj with
    | 0,hj=>simp at hj;subst hj;simp [Addr.add,go_sem]
   case q2=>intro u hu;simp at hu;subst hu;rfl
   case q3=>unfold maxLen;omega
   case q4=>omega
   case q5=>simp;omega
   case q6 =>
    intro g1 cap1 w4 hown1 hgrow1 hat1 hlt1
    have X2:=X.next (o1:=.cells #[.int .i64 m] 3) E2.out hown1 hgrow1
    clear hown1 hgrow1 hat1 hlt1 X sz
    go_wp2
    go_roundw
    case rel=>exact ⟨k+1,by omega,by go_num,⟨v+1,rfl,E3⟩,X2⟩
    case measure=>simp [intOf];omega
  ·obtain rfl:k=n:=by omega
   obtain ⟨g1,cap1,rfl,hg1,R1⟩:=X.out n0
   have Y:IntsOut w k (fwk c y) (.returned (.tuple #[.slice (some ⟨g1,0,none⟩) k cap1,.int .i64 0])) wr:=⟨g1,cap1,rfl,R1,Nat.le_trans B.size hg1,bthen B X.below⟩
   have HY:=Lib.hid Y
   clear Y X R1
   go_wp2
   exact bodyPost_ret (v:=.tuple #[.slice (some ⟨g1,0,none⟩) k cap1,.int .i64 0]) (by simp [results,Tryz.results144,go_sem]) rfl HY.out

end Go.Proofs.YtoilomigceijaaaGreatDoor.Hp

namespace Go.Proofs.YtoilomigceijaaaGreatDoor.Hp
open Go.RowKit Bn Bx Cp Am Fp Ap Cm Em Ep Rk

set_option maxHeartbeats 2000000

set_option maxRecDepth 100000 in
theorem Quarter_any (c:CalZ)(p v er:Int)(w:World)(R:QuarA c p v er)(hm:c.nm.size≤maxLen)(T:FTab w) :
  Calls Tryz.prog 142 #[.agg #[.string c.nm,.int .i64 c.k,.int .i64 c.d,.int .i64 c.m,.int .i64 c.s,.int .i64 c.sh,.int .i64 c.p0,.int .i64 c.p1,.int .i64 c.p2,.int .i64 c.cy,.int .i64 c.ex,.int .i64 c.fi,.int .i64 c.la,.int .i64 c.po],.int .i64 p] w fun e w'=>e= .returned (.tuple #[.int .i64 v,.int .i64 er])∧Below w.heap.size w w':=by
 have C:=CalIn.new w c 24
 have B:=balloc (Below.refl _ w) (.cells #[.string c.nm,.int .i64 c.k,.int .i64 c.d,.int .i64 c.m,.int .i64 c.s,.int .i64 c.sh,.int .i64 c.p0,.int .i64 c.p1,.int .i64 c.p2,.int .i64 c.cy,.int .i64 c.ex,.int .i64 c.fi,.int .i64 c.la,.int .i64 c.po] 24)
 replace T:=T.alloc (.cells #[.string c.nm,.int .i64 c.k,.int .i64 c.d,.int .i64 c.m,.int .i64 c.s,.int .i64 c.sh,.int .i64 c.p0,.int .i64 c.p1,.int .i64 c.p2,.int .i64 c.cy,.int .i64 c.ex,.int .i64 c.fi,.int .i64 c.la,.int .i64 c.po] 24)
 rcases R with ⟨ok,p0,p1,hv,rfl⟩|⟨ok,h,rfl,rfl⟩|⟨no,rfl,rfl⟩
 ·obtain ⟨N,hN⟩:∃ N,N=per c:=⟨_,rfl⟩
  rw [← hN] at p1 hv
  have pb:=per_bd ok.1
  rw [← hN] at pb
  obtain ⟨n0,n1,_⟩:=pb
  have cp:=fun w T=>Periods_any c N 0 w (.inl ⟨ok,hN,rfl⟩) hm T
  have O:(v=1∧p≤N / 4)∨(v=2∧N / 4<p∧p≤N*2 / 4)∨(v=3∧N / 4<p∧N*2 / 4<p∧p≤N*3 / 4)∨(v=4∧N / 4<p∧N*2 / 4<p∧N*3 / 4<p):=by
   rw [hv];unfold quar
   by_cases h1:p≤N / 4
   ·rw [if_pos h1];omega
   ·rw [if_neg h1]
    by_cases h2:p≤N*2 / 4
    ·rw [if_pos h2];omega
    ·rw [if_neg h2]
     by_cases h3:p≤N*3 / 4
     ·rw [if_pos h3];omega
     ·rw [if_neg h3];omega
  clear ok hN hv
  rcases O with ⟨rfl,q1⟩|⟨rfl,q1,q2⟩|⟨rfl,q1,q2,q3⟩|⟨rfl,q1,q2,q3⟩
  ·go_enter Tryz.func142,Tryz.ntmps142
   go_upto_region 1 with fail
   generalize w.alloc (.cells #[.string c.nm,.int .i64 c.k,.int .i64 c.d,.int .i64 c.m,.int .i64 c.s,.int .i64 c.sh,.int .i64 c.p0,.int .i64 c.p1,.int .i64 c.p2,.int .i64 c.cy,.int .i64 c.ex,.int .i64 c.fi,.int .i64 c.la,.int .i64 c.po] 24)=W0 at *
   obtain ⟨_,c0,c1,c2,c3,c4,c5,c6,c7,c8,c9,c10,c11,c12,c13⟩:=id C
   go_wp2_with fail
   refine (cp _ T).mono ?_
   rintro e w1 ⟨rfl,hb⟩
   replace C:=C.kept hb
   replace B:=bthen B hb
   replace T:=T.kept hb
   clear hb c0 c1 c2 c3 c4 c5 c6 c7 c8 c9 c10 c11 c12 c13
   obtain ⟨_,c0,c1,c2,c3,c4,c5,c6,c7,c8,c9,c10,c11,c12,c13⟩:=id C
   go_wp2
   refine wp_loop_rounds 1 ?_;rw [rounds_succ]
   go_wp2
   go_ret2
   exact ⟨rfl,B⟩
  ·go_enter Tryz.func142,Tryz.ntmps142
   go_upto_region 1 with fail
   generalize w.alloc (.cells #[.string c.nm,.int .i64 c.k,.int .i64 c.d,.int .i64 c.m,.int .i64 c.s,.int .i64 c.sh,.int .i64 c.p0,.int .i64 c.p1,.int .i64 c.p2,.int .i64 c.cy,.int .i64 c.ex,.int .i64 c.fi,.int .i64 c.la,.int .i64 c.po] 24)=W0 at *
   obtain ⟨_,c0,c1,c2,c3,c4,c5,c6,c7,c8,c9,c10,c11,c12,c13⟩:=id C
   go_wp2_with fail
   refine (cp _ T).mono ?_
   rintro e w2 ⟨rfl,hb⟩
   replace C:=C.kept hb
   replace B:=bthen B hb
   replace T:=T.kept hb
   clear hb c0 c1 c2 c3 c4 c5 c6 c7 c8 c9 c10 c11 c12 c13
   obtain ⟨_,c0,c1,c2,c3,c4,c5,c6,c7,c8,c9,c10,c11,c12,c13⟩:=id C
   go_wp2
   refine wp_loop_rounds 2 ?_;rw [rounds_succ]
   go_wp2
   rw [rounds_succ]
   go_wp2
   go_ret2
   exact ⟨rfl,B⟩
  ·go_enter Tryz.func142,Tryz.ntmps142
   go_upto_region 1 with fail
   generalize w.alloc (.cells #[.string c.nm,.int .i64 c.k,.int .i64 c.d,.int .i64 c.m,.int .i64 c.s,.int .i64 c.sh,.int .i64 c.p0,.int .i64 c.p1,.int .i64 c.p2,.int .i64 c.cy,.int .i64 c.ex,.int .i64 c.fi,.int .i64 c.la,.int .i64 c.po] 24)=W0 at *
   obtain ⟨_,c0,c1,c2,c3,c4,c5,c6,c7,c8,c9,c10,c11,c12,c13⟩:=id C
   go_wp2_with fail
   refine (cp _ T).mono ?_
   rintro e w3 ⟨rfl,hb⟩
   replace C:=C.kept hb
   replace B:=bthen B hb
   replace T:=T.kept hb
   clear hb c0 c1 c2 c3 c4 c5 c6 c7 c8 c9 c10 c11 c12 c13
   obtain ⟨_,c0,c1,c2,c3,c4,c5,c6,c7,c8,c9,c10,c11,c12,c13⟩:=id C
   go_wp2
   refine wp_loop_rounds 3 ?_;rw [rounds_succ]
   go_wp2
   rw [rounds_succ]
   go_wp2
   rw [rounds_succ]
   go_wp2
   go_ret2
   exact ⟨rfl,B⟩
  ·have q4:¬ N*4 / 4<p:=by omega
   have q4':N*4 / 4=N:=by omega
   go_enter Tryz.func142,Tryz.ntmps142
   go_upto_region 1 with fail
   generalize w.alloc (.cells #[.string c.nm,.int .i64 c.k,.int .i64 c.d,.int .i64 c.m,.int .i64 c.s,.int .i64 c.sh,.int .i64 c.p0,.int .i64 c.p1,.int .i64 c.p2,.int .i64 c.cy,.int .i64 c.ex,.int .i64 c.fi,.int .i64 c.la,.int .i64 c.po] 24)=W0 at *
   obtain ⟨_,c0,c1,c2,c3,c4,c5,c6,c7,c8,c9,c10,c11,c12,c13⟩:=id C
   go_wp2_with fail
   refine (cp _ T).mono ?_
   rintro e w4 ⟨rfl,hb⟩
   replace C:=C.kept hb
   replace B:=bthen B hb
   replace T:=T.kept hb
   clear hb c0 c1 c2 c3 c4 c5 c6 c7 c8 c9 c10 c11 c12 c13
   obtain ⟨_,c0,c1,c2,c3,c4,c5,c6,c7,c8,c9,c10,c11,c12,c13⟩:=id C
   go_wp2
   refine wp_loop_rounds 4 ?_;rw [rounds_succ]
   go_wp2
   rw [rounds_succ]
   go_wp2
   rw [rounds_succ]
   go_wp2
   rw [rounds_succ]
   go_wp2
   go_ret2
   exact ⟨rfl,B⟩
 ·obtain ⟨N,hN⟩:∃ N,N=per c:=⟨_,rfl⟩
  rw [← hN] at h
  have pb:=per_bd ok.1
  rw [← hN] at pb
  obtain ⟨n0,n1,_⟩:=pb
  have cp:=fun w T=>Periods_any c N 0 w (.inl ⟨ok,hN,rfl⟩) hm T
  clear ok hN
  by_cases q:p<1
  ·clear h
   go_enter Tryz.func142,Tryz.ntmps142
   go_upto_region 1 with fail
   generalize w.alloc (.cells #[.string c.nm,.int .i64 c.k,.int .i64 c.d,.int .i64 c.m,.int .i64 c.s,.int .i64 c.sh,.int .i64 c.p0,.int .i64 c.p1,.int .i64 c.p2,.int .i64 c.cy,.int .i64 c.ex,.int .i64 c.fi,.int .i64 c.la,.int .i64 c.po] 24)=W0 at *
   obtain ⟨_,c0,c1,c2,c3,c4,c5,c6,c7,c8,c9,c10,c11,c12,c13⟩:=id C
   go_wp2_with fail
   refine (cp _ T).mono ?_
   rintro e w5 ⟨rfl,hb⟩
   replace C:=C.kept hb
   replace B:=bthen B hb
   replace T:=T.kept hb
   clear hb c0 c1 c2 c3 c4 c5 c6 c7 c8 c9 c10 c11 c12 c13
   obtain ⟨_,c0,c1,c2,c3,c4,c5,c6,c7,c8,c9,c10,c11,c12,c13⟩:=id C
   go_wp2
   go_ret2
   exact ⟨rfl,B⟩
  ·have q2:N<p:=by omega
   have q3:1≤p:=by omega
   clear h
   go_enter Tryz.func142,Tryz.ntmps142
   go_upto_region 1 with fail
   generalize w.alloc (.cells #[.string c.nm,.int .i64 c.k,.int .i64 c.d,.int .i64 c.m,.int .i64 c.s,.int .i64 c.sh,.int .i64 c.p0,.int .i64 c.p1,.int .i64 c.p2,.int .i64 c.cy,.int .i64 c.ex,.int .i64 c.fi,.int .i64 c.la,.int .i64 c.po] 24)=W0 at *
   obtain ⟨_,c0,c1,c2,c3,c4,c5,c6,c7,c8,c9,c10,c11,c12,c13⟩:=id C
   go_wp2_with fail
   refine (cp _ T).mono ?_
   rintro e w6 ⟨rfl,hb⟩
   replace C:=C.kept hb
   replace B:=bthen B hb
   replace T:=T.kept hb
   clear hb c0 c1 c2 c3 c4 c5 c6 c7 c8 c9 c10 c11 c12 c13
   obtain ⟨_,c0,c1,c2,c3,c4,c5,c6,c7,c8,c9,c10,c11,c12,c13⟩:=id C
   go_wp2
   go_ret2
   exact ⟨rfl,B⟩
 ·have cp:=fun w T=>Periods_any c 0 1 w (.inr ⟨no,rfl,rfl⟩) hm T
  clear no
  go_enter Tryz.func142,Tryz.ntmps142
  go_upto_region 1 with fail
  generalize w.alloc (.cells #[.string c.nm,.int .i64 c.k,.int .i64 c.d,.int .i64 c.m,.int .i64 c.s,.int .i64 c.sh,.int .i64 c.p0,.int .i64 c.p1,.int .i64 c.p2,.int .i64 c.cy,.int .i64 c.ex,.int .i64 c.fi,.int .i64 c.la,.int .i64 c.po] 24)=W0 at *
  obtain ⟨_,c0,c1,c2,c3,c4,c5,c6,c7,c8,c9,c10,c11,c12,c13⟩:=id C
  go_wp2_with fail
  refine (cp _ T).mono ?_
  rintro e w7 ⟨rfl,hb⟩
  replace C:=C.kept hb
  replace B:=bthen B hb
  replace T:=T.kept hb
  clear hb c0 c1 c2 c3 c4 c5 c6 c7 c8 c9 c10 c11 c12 c13
  obtain ⟨_,c0,c1,c2,c3,c4,c5,c6,c7,c8,c9,c10,c11,c12,c13⟩:=id C
  go_wp2
  go_ret2
  exact ⟨rfl,B⟩

end Go.Proofs.YtoilomigceijaaaGreatDoor.Hp

namespace Go.Proofs.YtoilomigceijaaaGreatDoor.Hp
open Go.RowKit Bn Bx Cp Am Fp Ap Cm Em Ep Rk

set_option maxHeartbeats 2000000

end Go.Proofs.YtoilomigceijaaaGreatDoor.Hp

