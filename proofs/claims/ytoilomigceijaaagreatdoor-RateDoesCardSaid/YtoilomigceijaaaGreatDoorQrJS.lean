/- Texts that are joined: Smath2, Sall, Sprog, Sprog2, Slaw. -/
import Derived.Test.YtoilomigceijaaaGreatDoorQrSmath
import Derived.Test.YtoilomigceijaaaGreatDoorQrJV
import Derived.Test.YtoilomigceijaaaGreatDoorQrJO
import Derived.WalkKit
import Derived.OpenShut
set_option linter.unusedSimpArgs false
set_option linter.unusedVariables false
namespace Go.Proofs.YtoilomigceijaaaGreatDoor.Sm
variable {a:Int} {w:Nat→Int} {n:Nat}

end Go.Proofs.YtoilomigceijaaaGreatDoor.Sm

namespace Go.Proofs.YtoilomigceijaaaGreatDoor.Sr
open Vm Sm Om

def AllRes (zs:List Int)(v er:Int):Prop :=
 (4096<zs.length∧v=0∧er=6)∨(zs.length≤4096∧(∃ z ∈ zs,z<0)∧v=0∧er=1)∨
 (zs.length≤4096∧(∀ z ∈ zs,0≤z)∧((¬ Fit1 zs.sum∧v=0∧er=2)∨(zs.sum=0∧v=0∧er=3)∨(0<zs.sum∧Fit1 zs.sum∧v=zs.sum∧er=0)))
theorem getD_mem {zs:List Int}{k:Nat}(h:k<zs.length):zs.getD k 0 ∈ zs:=by
 rw [show zs.getD k 0=zs[k] by simp [List.getD,h]];exact List.getElem_mem h

def wt (zs:List Int)(i:Nat):Int:=zs.getD i 0
theorem take_sum1:∀ (zs:List Int) (k:Nat),k<zs.length→(zs.take (k+1)).sum=(zs.take k).sum+zs.getD k 0
 | [],k,h=>by simp at h
 | z :: zs,0,h=>by simp
 | z :: zs,k+1,h=>by
   have:=take_sum1 zs k (by simpa using h)
   simp at this ⊢
   omega
theorem sm_list:∀ (zs:List Int),sm (wt zs) zs.length=zs.sum:=by
 have e:∀ (zs:List Int) (k:Nat),k≤zs.length→sm (wt zs) k=(zs.take k).sum:=by
  intro zs k
  induction k with
  | zero=>intro _;simp [sm]
  | succ j ih =>
    intro h
    unfold sm
    rw [ih (by omega),take_sum1 zs j (by omega)];rfl
 intro zs
 rw [e zs zs.length (by omega),List.take_length]
theorem may_list {zs:List Int}(h:∀ z ∈ zs,0≤z)(s:0<zs.sum):MayBe (wt zs) zs.length :=
 ⟨fun i hi=>h _ (getD_mem hi),by unfold tot;rw [sm_list];exact s⟩
theorem w_le {w:Nat→Int}{n i:Nat}(h:MayBe w n)(hi:i<n):w i≤tot w n:=by
 have h1:=sm_up (F:=w) (a:=0) (b:=i) (by omega) (fun j _ hj=>h.1 j (by omega))
 have h2:=sm_up (F:=w) (a:=i+1) (b:=n) (by omega) (fun j _ hj=>h.1 j hj)
 have e1:sm w (i+1)=sm w i+w i:=rfl
 have e2:sm w 0=0:=rfl
 unfold tot;omega
theorem quo_fit {a:Int}{w:Nat→Int}{n i:Nat}(fa:Fit1 a)(h:MayBe w n)(hi:i<n):Fit1 (quo a w n i):=by
 have w0:=h.1 i hi
 have w1:=w_le h hi
 have tp:=h.2
 have qr:=quo_rem (a:=a) (w:=w) (n:=n) i
 have rb:=rem_bd (a:=a) h i
 unfold Fit1 at *
 generalize quo a w n i=q at *
 generalize rem a w n i=r at *
 generalize tot w n=t at *
 generalize w i=x at *
 constructor
 ·by_cases c: -9223372036854775808≤q
  ·exact c
  ·have h1:t*(q+1)≤t*(-9223372036854775808):=Int.mul_le_mul_of_nonneg_left (by omega) (by omega)
   have h2: -9223372036854775808*x≤a*x:=Int.mul_le_mul_of_nonneg_right (by omega) w0
   have h3: -9223372036854775808*t≤ -9223372036854775808*x:=Int.mul_le_mul_of_nonpos_left (by omega) w1
   rw [Int.mul_add,Int.mul_one] at h1
   omega
 ·by_cases c:q≤9223372036854775807
  ·exact c
  ·have h1:t*9223372036854775808≤t*q:=Int.mul_le_mul_of_nonneg_left (by omega) (by omega)
   have h2:a*x≤9223372036854775807*x:=Int.mul_le_mul_of_nonneg_right (by omega) w0
   have h3:9223372036854775807*x≤9223372036854775807*t:=Int.mul_le_mul_of_nonneg_left w1 (by omega)
   omega
theorem quo_up {a:Int}{w:Nat→Int}{n i:Nat}(fa:Fit1 a)(h:MayBe w n)(hi:i<n)(r0:0<rem a w n i):quo a w n i+1≤9223372036854775807:=by
 have w0:=h.1 i hi
 have w1:=w_le h hi
 have tp:=h.2
 have qr:=quo_rem (a:=a) (w:=w) (n:=n) i
 unfold Fit1 at fa
 generalize quo a w n i=q at *
 generalize rem a w n i=r at *
 generalize tot w n=t at *
 generalize w i=x at *
 by_cases c:q+1≤9223372036854775807
 ·exact c
 ·have h1:t*9223372036854775807≤t*q:=Int.mul_le_mul_of_nonneg_left (by omega) (by omega)
  have h2:a*x≤9223372036854775807*x:=Int.mul_le_mul_of_nonneg_right (by omega) w0
  have h3:9223372036854775807*x≤9223372036854775807*t:=Int.mul_le_mul_of_nonneg_left w1 (by omega)
  omega

def tk (f:Nat→Nat):Nat→Nat→Bool
 | 0,_=>false
 | j+1,i=>if f j=i then true else tk f j i
theorem tk_iff (f:Nat→Nat)(i:Nat):∀ j,tk f j i=true↔∃ x,x<j∧f x=i
 | 0=>by simp [tk]
 | j+1=>by
   unfold tk
   by_cases e:f j=i
   ·rw [if_pos e];simp;exact ⟨j,by omega,e⟩
   ·rw [if_neg e,tk_iff f i j]
    constructor
    ·rintro ⟨x,h,k⟩;exact ⟨x,by omega,k⟩
    ·rintro ⟨x,h,k⟩
     refine ⟨x,?_,k⟩
     by_cases c:x=j
     ·subst c;exact absurd k e
     ·omega
theorem srt_inj {r:Nat→Int}{f:Nat→Nat}{n:Nat}(s:Srt r f 0 n){x y:Nat}(hx:x<n)(hy:y<n)(e:f x=f y):x=y:=by
 rcases Nat.lt_trichotomy x y with h|h|h
 ·have:=s x y (by omega) h hy;unfold Ahead at this;rw [e] at this;omega
 ·exact h
 ·have:=s y x (by omega) h hx;unfold Ahead at this;rw [e] at this;omega
theorem tk_new {r:Nat→Int}{f:Nat→Nat}{n j:Nat}(s:Srt r f 0 n)(hj:j<n):tk f j (f j)=false:=by
 cases e:tk f j (f j)
 ·rfl
 ·obtain ⟨x,h,k⟩:=(tk_iff f (f j) j).1 e
  have:=srt_inj s (by omega) hj k;omega
theorem count_first (c:Nat):∀ n,c≤n→sm (fun i=>one (decide (i<c))) n=c
 | 0,h=>by obtain rfl:c=0:=by omega
           rfl
 | n+1,h=>by
   by_cases e:c=n+1
   ·subst e
    rw [sm_congr (g:=fun _=>1) (fun i hi=>by simp [hi,one]),sm_const];omega
   ·have h1:=count_first c n (by omega)
    have e1:sm (fun i=>one (decide (i<c))) (n+1)=sm (fun i=>one (decide (i<c))) n+one (decide (n<c)):=rfl
    have e2:one (decide (n<c))=0:=by simp [one];omega
    omega
theorem first_best {r:Nat→Int}{f:Nat→Nat}{n c:Nat}(s:Srt r f 0 n)(p:Pm (fun i=>if i<n then i else 0) f 0 n)(hc:c≤n):Best r n c (tk f c):=by
 have ev:∀ h:Nat→Int,sm (fun i=>h (f i)) n=sm h n:=fun h=>by
  rw [p.ev h];exact sm_congr (fun i hi=>by simp only [hi,if_true])
 refine ⟨?_,fun i k hi hk ci ck=>?_⟩
 ·unfold cnt
  rw [← ev (fun i=>one (tk f c i)),← count_first c n hc]
  refine sm_congr (fun i hi=>?_)
  congr 1
  by_cases l:i<c
  ·rw [(tk_iff f (f i) c).2 ⟨i,l,rfl⟩];simp [l]
  ·cases e:tk f c (f i)
   ·simp [l]
   ·obtain ⟨x,h,k⟩:=(tk_iff f (f i) c).1 e
    have:=srt_inj s (by omega) hi k;omega
 ·obtain ⟨x,hx,rfl⟩:=(tk_iff f i c).1 ci
  have sur:∃ y,y<n∧f y=k:=by
   by_cases h:∃ y,y<n∧f y=k
   ·exact h
   ·exfalso
    have e:=ev (fun v=>if v=k then 1 else 0)
    have e1:sm (fun i=>if f i=k then (1:Int) else 0) n=sm (fun _=>0) n:=sm_congr (fun i hi=>by rw [if_neg (fun q=>h ⟨i,hi,q⟩)])
    have e2:=sm_more (F:=fun i=>if i=k then (1:Int) else 0) (a:=0) (b:=n) (k:=k) (by omega) hk (fun i _ _=>by split<;>omega) (by simp)
    rw [sm_const] at e1
    have e3:sm (fun i=>if i=k then (1:Int) else 0) 0=0:=rfl
    omega
  obtain ⟨y,hy,rfl⟩:=sur
  have l:c≤y:=by
   by_cases l:c≤y
   ·exact l
   ·rw [(tk_iff f (f y) c).2 ⟨y,by omega,rfl⟩] at ck;cases ck
  exact s x y (by omega) (by omega) hy

end Go.Proofs.YtoilomigceijaaaGreatDoor.Sr

namespace Go.Proofs.YtoilomigceijaaaGreatDoor.Sr
open Go.RowKit Vm Vc Pr Rk Sm Om Go.Proofs.YtoilomigceijaaaGreatDoor.Os

set_option maxHeartbeats 1000000

theorem together_any (A:Option Addr)(n cap:Nat)(zs:List Int)(v er:Int)(w:World)(hn:zs.length=n)(hm2:(n:Int)≤9223372036854775807)(hf:∀ z ∈ zs,Fit1 z)(hr:Rd w w.heap.size A zs)(R:AllRes zs v er) :
  Calls Tryz.prog 34 #[.slice A n cap] w fun e w'=>e= .returned (.tuple #[.int .i64 v,.int .i64 er])∧Below w.heap.size w w':=by
 rcases R with ⟨h,rfl,rfl⟩|⟨h,⟨y,hy,y0⟩,rfl,rfl⟩|⟨h,hp,R⟩
 ·have d1:decide ((4096:Int)<(n:Int))=true:=decide_eq_true (by omega)
  clear hf hr hn h
  go_enter Tryz.func34,Tryz.ntmps34
  go_wp2
  go_ret2
  exact ⟨rfl,Below.refl _ w⟩
 ·have d1:decide ((4096:Int)<(n:Int))=false:=decide_eq_false (by omega)
  have HN:=Lib.hid hn
  have HR:=Lib.hid hr
  have HF:=Lib.hid hf
  have HY:=Lib.hid (And.intro hy y0)
  clear hf hr hn h hy y0
  go_enter Tryz.func34,Tryz.ntmps34
  go_wp2
  go_loop [13] (fun x=>∃ k:Nat,k≤n∧x= .int .i64 k∧Hid (∀ i,i<k→0≤zs.getD i 0)) (fun x=>n - (intOf x).toNat)
  case atStart=>exact ⟨0,by omega,rfl,Lib.hid (fun i hi=>by omega)⟩
  case round =>
   obtain ⟨k,hk,rfl,hg⟩:=hrel
   by_cases hlt:k<n
   ·have hk2:k<zs.length:=by rw [HN.out];exact hlt
    obtain ⟨b,off,rfl,hb0,hcell⟩:=HR.out.resolve_left (by intro e;rw [e] at hk2;simp at hk2)
    have hc1:=hcell k hk2
    obtain ⟨z,hz⟩:∃ s,zs.getD k 0=s:=⟨_,rfl⟩
    rw [hz] at hc1
    clear hcell
    by_cases z0:z<0
    ·clear hz hk2
     go_wp2
     go_ret2
     exact ⟨rfl,Below.refl _ w⟩
    ·have hg2:Hid (∀ i,i<k+1→0≤zs.getD i 0):=Lib.hid (fun i hi=>by
      by_cases e:i=k
      ·subst e;omega
      ·exact hg.out i (by omega))
     clear hz hk2 hg
     go_wp2
     go_round
     case rel=>exact ⟨k+1,by omega,by go_num,hg2⟩
     case measure=>simp [intOf];omega
   ·exfalso
    obtain ⟨j,hj,e⟩:=List.getElem_of_mem HY.out.1
    have:=hg.out j (by have:=HN.out;omega)
    rw [show zs.getD j 0=zs[j] by simp [List.getD,hj],e] at this
    have:=HY.out.2
    omega
 ·have d1:decide ((4096:Int)<(n:Int))=false:=decide_eq_false (by omega)
  obtain ⟨s,es,rs⟩:=res1_ex zs.sum
  have cs:=fun w h=>Vc.Sum_any A n cap zs s es w hn hm2 hf h rs
  have O:(es≠0∧v=0∧er=es)∨(es=0∧s=0∧v=0∧er=3)∨(es=0∧s≠0∧v=s∧er=0):=by
   rcases rs with ⟨rfl,rfl,f⟩|⟨rfl,rfl,f⟩<;>rcases R with ⟨g,rfl,rfl⟩|⟨g,rfl,rfl⟩|⟨g,g2,rfl,rfl⟩
   ·exact absurd f g
   ·exact .inr (.inl ⟨rfl,g,rfl,rfl⟩)
   ·exact .inr (.inr ⟨rfl,by omega,rfl,rfl⟩)
   ·exact .inl ⟨by decide,rfl,rfl⟩
   ·exact absurd (by rw [g];unfold Fit1;omega) f
   ·exact absurd g2 f
  have HN:=Lib.hid hn
  have HR:=Lib.hid hr
  have HP:=Lib.hid hp
  clear hf hr hn h hp R rs
  go_enter Tryz.func34,Tryz.ntmps34
  go_wp2
  go_loop [13] (fun x=>∃ k:Nat,k≤n∧x= .int .i64 k) (fun x=>n - (intOf x).toNat)
  case atStart=>exact ⟨0,by omega,rfl⟩
  case round =>
   obtain ⟨k,hk,rfl⟩:=hrel
   by_cases hlt:k<n
   ·have hk2:k<zs.length:=by rw [HN.out];exact hlt
    have z0:=HP.out _ (getD_mem hk2)
    obtain ⟨b,off,rfl,hb0,hcell⟩:=HR.out.resolve_left (by intro e;rw [e] at hk2;simp at hk2)
    have hc1:=hcell k hk2
    obtain ⟨z,hz⟩:∃ s,zs.getD k 0=s:=⟨_,rfl⟩
    rw [hz] at hc1 z0
    clear hcell hz hk2
    go_wp2
    go_round
    case rel=>exact ⟨k+1,by omega,by go_num⟩
    case measure=>simp [intOf];omega
   ·go_wp2_with fail
    refine (cs _ HR.out).mono ?_
    rintro e w1 ⟨rfl,hb⟩
    rcases O with ⟨o,rfl,rfl⟩|⟨rfl,rfl,rfl,rfl⟩|⟨rfl,o,rfl,rfl⟩
    ·have q1:(er != 0)=true:=bne_iff_ne.2 o
     clear o
     go_wp2
     go_ret2
     exact ⟨rfl,hb⟩
    ·go_wp2
     go_ret2
     exact ⟨rfl,hb⟩
    ·have q1:(v==0)=false:=beq_eq_false_iff_ne.2 o
     clear o
     go_wp2
     go_ret2
     exact ⟨rfl,hb⟩

end Go.Proofs.YtoilomigceijaaaGreatDoor.Sr

namespace Go.Proofs.YtoilomigceijaaaGreatDoor.Sr
open Go.RowKit Vm Vc Pr Rk Sm Om Go.Proofs.YtoilomigceijaaaGreatDoor.Os

set_option maxHeartbeats 1000000

structure Sp (w W:World) (gp gr n:Nat) (po re:Nat→Int):Prop where
 below:Below w.heap.size w W
 p:Row W gp n po
 r:Row W gr n re
 ne:gp≠gr
 lp:w.heap.size≤gp
 lr:w.heap.size≤gr
section
variable {w W w1:World} {gp gr n:Nat} {po re:Nat→Int}
theorem Sp.kept (x:Sp w W gp gr n po re)(hb:Below W.heap.size W w1):Sp w w1 gp gr n po re:=⟨bthen x.below hb,x.p.kept hb,x.r.kept hb,x.ne,x.lp,x.lr⟩
theorem Sp.put (x:Sp w W gp gr n po re){k:Nat}(hk:k<n)(u v:Int) :
  Sp w ((W.setCell ⟨gp,k,none⟩ (.int .i64 u)).setCell ⟨gr,k,none⟩ (.int .i64 v)) gp gr n (fun i=>if i=k then u else po i) (fun i=>if i=k then v else re i) :=
 ⟨bset (bset x.below x.lp _ _) x.lr _ _,(x.p.set u hk).other k _ x.ne,(x.r.other k _ (fun e=>x.ne e.symm)).set v hk,x.ne,x.lp,x.lr⟩
theorem Sp.congr {po' re':Nat→Int}(x:Sp w W gp gr n po re)(h1:∀ i,i<n→po i=po' i)(h2:∀ i,i<n→re i=re' i):Sp w W gp gr n po' re' :=
 ⟨x.below,row_congr x.p h1,row_congr x.r h2,x.ne,x.lp,x.lr⟩
end

def SplitRes (w:World)(n:Nat)(P:(Nat→Int)→Prop)(e:Ending)(w':World):Prop :=
 ∃ (g:Nat) (o:Nat→Int),e= .returned (.tuple #[.slice (some ⟨g,0,none⟩) n n,.int .i64 0])∧Row w' g n o∧w.heap.size≤g∧P o∧Below w.heap.size w w'

theorem split_go (A:Option Addr)(n cap:Nat)(zs:List Int)(a:Int)(w:World)(hn:zs.length=n)(n0:0<n)(n1:n≤4096)(fa:Fit1 a)(hf:∀ z ∈ zs,Fit1 z)(hr:Rd w w.heap.size A zs)(hp:∀ z ∈ zs,0≤z)(hs:0<zs.sum)(fs:Fit1 zs.sum) :
  Calls Tryz.prog 20 #[.int .i64 a,.slice A n cap] w (SplitRes w n (IsSplit a (wt zs) n)):=by
 have ct:=fun w h=>together_any A n cap zs zs.sum 0 w hn (by omega) hf h (.inr (.inr ⟨by omega,hp,.inr (.inr ⟨hs,fs,rfl,rfl⟩)⟩))
 obtain ⟨b,off,rfl,hb,hcell⟩:=hr.resolve_left (by intro e;rw [e] at hn;simp at hn;omega)
 have M:MayBe (wt zs) n:=by rw [← hn];exact may_list hp hs
 have te:tot (wt zs) n=zs.sum:=by rw [← hn];exact sm_list zs
 obtain ⟨t,ht⟩:∃ t,t=zs.sum:=⟨_,rfl⟩
 rw [← ht] at ct te hs fs
 obtain ⟨x,hx⟩:∃ x,x=wt zs:=⟨_,rfl⟩
 have hcell2:∀ i,i<n→w.cell? ⟨b,off+i,none⟩=some (.int .i64 (x i)):=fun i hi=>by rw [hx];exact hcell i (by omega)
 have fx:∀ i,i<n→Fit1 (x i):=fun i hi=>by rw [hx];exact hf _ (getD_mem (by omega))
 rw [← hx] at M te ⊢
 have CM:Hid (∀ i W,i<n→Calls Tryz.prog 35 #[.int .i64 a,.int .i64 (x i),.int .i64 t] W fun e w'=>e= .returned (.tuple #[.int .i64 (quo a x n i),.int .i64 (rem a x n i),.int .i64 0])∧Below W.heap.size W w') :=
  Lib.hid (fun i W hi=>Vl.muldiv_to a (x i) t (quo a x n i) (rem a x n i) 0 W fa (fx i hi) fs (.inr (.inr (.inr ⟨hs,rfl,quo_fit fa M hi,by unfold quo;rw [te],by unfold rem;rw [te]⟩))))
 have HX:=Lib.hid hcell2
 have HM:=Lib.hid M
 have HA:=Lib.hid fa
 have ct0:=ct w hr
 obtain ⟨cs,hmk,hrow⟩:=make_row infoL underL n (by omega)
 have HR:=Lib.hid hrow
 clear ct hcell hcell2 M te fx hr hp hf hn ht hx hs fs hrow
 go_enter Tryz.func20,Tryz.ntmps20
 go_wp2_with fail
 refine ct0.mono ?_
 rintro e w1 ⟨rfl,hb1⟩
 clear ct0
 have R1:=((HR.out w1).kept (balloc (Below.refl _ _) (.cells cs 2))).kept (bdrewN (Below.refl _ _) 1)
 have R2:=(HR.out (w1.alloc (.cells cs 2))).kept (bdrewN (Below.refl _ _) 1)
 rw [World.size_alloc] at R2
 have BB:Below w.heap.size w ((w1.alloc (.cells cs 2)).alloc (.cells cs 2)).drew:=bdrewN (balloc (balloc hb1 _) _) 1
 have SZ:=hb1.size
 go_wp2_with fail
 go_region
 ·have X:Sp w ((w1.alloc (.cells cs 2)).alloc (.cells cs 2)).drew w1.heap.size (w1.heap.size+1) n (fun _=>0) (fun _=>0):=⟨BB,R1,R2,by omega,SZ,by omega⟩
  clear R1 R2 BB SZ
  have FA:=HA.out
  generalize ((w1.alloc (.cells cs 2)).alloc (.cells cs 2)).drew=W2 at X ⊢
  generalize w1.heap.size+1=G2 at X ⊢
  generalize w1.heap.size=G1 at X ⊢
  clear hb1 hmk FA
  go_wp2
  go_loopw [10,32] (fun L Y wr=>∃ k:Nat,k≤n∧Y= .int .i64 k∧(∃ l,L= .int .i64 l∧Hid (l=IntKind.i64.wrap (a - sm (quo a x n) k)))∧
   Sp w wr G1 G2 n (fun i=>if i<k then quo a x n i else 0) (fun i=>if i<k then rem a x n i else 0)) (fun _ Y _=>n - (intOf Y).toNat)
  case atStart=>exact ⟨0,by omega,rfl,⟨a,rfl,Lib.hid (by rw [show sm (quo a x n) 0=0 from rfl,Int.sub_zero];exact (IntWalk.i64_in _ (by have:=HA.out;unfold Fit1 at this;omega)).symm)⟩,X.congr (fun i _=>by simp) (fun i _=>by simp)⟩
  case round =>
   clear X
   obtain ⟨k,hk,rfl,⟨l,rfl,HL⟩,X⟩:=hrel
   by_cases hlt:k<n
   ·have hc:=(X.below.cell (p:=⟨b,off+k,none⟩) hb).trans (HX.out k hlt)
    have cmk:=fun W=>CM.out k W hlt
    have E:Hid ((∀ i,i<n→(if i=k then quo a x n k else if i<k then quo a x n i else 0)=if i<k+1 then quo a x n i else 0)∧(∀ i,i<n→(if i=k then rem a x n k else if i<k then rem a x n i else 0)=if i<k+1 then rem a x n i else 0)):=by
     refine Lib.hid ⟨fun i _=>?_,fun i _=>?_⟩
     all_goals
      by_cases c1:i=k
      ·subst c1;rw [if_pos rfl,if_pos (by omega)]
      ·by_cases c2:i<k
       ·rw [if_neg c1,if_pos c2,if_pos (by omega)]
       ·rw [if_neg c1,if_neg c2,if_neg (by omega)]
    have HL2:Hid (IntKind.i64.wrap (l - quo a x n k)=IntKind.i64.wrap (a - sm (quo a x n) (k+1))):=Lib.hid (by
     have e1:sm (quo a x n) (k+1)=sm (quo a x n) k+quo a x n k:=rfl
     have e2:=HL.out
     rw [IntKind.wrap_i64] at e2
     rw [e1,IntKind.wrap_i64,IntKind.wrap_i64];omega)
    obtain ⟨xk,hxk⟩:∃ s,x k=s:=⟨_,rfl⟩
    obtain ⟨q,hq⟩:∃ s,quo a x n k=s:=⟨_,rfl⟩
    obtain ⟨r,hr⟩:∃ s,rem a x n k=s:=⟨_,rfl⟩
    rw [hxk] at hc
    rw [hxk,hq,hr] at cmk
    rw [hq,hr] at E
    rw [hq] at HL2
    clear hxk hq hr HL
    go_wp2_with fail
    refine (cmk _).mono ?_
    rintro e w2 ⟨rfl,hb2⟩
    replace X:=X.kept hb2
    clear hb2 hc cmk
    have p1:=X.p.c k hlt
    have p2:=X.p.fz k hlt
    have r1:=X.r.c k hlt
    have r2:=X.r.fz k hlt
    have ne:=X.ne
    generalize (if k<k then quo a x n k else 0)=u1 at p1
    generalize (if k<k then rem a x n k else 0)=u2 at r1
    have r3:(w2.setCell ⟨G1,k,none⟩ (.int .i64 q)).cell? ⟨G2,k,none⟩=some (.int .i64 u2):=by
     rw [World.cell?_setCell_other _ _ _ _ (by intro e;simp only [Addr.mk.injEq] at e;omega)];exact r1
    have X2:=X.put hlt q r
    have p3:=X2.p.c k hlt
    simp only [if_true] at p3
    have X3:=X2.congr E.out.1 E.out.2
    have pp:(0:Int)≤(k:Int):=by omega
    have bp:(k:Int)<(n:Int):=by omega
    clear X X2 E ne
    go_wp2
    go_roundw
    case rel=>exact ⟨k+1,by omega,by go_num,⟨_,rfl,Lib.hid (by rw [← IntWalk.i64_left];exact HL2.out)⟩,X3⟩
    case measure=>simp [intOf]<;>omega
   ·obtain rfl:k=n:=by omega
    have lb:=left_bd (a:=a) HM.out
    obtain ⟨c,hc⟩:∃ c:Nat,(c:Int)=left a x k:=⟨(left a x k).toNat,by omega⟩
    have cn:c≤k:=by omega
    obtain rfl:l=(c:Int):=by
     rw [HL.out,← (left_is HM.out).1,← hc]
     exact IntWalk.i64_in _ (by omega)
    have HC:=Lib.hid hc
    have XR:=row_congr X.r (f':=rem a x k) (fun i hi=>by simp only [hi,if_true])
    have XP:=row_congr X.p (f':=quo a x k) (fun i hi=>by simp only [hi,if_true])
    have B2:=X.below
    have LP:=X.lp
    clear hc lb HL X
    go_wp2_with fail
    refine (furthest_go G2 k k (rem a x k) _ XR n0 (by omega)).mono ?_
    rintro e w2 ⟨f,rfl,F,fb,srt,pm,hb2⟩
    have HB:=Lib.hid (And.intro fb (And.intro srt pm))
    have XP2:=XP.kept hb2
    have lt2:=XP.lt
    have B3:=bthen B2 hb2
    clear fb srt pm hb2 XP XR B2
    generalize hh:wr.heap.size+1=h at F ⊢
    have nh:G1≠h:=by omega
    clear hh lt2
    go_wp2_with fail
    go_loopw [63] (fun Y wr=>∃ j:Nat,j≤c∧Y= .int .i64 j∧Row wr G1 k (fun i=>quo a x k i+one (tk f j i))∧Row wr h k (fun i=>(f i:Int))∧Below w.heap.size w wr) (fun Y _=>c - (intOf Y).toNat)
    case atStart=>exact ⟨0,by omega,rfl,row_congr XP2 (fun i _=>by simp [tk,one]),F,B3⟩
    case round =>
     clear XP2 F B3
     obtain ⟨j,hj,rfl,XP,F,B3⟩:=hrel
     by_cases hlt:j<c
     ·have kj:j<k:=by omega
      have fc:=F.c j kj
      have fb:=HB.out.1 j kj
      have p1:=XP.c (f j) fb
      have p2:=XP.fz (f j) fb
      have T:=tk_new HB.out.2.1 kj
      rw [T] at p1
      have BE:Best (rem a x k) k (left a x k) (tk f c):=by rw [← HC.out];exact first_best HB.out.2.1 HB.out.2.2 cn
      have r0:=more_pos HM.out BE fb ((tk_iff f (f j) c).2 ⟨j,hlt,rfl⟩)
      have up:=quo_up HA.out HM.out fb r0
      have qf:=quo_fit HA.out HM.out fb
      unfold Fit1 at qf
      obtain ⟨q0,_⟩:=qf
      have e0:quo a x k (f j)+one false=quo a x k (f j):=by simp [one]
      rw [e0] at p1
      have XP2:=row_congr (XP.set (k:=f j) (quo a x k (f j)+1) fb) (f':=fun i=>quo a x k i+one (tk f (j+1) i)) (fun i _=>by
       rw [show tk f (j+1) i=(if f j=i then true else tk f j i) from rfl]
       by_cases c1:i=f j
       ·subst c1;simp [one]
       ·rw [if_neg c1,if_neg (fun e=>c1 e.symm)])
      have F2:=F.other (f j) (.int .i64 (quo a x k (f j)+1)) (fun e=>nh e.symm)
      have B4:=bset B3 LP (f j) (.int .i64 (quo a x k (f j)+1))
      have pj:(0:Int)≤(j:Int):=by omega
      have bj:(j:Int)<(c:Int):=by omega
      have pf:(0:Int)≤(f j:Int):=by omega
      have bf:(f j:Int)<(k:Int):=by omega
      generalize quo a x k (f j)=q at *
      generalize f j=y at fc fb p1 p2 XP2 F2 B4 pf bf
      clear T BE r0 e0 XP F B3
      go_wp2
      go_roundw
      case rel=>exact ⟨j+1,by omega,by go_num,XP2,F2,B4⟩
      case measure=>simp [intOf]<;>omega
     ·obtain rfl:j=c:=by omega
      have Y:SplitRes w k (IsSplit a x k) (.returned (.tuple #[.slice (some ⟨G1,0,none⟩) k k,.int .i64 0])) wr :=
       ⟨G1,_,rfl,XP,LP,⟨tk f j,by rw [← HC.out];exact first_best HB.out.2.1 HB.out.2.2 cn,fun i _=>rfl⟩,B3⟩
      have HY:=Lib.hid Y
      clear Y XP F B3
      go_wp2
      exact bodyPost_ret (v:=.tuple #[.slice (some ⟨G1,0,none⟩) k k,.int .i64 0]) (by simp [results,Tryz.results20,go_sem]) rfl HY.out
 ·have X:Sp w ((w1.alloc (.cells cs 2)).alloc (.cells cs 2)).drew (w1.heap.size+1) w1.heap.size n (fun _=>0) (fun _=>0):=⟨BB,R2,R1,by omega,by omega,SZ⟩
  clear R1 R2 BB SZ
  have FA:=HA.out
  generalize ((w1.alloc (.cells cs 2)).alloc (.cells cs 2)).drew=W2 at X ⊢
  generalize w1.heap.size+1=G2 at X ⊢
  generalize w1.heap.size=G1 at X ⊢
  clear hb1 hmk FA
  go_wp2
  go_loopw [10,32] (fun L Y wr=>∃ k:Nat,k≤n∧Y= .int .i64 k∧(∃ l,L= .int .i64 l∧Hid (l=IntKind.i64.wrap (a - sm (quo a x n) k)))∧
   Sp w wr G2 G1 n (fun i=>if i<k then quo a x n i else 0) (fun i=>if i<k then rem a x n i else 0)) (fun _ Y _=>n - (intOf Y).toNat)
  case atStart=>exact ⟨0,by omega,rfl,⟨a,rfl,Lib.hid (by rw [show sm (quo a x n) 0=0 from rfl,Int.sub_zero];exact (IntWalk.i64_in _ (by have:=HA.out;unfold Fit1 at this;omega)).symm)⟩,X.congr (fun i _=>by simp) (fun i _=>by simp)⟩
  case round =>
   clear X
   obtain ⟨k,hk,rfl,⟨l,rfl,HL⟩,X⟩:=hrel
   by_cases hlt:k<n
   ·have hc:=(X.below.cell (p:=⟨b,off+k,none⟩) hb).trans (HX.out k hlt)
    have cmk:=fun W=>CM.out k W hlt
    have E:Hid ((∀ i,i<n→(if i=k then quo a x n k else if i<k then quo a x n i else 0)=if i<k+1 then quo a x n i else 0)∧(∀ i,i<n→(if i=k then rem a x n k else if i<k then rem a x n i else 0)=if i<k+1 then rem a x n i else 0)):=by
     refine Lib.hid ⟨fun i _=>?_,fun i _=>?_⟩
     all_goals
      by_cases c1:i=k
      ·subst c1;rw [if_pos rfl,if_pos (by omega)]
      ·by_cases c2:i<k
       ·rw [if_neg c1,if_pos c2,if_pos (by omega)]
       ·rw [if_neg c1,if_neg c2,if_neg (by omega)]
    have HL2:Hid (IntKind.i64.wrap (l - quo a x n k)=IntKind.i64.wrap (a - sm (quo a x n) (k+1))):=Lib.hid (by
     have e1:sm (quo a x n) (k+1)=sm (quo a x n) k+quo a x n k:=rfl
     have e2:=HL.out
     rw [IntKind.wrap_i64] at e2
     rw [e1,IntKind.wrap_i64,IntKind.wrap_i64];omega)
    obtain ⟨xk,hxk⟩:∃ s,x k=s:=⟨_,rfl⟩
    obtain ⟨q,hq⟩:∃ s,quo a x n k=s:=⟨_,rfl⟩
    obtain ⟨r,hr⟩:∃ s,rem a x n k=s:=⟨_,rfl⟩
    rw [hxk] at hc
    rw [hxk,hq,hr] at cmk
    rw [hq,hr] at E
    rw [hq] at HL2
    clear hxk hq hr HL
    go_wp2_with fail
    refine (cmk _).mono ?_
    rintro e w2 ⟨rfl,hb2⟩
    replace X:=X.kept hb2
    clear hb2 hc cmk
    have p1:=X.p.c k hlt
    have p2:=X.p.fz k hlt
    have r1:=X.r.c k hlt
    have r2:=X.r.fz k hlt
    have ne:=X.ne
    generalize (if k<k then quo a x n k else 0)=u1 at p1
    generalize (if k<k then rem a x n k else 0)=u2 at r1
    have r3:(w2.setCell ⟨G2,k,none⟩ (.int .i64 q)).cell? ⟨G1,k,none⟩=some (.int .i64 u2):=by
     rw [World.cell?_setCell_other _ _ _ _ (by intro e;simp only [Addr.mk.injEq] at e;omega)];exact r1
    have X2:=X.put hlt q r
    have p3:=X2.p.c k hlt
    simp only [if_true] at p3
    have X3:=X2.congr E.out.1 E.out.2
    have pp:(0:Int)≤(k:Int):=by omega
    have bp:(k:Int)<(n:Int):=by omega
    clear X X2 E ne
    go_wp2
    go_roundw
    case rel=>exact ⟨k+1,by omega,by go_num,⟨_,rfl,Lib.hid (by rw [← IntWalk.i64_left];exact HL2.out)⟩,X3⟩
    case measure=>simp [intOf]<;>omega
   ·obtain rfl:k=n:=by omega
    have lb:=left_bd (a:=a) HM.out
    obtain ⟨c,hc⟩:∃ c:Nat,(c:Int)=left a x k:=⟨(left a x k).toNat,by omega⟩
    have cn:c≤k:=by omega
    obtain rfl:l=(c:Int):=by
     rw [HL.out,← (left_is HM.out).1,← hc]
     exact IntWalk.i64_in _ (by omega)
    have HC:=Lib.hid hc
    have XR:=row_congr X.r (f':=rem a x k) (fun i hi=>by simp only [hi,if_true])
    have XP:=row_congr X.p (f':=quo a x k) (fun i hi=>by simp only [hi,if_true])
    have B2:=X.below
    have LP:=X.lp
    clear hc lb HL X
    go_wp2_with fail
    refine (furthest_go G1 k k (rem a x k) _ XR n0 (by omega)).mono ?_
    rintro e w2 ⟨f,rfl,F,fb,srt,pm,hb2⟩
    have HB:=Lib.hid (And.intro fb (And.intro srt pm))
    have XP2:=XP.kept hb2
    have lt2:=XP.lt
    have B3:=bthen B2 hb2
    clear fb srt pm hb2 XP XR B2
    generalize hh:wr.heap.size+1=h at F ⊢
    have nh:G2≠h:=by omega
    clear hh lt2
    go_wp2_with fail
    go_loopw [63] (fun Y wr=>∃ j:Nat,j≤c∧Y= .int .i64 j∧Row wr G2 k (fun i=>quo a x k i+one (tk f j i))∧Row wr h k (fun i=>(f i:Int))∧Below w.heap.size w wr) (fun Y _=>c - (intOf Y).toNat)
    case atStart=>exact ⟨0,by omega,rfl,row_congr XP2 (fun i _=>by simp [tk,one]),F,B3⟩
    case round =>
     clear XP2 F B3
     obtain ⟨j,hj,rfl,XP,F,B3⟩:=hrel
     by_cases hlt:j<c
     ·have kj:j<k:=by omega
      have fc:=F.c j kj
      have fb:=HB.out.1 j kj
      have p1:=XP.c (f j) fb
      have p2:=XP.fz (f j) fb
      have T:=tk_new HB.out.2.1 kj
      rw [T] at p1
      have BE:Best (rem a x k) k (left a x k) (tk f c):=by rw [← HC.out];exact first_best HB.out.2.1 HB.out.2.2 cn
      have r0:=more_pos HM.out BE fb ((tk_iff f (f j) c).2 ⟨j,hlt,rfl⟩)
      have up:=quo_up HA.out HM.out fb r0
      have qf:=quo_fit HA.out HM.out fb
      unfold Fit1 at qf
      obtain ⟨q0,_⟩:=qf
      have e0:quo a x k (f j)+one false=quo a x k (f j):=by simp [one]
      rw [e0] at p1
      have XP2:=row_congr (XP.set (k:=f j) (quo a x k (f j)+1) fb) (f':=fun i=>quo a x k i+one (tk f (j+1) i)) (fun i _=>by
       rw [show tk f (j+1) i=(if f j=i then true else tk f j i) from rfl]
       by_cases c1:i=f j
       ·subst c1;simp [one]
       ·rw [if_neg c1,if_neg (fun e=>c1 e.symm)])
      have F2:=F.other (f j) (.int .i64 (quo a x k (f j)+1)) (fun e=>nh e.symm)
      have B4:=bset B3 LP (f j) (.int .i64 (quo a x k (f j)+1))
      have pj:(0:Int)≤(j:Int):=by omega
      have bj:(j:Int)<(c:Int):=by omega
      have pf:(0:Int)≤(f j:Int):=by omega
      have bf:(f j:Int)<(k:Int):=by omega
      generalize quo a x k (f j)=q at *
      generalize f j=y at fc fb p1 p2 XP2 F2 B4 pf bf
      clear T BE r0 e0 XP F B3
      go_wp2
      go_roundw
      case rel=>exact ⟨j+1,by omega,by go_num,XP2,F2,B4⟩
      case measure=>simp [intOf]<;>omega
     ·obtain rfl:j=c:=by omega
      have Y:SplitRes w k (IsSplit a x k) (.returned (.tuple #[.slice (some ⟨G2,0,none⟩) k k,.int .i64 0])) wr :=
       ⟨G2,_,rfl,XP,LP,⟨tk f j,by rw [← HC.out];exact first_best HB.out.2.1 HB.out.2.2 cn,fun i _=>rfl⟩,B3⟩
      have HY:=Lib.hid Y
      clear Y XP F B3
      go_wp2
      exact bodyPost_ret (v:=.tuple #[.slice (some ⟨G2,0,none⟩) k k,.int .i64 0]) (by simp [results,Tryz.results20,go_sem]) rfl HY.out

end Go.Proofs.YtoilomigceijaaaGreatDoor.Sr

namespace Go.Proofs.YtoilomigceijaaaGreatDoor.Sl
open Go.RowKit Vm Vc Pr Rk Sm Om Go.Proofs.YtoilomigceijaaaGreatDoor.Os Sr

set_option maxHeartbeats 1000000

def ls (o:Nat→Int)(n:Nat):List Int:=(List.range n).map o
theorem ls_len (o:Nat→Int)(n:Nat):(ls o n).length=n:=by simp [ls]
theorem ls_at (o:Nat→Int){n i:Nat}(h:i<n):(ls o n).getD i 0=o i:=by simp [ls,List.getD,h]
theorem ls_sum (o:Nat→Int)(n:Nat):(ls o n).sum=sm o n:=by
 have h:=sm_list (ls o n)
 rw [ls_len] at h
 rw [← h]
 exact sm_congr (fun i hi=>ls_at o hi)
theorem row_rd {W:World}{g n:Nat}{o:Nat→Int}(r:Row W g n o):Rd W W.heap.size (some ⟨g,0,none⟩) (ls o n) :=
 .inr ⟨g,0,rfl,r.lt,fun i hi=>by
  rw [ls_len] at hi
  rw [ls_at o hi,Nat.zero_add];exact r.c i hi⟩

theorem Same_yes (A B:Option Addr)(n c1 c2:Nat)(f:Nat→Int)(w:World)(hm:(n:Int)≤9223372036854775807)(hA:n=0∨∃ b off,A=some ⟨b,off,none⟩∧∀ i,i<n→w.cell? ⟨b,off+i,none⟩=some (.int .i64 (f i)))
  (hB:n=0∨∃ b off,B=some ⟨b,off,none⟩∧∀ i,i<n→w.cell? ⟨b,off+i,none⟩=some (.int .i64 (f i))) :
  Calls Tryz.prog 12 #[.slice A n c1,.slice B n c2] w fun e w'=>e= .returned (.bool true)∧Below w.heap.size w w':=by
 have HA:=Lib.hid hA
 have HB:=Lib.hid hB
 clear hA hB
 go_enter Tryz.func12,Tryz.ntmps12
 go_wp2
 go_loopw [13] (fun x wr=>∃ k:Nat,k≤n∧x= .int .i64 k∧∃ q,wr=w.drewN q) (fun x _=>n - (intOf x).toNat)
 case atStart=>exact ⟨0,by omega,rfl,0,rfl⟩
 case round =>
  obtain ⟨k,hk,rfl,q,rfl⟩:=hrel
  by_cases hlt:k<n
  ·obtain ⟨b1,o1,rfl,h1⟩:=HA.out.resolve_left (by omega)
   obtain ⟨b2,o2,rfl,h2⟩:=HB.out.resolve_left (by omega)
   have k1:=h1 k hlt
   have k2:=h2 k hlt
   generalize f k=v at k1 k2
   have pp:(0:Int)≤(k:Int):=by omega
   have bp:(k:Int)<(n:Int):=by omega
   clear h1 h2
   go_wp2_with fail
   go_quiet (fail)
   go_wp2
   go_roundw
   case rel=>exact ⟨k+1,by omega,by go_num,_,rfl⟩
   case measure=>simp [intOf]<;>omega
  ·obtain rfl:k=n:=by omega
   go_wp2
   go_ret
   exact ⟨rfl,bdrewN (Below.refl _ w) _⟩

theorem split_congr {a:Int}{w w':Nat→Int}{n:Nat}{o:Nat→Int}(h:∀ i,i<n→w i=w' i)(s:IsSplit a w n o):IsSplit a w' n o:=by
 have t:tot w n=tot w' n:=sm_congr h
 have q:∀ i,i<n→quo a w n i=quo a w' n i:=fun i hi=>by unfold quo;rw [t,h i hi]
 have r:∀ i,i<n→rem a w n i=rem a w' n i:=fun i hi=>by unfold rem;rw [t,h i hi]
 have l:left a w n=left a w' n:=by unfold left;rw [t,sm_congr r]
 obtain ⟨C,hC,e⟩:=s
 refine ⟨C,⟨by rw [← l];exact hC.1,fun i k hi hk ci ck=>?_⟩,fun i hi=>by rw [← q i hi];exact e i hi⟩
 have:=hC.2 i k hi hk ci ck
 unfold Ahead at this ⊢
 rw [← r i hi,← r k hk];exact this

end Go.Proofs.YtoilomigceijaaaGreatDoor.Sl

