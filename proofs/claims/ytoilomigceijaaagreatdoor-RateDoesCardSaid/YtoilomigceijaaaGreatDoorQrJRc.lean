/- Texts that are joined: Rowp2, Wref, Wrmul, Kchk, Klow, Kmath, Rcompare, Kops, Kmake, Srexact. -/
import Derived.Test.YtoilomigceijaaaGreatDoorQrJQ
import Derived.Test.YtoilomigceijaaaGreatDoorQrJK
import Derived.Laws.BitsAllLaws
import Derived.Test.YtoilomigceijaaaGreatDoorQrJRa
import Derived.Deep.RegionHeld3
import Derived.Deep.DeepCutAuto
set_option linter.unusedSimpArgs false
set_option linter.unusedVariables false
namespace Go.Proofs.YtoilomigceijaaaGreatDoor.Rk
open Go.RowKit

def lst2 (f d:Nat→Int)(k:Nat):List Value:=(List.range (k*2)).map fun j=>.int .i64 (if j%2=0 then f (j / 2) else d (j / 2))
theorem lst2_succ (f d:Nat→Int)(k:Nat):lst2 f d (k+1)=lst2 f d k++[.int .i64 (f k),.int .i64 (d k)]:=by
 unfold lst2
 rw [show (k+1)*2=k*2+1+1 by omega,List.range_succ,List.range_succ]
 simp only [List.map_append,List.map_cons,List.map_nil,List.append_assoc,List.cons_append,List.nil_append]
 rw [if_pos (by omega),if_neg (by omega),show k*2 / 2=k by omega,show (k*2+1) / 2=k by omega]
theorem lst2_at0 (f d:Nat→Int){n i:Nat}(h:i<n):(lst2 f d n)[i*2]?=some (.int .i64 (f i)):=by
 unfold lst2
 rw [List.getElem?_map,List.getElem?_range (by omega)]
 simp
theorem lst2_at1 (f d:Nat→Int){n i:Nat}(h:i<n):(lst2 f d n)[i*2+1]?=some (.int .i64 (d i)):=by
 unfold lst2
 rw [List.getElem?_map,List.getElem?_range (by omega)]
 simp only [Option.map_some]
 rw [if_neg (by omega),show (i*2+1) / 2=i by omega]

structure One2 (EL:TypeId) (w W:World) (v:Value) (k:Nat) (f d:Nat→Int):Prop where
 below:Below w.heap.size w W
 a:W.ownsRow w.heap.size EL 2 v k (lst2 f d k)
section
variable {EL:TypeId} {w W w1:World} {v:Value} {k n:Nat} {f d:Nat→Int}
theorem One2.start (EL:TypeId)(w:World)(h:Below w.heap.size w W)(f d:Nat→Int):One2 EL w W (.slice none 0 0) 0 f d:=⟨h,World.ownsRow_nil _ _ _ _⟩
theorem owns_below2 {base:Nat}{xs:List Value}(h:W.ownsRow base EL 2 v k xs)(hb:Below W.heap.size W w1):w1.ownsRow base EL 2 v k xs :=
 h.kept (row:=none) ⟨hb.os,hb.tape,hb.output,hb.size,fun i hi _=>hb.block i hi⟩ (by cases v.ownBlock<;>simp)
theorem One2.kept (x:One2 EL w W v k f d)(hb:Below W.heap.size W w1):One2 EL w w1 v k f d:=⟨Pr.bthen x.below hb,owns_below2 x.a hb⟩
theorem own_at2 {base x:Nat}{xs:List Value}(h:W.ownsRow base EL 2 v n xs)(e:v.ownBlock=some x):base≤x:=by
 rcases h.2 with ⟨h1,_⟩|⟨g,cap,cur,hv,hb,hg,_⟩
 ·rw [h1] at e;cases e
 ·rw [hv] at e
  have:g=x:=by simpa [Value.ownBlock] using e
  subst this;exact hb
theorem One2.next {W2:World}{o1:Obj}{g1 c1:Nat}(X:One2 EL w W v k f d)
  (h1:W2.ownsRow w.heap.size EL 2 (.slice (some ⟨g1,0,none⟩) (k+1) c1) (k+1) (lst2 f d k++[.int .i64 (f k),.int .i64 (d k)])) (r1:(W.alloc o1).grownBy W2 v.ownBlock) :
  One2 EL w W2 (.slice (some ⟨g1,0,none⟩) (k+1) c1) (k+1) f d :=
 ⟨below_grown (Pr.balloc X.below o1) r1 (fun x e=>own_at2 X.a e) (Nat.le_refl _),by rw [lst2_succ];exact h1⟩
theorem Rowp.of_owns {base g cap:Nat}{e:TypeId}(h:W.ownsRow base e 2 (.slice (some ⟨g,0,none⟩) n cap) n (lst2 f d n))(hn:0<n):Rowp W g n f d:=by
 refine ⟨?_,fun i hi=>?_,fun i hi=>?_,fun i _=>h.frozenAt (i*2),fun i _=>h.frozenAt (i*2+1)⟩
 ·obtain ⟨g',cap',e1,_,hlt⟩:=h.form hn
  cases e1;exact hlt
 ·rw [h.cellAt (i*2) (by omega),lst2_at0 f d hi]
 ·rw [h.cellAt (i*2+1) (by omega),lst2_at1 f d hi]
end

end Go.Proofs.YtoilomigceijaaaGreatDoor.Rk

namespace Go.Proofs.YtoilomigceijaaaGreatDoor.Wr
open Go.RowKit Wm Wc

set_option maxHeartbeats 400000

theorem size_any (a:Int)(w:World)(h:Fit a) :
  Calls Tryz.prog 89 #[.int .i64 a] w fun e w'=>e= .returned (.int .u64 (a.natAbs:Int))∧w=w':=by
 unfold Fit at h
 obtain ⟨h1,h2⟩:=h
 by_cases c:a<0
 ·have e1:(a.natAbs:Int)= -(a+1)+1:=by omega
  rw [e1]
  clear e1
  go_enter Tryz.func89,Tryz.ntmps89
  go_wp2
  go_ret
  exact ⟨rfl,rfl⟩
 ·have e1:(a.natAbs:Int)=a:=by omega
  rw [e1]
  clear e1
  go_enter Tryz.func89,Tryz.ntmps89
  go_wp2
  go_ret
  exact ⟨rfl,rfl⟩

theorem signed_yes (n:Int)(s:Bool)(w:World)(h0:0≤n)(h:n≤9223372036854775807) :
  Calls Tryz.prog 153 #[.int .u64 n,.bool s] w fun e w'=>e= .returned (.tuple #[.int .i64 (if s then -n else n),.int .i64 0])∧w=w':=by
 have d1:(n==9223372036854775808)=false:=beq_eq_false_iff_ne.2 (by omega)
 cases s
 all_goals
  go_enter Tryz.func153,Tryz.ntmps153
  go_wp2
  go_ret2
  exact ⟨rfl,rfl⟩

theorem signed_least (w:World) :
  Calls Tryz.prog 153 #[.int .u64 9223372036854775808,.bool true] w fun e w'=>e= .returned (.tuple #[.int .i64 (-9223372036854775808),.int .i64 0])∧w=w':=by
 go_enter Tryz.func153,Tryz.ntmps153
 go_wp2
 go_ret2
 exact ⟨rfl,rfl⟩

theorem signed_no (n:Int)(s:Bool)(w:World)(h0:9223372036854775808≤n)(h:n≤18446744073709551615)(hs:s=false∨n≠9223372036854775808) :
  Calls Tryz.prog 153 #[.int .u64 n,.bool s] w fun e w'=>e= .returned (.tuple #[.int .i64 0,.int .i64 2])∧w=w':=by
 have h1:9223372036854775807<n:=by omega
 clear h0
 cases s
 ·clear hs
  go_enter Tryz.func153,Tryz.ntmps153
  go_wp2
  go_ret2
  exact ⟨rfl,rfl⟩
 ·have d1:(n==9223372036854775808)=false:=beq_eq_false_iff_ne.2 (by rcases hs with h|h;exact absurd h (by decide);exact h)
  clear hs
  go_enter Tryz.func153,Tryz.ntmps153
  go_wp2
  go_ret2
  exact ⟨rfl,rfl⟩

theorem nat_beq {n:Nat}(h:n≠0):((n:Int)!=0)=true:=by rw [bne_iff_ne];omega

end Go.Proofs.YtoilomigceijaaaGreatDoor.Wr

namespace Go.Proofs.YtoilomigceijaaaGreatDoor.Wr
open Go.RowKit Wm Wc

set_option maxHeartbeats 400000

theorem low_half (x:Nat)(h:x≤9223372036854775808):bits .and .u64 (x:Int) 4294967295=((x%4294967296:Nat):Int):=by
 have h1:=u64_and_nat x 4294967295 (by omega) (by omega)
 have h2:x &&& 4294967295=x%4294967296:=Nat.and_two_pow_sub_one_eq_mod x 32
 rw [h2] at h1
 exact h1

theorem halves (xh xl yh yl:Nat):(xh*4294967296+xl)*(yh*4294967296+yl)=xh*yh*18446744073709551616+(xh*yl+xl*yh)*4294967296+xl*yl:=by
 simp only [Nat.add_mul,Nat.mul_add]
 have e1:xh*4294967296*(yh*4294967296)=xh*yh*18446744073709551616:=by
  rw [Nat.mul_mul_mul_comm]
 have e2:xh*4294967296*yl=xh*yl*4294967296:=by rw [Nat.mul_right_comm]
 have e3:xl*(yh*4294967296)=xl*yh*4294967296:=by rw [Nat.mul_assoc]
 omega

theorem signed_prod (a b:Int):a*b=(if (decide (a<0)!=decide (b<0)) then -((a.natAbs*b.natAbs:Nat):Int) else ((a.natAbs*b.natAbs:Nat):Int)):=by
 rw [Int.natCast_mul]
 by_cases h1:a<0<;>by_cases h2:b<0
 ·have ea: -a=(a.natAbs:Int):=by omega
  have eb: -b=(b.natAbs:Int):=by omega
  simp only [h1,h2,decide_true,bne_self_eq_false,Bool.false_eq_true,if_false]
  rw [← Int.neg_mul_neg,ea,eb]
 ·have ea:a= -(a.natAbs:Int):=by omega
  have eb:b=(b.natAbs:Int):=by omega
  simp only [h1,h2,decide_true,decide_false]
  simp only [bne,BEq.beq]
  simp
  rw [← Int.neg_mul,← ea,← eb]
 ·have ea:a=(a.natAbs:Int):=by omega
  have eb:b= -(b.natAbs:Int):=by omega
  simp only [h1,h2]
  simp
  rw [← Int.mul_neg,← ea,← eb]
 ·have ea:a=(a.natAbs:Int):=by omega
  have eb:b=(b.natAbs:Int):=by omega
  simp only [h1,h2]
  simp
  rw [← ea,← eb]

theorem signed_of (a b:Int)(s:Bool)(hs:s=(decide (a<0)!=decide (b<0)))(m:Int)(hm:m=((a.natAbs*b.natAbs:Nat):Int))(hl:m≤18446744073709551615)(v e1:Int)
  (hv:(Fit (a*b)∧v=a*b∧e1=0)∨(¬ Fit (a*b)∧v=0∧e1=2)) (w:World) :
  Calls Tryz.prog 153 #[.int .u64 m,.bool s] w fun e w'=>e= .returned (.tuple #[.int .i64 v,.int .i64 e1])∧w=w':=by
 have hp:=signed_prod a b
 rw [← hs,← hm] at hp
 have h0:0≤m:=by omega
 rw [hp] at hv
 by_cases c1:m≤9223372036854775807
 ·have hf:Fit (if s=true then -m else m):=by unfold Fit;split<;>omega
  rcases hv with ⟨_,rfl,rfl⟩|⟨h,_⟩
  ·exact signed_yes m s w h0 c1
  ·exact absurd hf h
 ·by_cases c2:s=true∧m=9223372036854775808
  ·obtain ⟨rfl,rfl⟩:=c2
   rcases hv with ⟨_,rfl,rfl⟩|⟨h,_⟩
   ·exact signed_least w
   ·exact absurd (by decide) h
  ·have hf:¬ Fit (if s=true then -m else m):=by
    unfold Fit
    cases s
    ·simp;omega
    ·simp at c2;simp;omega
   rcases hv with ⟨h,_⟩|⟨_,rfl,rfl⟩
   ·exact absurd h hf
   ·refine signed_no m s w (by omega) hl ?_
    cases s
    ·exact Or.inl rfl
    ·simp at c2;exact Or.inr c2

theorem beyond (a b:Int)(h:18446744073709551616≤a.natAbs*b.natAbs)(v e1:Int)
  (hv:(Fit (a*b)∧v=a*b∧e1=0)∨(¬ Fit (a*b)∧v=0∧e1=2)):v=0∧e1=2:=by
 rcases hv with ⟨h1,_⟩|⟨_,h2⟩
 ·have:(a*b).natAbs=a.natAbs*b.natAbs:=Int.natAbs_mul a b
  unfold Fit at h1;omega
 ·exact h2

theorem rmul_any (a b:Int)(w:World)(ha:Fit a)(hb:Fit b)(v e1:Int)
  (hv:(Fit (a*b)∧v=a*b∧e1=0)∨(¬ Fit (a*b)∧v=0∧e1=2)) :
  Calls Tryz.prog 131 #[.int .i64 a,.int .i64 b] w fun e w'=>e= .returned (.tuple #[.int .i64 v,.int .i64 e1])∧w=w':=by
 have ba:a.natAbs≤9223372036854775808:=by unfold Fit at ha;omega
 have bb:b.natAbs≤9223372036854775808:=by unfold Fit at hb;omega
 have c1:=fun w=>size_any a w ha
 have c2:=fun w=>size_any b w hb
 have sg:=fun m s w hs hm hl=>signed_of a b s hs m hm hl v e1 hv w
 have big:=fun h=>beyond a b h v e1 hv
 clear hv ha hb
 generalize a.natAbs=x at *
 generalize b.natAbs=y at *
 have kx:=low_half x ba
 have ky:=low_half y bb
 have jx:(x:Int) / 4294967296=((x / 4294967296:Nat):Int):=by omega
 have jy:(y:Int) / 4294967296=((y / 4294967296:Nat):Int):=by omega
 have ex:x=x / 4294967296*4294967296+x%4294967296:=by omega
 have ey:y=y / 4294967296*4294967296+y%4294967296:=by omega
 have bx1:x / 4294967296≤2147483648:=by omega
 have by1:y / 4294967296≤2147483648:=by omega
 have bx2:x%4294967296≤4294967295:=by omega
 have by2:y%4294967296≤4294967295:=by omega
 generalize x / 4294967296=xh at *
 generalize y / 4294967296=yh at *
 generalize x%4294967296=xl at *
 generalize y%4294967296=yl at *
 have prod:x*y=xh*yh*18446744073709551616+(xh*yl+xl*yh)*4294967296+xl*yl:=by rw [ex,ey];exact halves xh xl yh yl
 have m1:xh*yl≤2147483648*4294967295:=Nat.mul_le_mul bx1 by2
 have m2:xl*yh≤4294967295*2147483648:=Nat.mul_le_mul bx2 by1
 have m3:xl*yl≤4294967295*4294967295:=Nat.mul_le_mul bx2 by2
 clear ex ey
 have p1:(0:Int)≤(xh:Int)*(yl:Int)∧(xh:Int)*(yl:Int)≤9223372034707292160:=by
  have:(xh:Int)*(yl:Int)=((xh*yl:Nat):Int):=(Int.natCast_mul _ _).symm
  omega
 have p2:(0:Int)≤(xl:Int)*(yh:Int)∧(xl:Int)*(yh:Int)≤9223372034707292160:=by
  have:(xl:Int)*(yh:Int)=((xl*yh:Nat):Int):=(Int.natCast_mul _ _).symm
  omega
 have p3:(0:Int)≤(xl:Int)*(yl:Int)∧(xl:Int)*(yl:Int)≤18446744065119617025:=by
  have:(xl:Int)*(yl:Int)=((xl*yl:Nat):Int):=(Int.natCast_mul _ _).symm
  omega
 by_cases zx:xh=0
 ·subst zx
  rw [Nat.zero_mul,Nat.zero_mul,Nat.zero_mul,Nat.zero_add,Nat.zero_add] at prod
  replace jx:(x:Int) / 4294967296=0:=jx
  have hH:(xl:Int)*(yh:Int)=((xl*yh:Nat):Int):=(Int.natCast_mul _ _).symm
  have hD:(xl:Int)*(yl:Int)=((xl*yl:Nat):Int):=(Int.natCast_mul _ _).symm
  by_cases k1:4294967296≤xl*yh
  ·obtain ⟨rfl,rfl⟩:=big (by omega)
   have d1:((xl:Int)*(yh:Int) / 4294967296 != 0)=true:=by rw [bne_iff_ne];omega
   clear prod sg big m1 m2 m3 hH hD k1
   go_enter Tryz.func131,Tryz.ntmps131
   go_wp2_with fail
   refine (c1 _).mono ?_
   rintro e w' ⟨rfl,rfl⟩
   go_wp2_with fail
   refine (c2 _).mono ?_
   rintro e w' ⟨rfl,rfl⟩
   go_wp2_with fail
   go_ret2
   exact ⟨rfl,rfl⟩
  ·have d1:((xl:Int)*(yh:Int) / 4294967296 != 0)=false:=by rw [bne_eq_false_iff_eq];omega
   have k2:(xl:Int)*(yh:Int)≤4294967295:=by omega
   by_cases k3:(xl:Int)*(yh:Int)*4294967296+(xl:Int)*(yl:Int)≤18446744073709551615
   ·have ct:=fun s w hs=>sg ((xl:Int)*(yh:Int)*4294967296+(xl:Int)*(yl:Int)) s w hs (by omega) k3
    clear prod sg big m1 m2 m3 hH hD k1
    go_enter Tryz.func131,Tryz.ntmps131
    go_wp2_with fail
    refine (c1 _).mono ?_
    rintro e w' ⟨rfl,rfl⟩
    go_wp2_with fail
    refine (c2 _).mono ?_
    rintro e w' ⟨rfl,rfl⟩
    go_wp2_with fail
    refine (ct _ _ rfl).mono ?_
    rintro e w' ⟨rfl,rfl⟩
    go_wp2
    go_ret2
    exact ⟨rfl,rfl⟩
   ·have o1:IntKind.u64.wrap ((xl:Int)*(yh:Int)*4294967296+(xl:Int)*(yl:Int))<(xl:Int)*(yl:Int):=by rw [IntKind.wrap_u64];omega
    obtain ⟨rfl,rfl⟩:=big (by omega)
    clear prod sg big m1 m2 m3 hH hD k1 k3
    go_enter Tryz.func131,Tryz.ntmps131
    go_wp2_with fail
    refine (c1 _).mono ?_
    rintro e w' ⟨rfl,rfl⟩
    go_wp2_with fail
    refine (c2 _).mono ?_
    rintro e w' ⟨rfl,rfl⟩
    go_wp2_with fail
    go_ret2
    exact ⟨rfl,rfl⟩
 ·by_cases zy:yh=0
  ·subst zy
   rw [Nat.mul_zero,Nat.mul_zero,Nat.zero_mul,Nat.add_zero,Nat.zero_add] at prod
   replace jy:(y:Int) / 4294967296=0:=jy
   have d0:((xh:Int)!=0)=true:=nat_beq zx
   have hH:(xh:Int)*(yl:Int)=((xh*yl:Nat):Int):=(Int.natCast_mul _ _).symm
   have hD:(xl:Int)*(yl:Int)=((xl*yl:Nat):Int):=(Int.natCast_mul _ _).symm
   by_cases k1:4294967296≤xh*yl
   ·obtain ⟨rfl,rfl⟩:=big (by omega)
    have d1:((xh:Int)*(yl:Int) / 4294967296 != 0)=true:=by rw [bne_iff_ne];omega
    clear prod sg big m1 m2 m3 hH hD k1 zx
    go_enter Tryz.func131,Tryz.ntmps131
    go_wp2_with fail
    refine (c1 _).mono ?_
    rintro e w' ⟨rfl,rfl⟩
    go_wp2_with fail
    refine (c2 _).mono ?_
    rintro e w' ⟨rfl,rfl⟩
    go_wp2_with fail
    go_ret2
    exact ⟨rfl,rfl⟩
   ·have d1:((xh:Int)*(yl:Int) / 4294967296 != 0)=false:=by rw [bne_eq_false_iff_eq];omega
    have k2:(xh:Int)*(yl:Int)≤4294967295:=by omega
    by_cases k3:(xh:Int)*(yl:Int)*4294967296+(xl:Int)*(yl:Int)≤18446744073709551615
    ·have ct:=fun s w hs=>sg ((xh:Int)*(yl:Int)*4294967296+(xl:Int)*(yl:Int)) s w hs (by omega) k3
     clear prod sg big m1 m2 m3 hH hD k1 zx
     go_enter Tryz.func131,Tryz.ntmps131
     go_wp2_with fail
     refine (c1 _).mono ?_
     rintro e w' ⟨rfl,rfl⟩
     go_wp2_with fail
     refine (c2 _).mono ?_
     rintro e w' ⟨rfl,rfl⟩
     go_wp2_with fail
     refine (ct _ _ rfl).mono ?_
     rintro e w' ⟨rfl,rfl⟩
     go_wp2
     go_ret2
     exact ⟨rfl,rfl⟩
    ·have o1:IntKind.u64.wrap ((xh:Int)*(yl:Int)*4294967296+(xl:Int)*(yl:Int))<(xl:Int)*(yl:Int):=by rw [IntKind.wrap_u64];omega
     obtain ⟨rfl,rfl⟩:=big (by omega)
     clear prod sg big m1 m2 m3 hH hD k1 k3 zx
     go_enter Tryz.func131,Tryz.ntmps131
     go_wp2_with fail
     refine (c1 _).mono ?_
     rintro e w' ⟨rfl,rfl⟩
     go_wp2_with fail
     refine (c2 _).mono ?_
     rintro e w' ⟨rfl,rfl⟩
     go_wp2_with fail
     go_ret2
     exact ⟨rfl,rfl⟩
  ·have q1:1*1≤xh*yh:=Nat.mul_le_mul (by omega) (by omega)
   obtain ⟨rfl,rfl⟩:=big (by omega)
   have d1:((xh:Int)!=0)=true:=nat_beq zx
   have d2:((yh:Int)!=0)=true:=nat_beq zy
   clear prod sg big m1 m2 m3 q1 zx zy
   go_enter Tryz.func131,Tryz.ntmps131
   go_wp2_with fail
   refine (c1 _).mono ?_
   rintro e w' ⟨rfl,rfl⟩
   go_wp2_with fail
   refine (c2 _).mono ?_
   rintro e w' ⟨rfl,rfl⟩
   go_wp2_with fail
   go_ret2
   exact ⟨rfl,rfl⟩

end Go.Proofs.YtoilomigceijaaaGreatDoor.Wr

namespace Go.Proofs.YtoilomigceijaaaGreatDoor.Kc
open Go.RowKit Vm Vc Pr Qm

set_option maxHeartbeats 400000

theorem quiet_same {P:Program}{f:FuncId}{args:Array Value}{w:World}{n:Nat}{v:Value}
  (h:Calls P f args (w.drewN n) fun e w'=>e= .returned v∧w.drewN n=w'):Calls P f args (w.drewN n) fun e w''=>e= .returned v∧∃ m,w''=w.drewN m :=
 h.mono fun _ _ ⟨he,hm⟩=>⟨he,n,hm.symm⟩

theorem gcd_abs (a b:Int):Int.gcd (a.natAbs:Int) b=Int.gcd a b:=by simp [Int.gcd]

theorem gcd_rem (a b:Int):Int.gcd b (a%b)=Int.gcd a b:=by
 rw [Int.gcd_comm]
 conv=>rhs;rw [← Int.mul_ediv_add_emod a b]
 rw [Int.gcd_mul_left_add_left]

theorem common_any (a b G:Int)(w:World)(a0:0≤a)(a1:a≤18446744073709551615)(b0:0≤b)(b1:b≤18446744073709551615)(hG:G=(Int.gcd a b:Int)) :
  Calls Tryz.prog 88 #[.int .u64 a,.int .u64 b] w fun e w'=>e= .returned (.int .u64 G)∧w=w':=by
 have HG:=Lib.hid hG
 clear hG
 go_enter Tryz.func88,Tryz.ntmps88
 go_wp2
 go_loop [0,1] (fun x y=>∃ p q:Int,x= .int .u64 p∧y= .int .u64 q∧0≤p∧p≤18446744073709551615∧0≤q∧q≤18446744073709551615∧Hid (Int.gcd p q=Int.gcd a b)) (fun _ y=>(intOf y).toNat)
 case atStart=>exact ⟨a,b,rfl,rfl,a0,a1,b0,b1,Lib.hid rfl⟩
 case round =>
  obtain ⟨p,q,rfl,rfl,p0,p1,q0,q1,hg⟩:=hrel
  by_cases hz:q=0
  ·subst hz
   have hp:p=G:=by
    have h1:=hg.out
    rw [Int.gcd_zero_right] at h1
    rw [HG.out,← h1];omega
   subst hp
   clear hg HG
   go_wp2
   go_ret
   exact ⟨rfl,rfl⟩
  ·have d0:(q != 0)=true:=by rw [bne_iff_ne];exact hz
   have hs:=Lib.hid ((gcd_rem p q).trans hg.out)
   have r0:=Int.emod_nonneg p hz
   have r1:=Int.emod_lt_of_pos p (b:=q) (by omega)
   go_wp2
   go_round
   case rel=>exact ⟨q,p%q,rfl,rfl,q0,q1,r0,by omega,hs⟩
   case measure=>simp [intOf];omega

theorem rCheck_yes (N D:Int)(w:World)(fN:Fit1 N)(fD:Fit1 D)(h:Low N D) :
  Calls Tryz.prog 130 #[.agg #[.int .i64 N,.int .i64 D]] w fun e w'=>e= .returned (.int .i64 0)∧Below w.heap.size w w':=by
 have cs:=fun w=>Vr.rsize_any N w fN
 have D0:0≤D:=by have:=h.1;omega
 have D1:D≤9223372036854775807:=fD.2
 have cc:=fun w=>common_any (N.natAbs:Int) D 1 w (by omega) (by unfold Fit1 at fN;omega) D0 (by omega) (by rw [gcd_abs,h.2];rfl)
 have d1:decide (D<1)=false:=decide_eq_false (by have:=h.1;omega)
 clear h fN fD
 generalize (N.natAbs:Int)=x at *
 go_enter Tryz.func130,Tryz.ntmps130
 go_wp2
 go_quiet ((first|(go_at_call 89;exact quiet_same (cs _))|(go_at_call 88;exact quiet_same (cc _))))
 go_wp2
 go_ret
 exact ⟨rfl,bdrewN (balloc (Below.refl _ w) _) _⟩

theorem rCheck_no (N D:Int)(w:World)(fN:Fit1 N)(fD:Fit1 D)(h:¬ Low N D) :
  Calls Tryz.prog 130 #[.agg #[.int .i64 N,.int .i64 D]] w fun e w'=>e= .returned (.int .i64 1)∧Below w.heap.size w w':=by
 by_cases c:D<1
 ·have d1:decide (D<1)=true:=decide_eq_true c
  clear h fN fD
  go_enter Tryz.func130,Tryz.ntmps130
  go_wp2
  go_quiet (fail)
  go_wp2
  go_ret
  exact ⟨rfl,bdrewN (balloc (Below.refl _ w) _) _⟩
 ·have cs:=fun w=>Vr.rsize_any N w fN
  have D0:0≤D:=by omega
  have D1:D≤9223372036854775807:=fD.2
  obtain ⟨G,hG⟩:∃ G,G=(Int.gcd N D:Int):=⟨_,rfl⟩
  have cc:=fun w=>common_any (N.natAbs:Int) D G w (by omega) (by unfold Fit1 at fN;omega) D0 (by omega) (by rw [gcd_abs,hG])
  have d1:decide (D<1)=false:=decide_eq_false c
  have d2:(G != 1)=true:=by rw [bne_iff_ne];intro e;exact h ⟨by omega,by omega⟩
  clear h fN fD hG
  generalize (N.natAbs:Int)=x at *
  go_enter Tryz.func130,Tryz.ntmps130
  go_wp2
  go_quiet ((first|(go_at_call 89;exact quiet_same (cs _))|(go_at_call 88;exact quiet_same (cc _))))
  go_wp2
  go_ret
  exact ⟨rfl,bdrewN (balloc (Below.refl _ w) _) _⟩

theorem may_yes (a b c d:Int)(w:World)(fa:Fit1 a)(fb:Fit1 b)(fc:Fit1 c)(fd:Fit1 d)(h1:Low a b)(h2:Low c d) :
  Calls Tryz.prog 90 #[.agg #[.int .i64 a,.int .i64 b],.agg #[.int .i64 c,.int .i64 d]] w fun e w'=>e= .returned (.int .i64 0)∧Below w.heap.size w w':=by
 have c1:=fun w=>rCheck_yes a b w fa fb h1
 have c2:=fun w=>rCheck_yes c d w fc fd h2
 clear h1 h2 fa fb fc fd
 go_enter Tryz.func90,Tryz.ntmps90
 go_wp2_with fail
 refine (c1 _).mono ?_
 rintro e w1 ⟨rfl,hb1⟩
 have P2:=(Two.new (w.alloc (.cells #[.int .i64 a,.int .i64 b] 64)) (.int .i64 c) (.int .i64 d) 64).kept hb1
 have B1:=bthen (balloc (balloc (Below.refl _ w) _) _) hb1
 clear hb1
 obtain ⟨z2,b0,b1,_,_⟩:=id P2
 simp only [World.size_alloc] at z2 b0 b1
 go_wp2_with fail
 refine (c2 _).mono ?_
 rintro e w2 ⟨rfl,hb1⟩
 replace B1:=bthen B1 hb1
 clear hb1 z2 b0 b1 P2
 go_wp2
 go_ret
 exact ⟨rfl,B1⟩

theorem may_no (a b c d:Int)(w:World)(fa:Fit1 a)(fb:Fit1 b)(fc:Fit1 c)(fd:Fit1 d)(h:¬ (Low a b∧Low c d)) :
  Calls Tryz.prog 90 #[.agg #[.int .i64 a,.int .i64 b],.agg #[.int .i64 c,.int .i64 d]] w fun e w'=>e= .returned (.int .i64 1)∧Below w.heap.size w w':=by
 by_cases h1:Low a b
 ·have c1:=fun w=>rCheck_yes a b w fa fb h1
  have c2:=fun w=>rCheck_no c d w fc fd (fun h2=>h ⟨h1,h2⟩)
  clear h h1 fa fb fc fd
  go_enter Tryz.func90,Tryz.ntmps90
  go_wp2_with fail
  refine (c1 _).mono ?_
  rintro e w1 ⟨rfl,hb1⟩
  have P2:=(Two.new (w.alloc (.cells #[.int .i64 a,.int .i64 b] 64)) (.int .i64 c) (.int .i64 d) 64).kept hb1
  have B1:=bthen (balloc (balloc (Below.refl _ w) _) _) hb1
  clear hb1
  obtain ⟨z2,b0,b1,_,_⟩:=id P2
  simp only [World.size_alloc] at z2 b0 b1
  go_wp2_with fail
  refine (c2 _).mono ?_
  rintro e w2 ⟨rfl,hb1⟩
  replace B1:=bthen B1 hb1
  clear hb1 z2 b0 b1 P2
  go_wp2
  go_ret
  exact ⟨rfl,B1⟩
 ·have c1:=fun w=>rCheck_no a b w fa fb h1
  clear h h1 fa fb fc fd
  go_enter Tryz.func90,Tryz.ntmps90
  go_wp2_with fail
  refine (c1 _).mono ?_
  rintro e w1 ⟨rfl,hb1⟩
  have B1:=bthen (balloc (balloc (Below.refl _ w) _) _) hb1
  clear hb1
  go_wp2
  go_ret
  exact ⟨rfl,B1⟩

end Go.Proofs.YtoilomigceijaaaGreatDoor.Kc

namespace Go.Proofs.YtoilomigceijaaaGreatDoor.Kc
open Go.RowKit Vm Vc Pr Qm

set_option maxHeartbeats 400000

theorem fitres_parts {n p q v1 e1 v2 e2 N D er:Int}(r1:Res1 n v1 e1)(r2:Res1 (p*q) v2 e2)(F:FitRes n (p*q) N D er) :
  (e1≠0∧N=0∧D=0∧er=e1)∨(e1=0∧e2≠0∧N=0∧D=0∧er=e2)∨(e1=0∧e2=0∧N=v1∧D=v2∧er=0):=by
 rcases r1 with ⟨rfl,rfl,f1⟩|⟨rfl,rfl,f1⟩
 ·rcases r2 with ⟨rfl,rfl,f2⟩|⟨rfl,rfl,f2⟩
  ·rcases F with ⟨rfl,rfl,rfl,_⟩|⟨_,_,_,no⟩
   ·exact .inr (.inr ⟨rfl,rfl,rfl,rfl,rfl⟩)
   ·exact absurd ⟨f1,f2⟩ no
  ·rcases F with ⟨_,_,_,_,f⟩|⟨rfl,rfl,rfl,no⟩
   ·exact absurd f f2
   ·exact .inr (.inl ⟨rfl,by decide,rfl,rfl,rfl⟩)
 ·rcases F with ⟨_,_,_,f,_⟩|⟨rfl,rfl,rfl,no⟩
  ·exact absurd f f1
  ·exact .inl ⟨by decide,rfl,rfl,rfl⟩

theorem gcd_small {t x g:Int}(hx:0<x)(fx:Fit1 x)(hg:g=(Int.gcd t x:Int)):0<g∧g≤9223372036854775807:=by
 have h1:=Int.le_of_dvd hx (Int.gcd_dvd_right t x)
 have h2:0<Int.gcd t x:=Int.gcd_pos_of_ne_zero_right t (by omega)
 unfold Fit1 at fx;omega

set_option maxRecDepth 100000 in
theorem klow_any (h l d c N D er:Int)(w:World)(bd:Bd h l)(fd:Fit1 d)(fc:Fit1 c)(d0:0<d)(c0:0<c)(R:Rat1 (num h l) (d*c) N D er) :
  Calls Tryz.prog 91 #[.agg #[.int .i64 h,.int .u64 l],.int .i64 d,.int .i64 c] w fun e w' =>
   e= .returned (.tuple #[.agg #[.int .i64 N,.int .i64 D],.int .i64 er])∧Below w.heap.size w w':=by
 have ft:=bd_fits bd
 obtain ⟨t,ht⟩:∃ t,num h l=t:=⟨_,rfl⟩
 rw [ht] at R ft
 have hdc:d*c≠0:=Int.mul_ne_zero (by omega) (by omega)
 obtain ⟨h1,l1,n1,b1⟩:=words_ex (quot_fits ft d0)
 obtain ⟨r1,hr1⟩:∃ r,t%d=r:=⟨_,rfl⟩
 have r10:0≤r1∧r1<d:=by rw [← hr1];exact ⟨Int.emod_nonneg _ (by omega),Int.emod_lt_of_pos _ d0⟩
 obtain ⟨g1,t1,d1,g10,hg1,et,ed,hc1,_⟩:=gcd_out (a:=t) (b:=d) (by omega)
 have g11:=gcd_small d0 fd hg1
 have ft1:Fits t1:=by
  have:t / g1=t1:=by rw [et];exact Int.mul_ediv_cancel_left t1 (by omega)
  rw [← this];exact quot_fits ft g10
 have d10:0<d1:=by
  rcases Int.lt_trichotomy d1 0 with k|k|k
  ·have:=Int.mul_neg_of_pos_of_neg g10 k;omega
  ·subst k;omega
  ·exact k
 have fd1:Fit1 d1:=by
  have:1*d1≤g1*d1:=Int.mul_le_mul_of_nonneg_right (by omega) (by omega)
  unfold Fit1 at *;omega
 obtain ⟨h2,l2,n2,b2⟩:=words_ex ft1
 obtain ⟨h3,l3,n3,b3⟩:=words_ex (quot_fits ft1 c0)
 obtain ⟨r2,hr2⟩:∃ r,t1%c=r:=⟨_,rfl⟩
 have r20:0≤r2∧r2<c:=by rw [← hr2];exact ⟨Int.emod_nonneg _ (by omega),Int.emod_lt_of_pos _ c0⟩
 obtain ⟨g2,t2,c1,g20,hg2,et1,ec,hc2,_⟩:=gcd_out (a:=t1) (b:=c) (by omega)
 have g21:=gcd_small c0 fc hg2
 have ft2:Fits t2:=by
  have:t1 / g2=t2:=by rw [et1];exact Int.mul_ediv_cancel_left t2 (by omega)
  rw [← this];exact quot_fits ft1 g20
 have c10:0<c1:=by
  rcases Int.lt_trichotomy c1 0 with k|k|k
  ·have:=Int.mul_neg_of_pos_of_neg g20 k;omega
  ·subst k;omega
  ·exact k
 have fc1:Fit1 c1:=by
  have:1*c1≤g2*c1:=Int.mul_le_mul_of_nonneg_right (by omega) (by omega)
  unfold Fit1 at *;omega
 obtain ⟨h4,l4,n4,b4⟩:=words_ex ft2
 have L:Low t2 (d1*c1):=⟨Int.mul_pos d10 c10,cop_mul' (cop_left hc1 ⟨g2,by rw [et1,Int.mul_comm]⟩) hc2⟩
 have E:t2*(d*c)=t*(d1*c1):=by rw [et,ed,ec,et1];ac_rfl
 have F:=fitres_of hdc L E R
 obtain ⟨v1,e1,rv1⟩:=res1_ex t2
 obtain ⟨v2,e2,rv2⟩:=res1_ex (d1*c1)
 have O:=fitres_parts rv1 rv2 F
 have fg1:Fit1 g1:=by unfold Fit1;omega
 have fg2:Fit1 g2:=by unfold Fit1;omega
 have dv1:=fun w=>Vr.rDiv_any h l d h1 l1 r1 0 w bd fd (.inr (.inr ⟨d0,rfl,b1,by rw [n1,ht,← hr1,Int.mul_comm];exact Int.mul_ediv_add_emod t d,r10.1,r10.2⟩))
 have cm1:=fun w=>common_any d r1 g1 w (by omega) (by unfold Fit1 at fd;omega) (by omega) (by unfold Fit1 at fd;omega) (by rw [hg1,← hr1,gcd_rem])
 have dv2:=fun w=>Vr.rDiv_any h l g1 h2 l2 0 0 w bd fg1 (.inr (.inr ⟨g10,rfl,b2,by rw [n2,ht,et,Int.mul_comm,Int.add_zero],Int.le_refl _,g10⟩))
 have dv3:=fun w=>Vr.rDiv_any h2 l2 c h3 l3 r2 0 w b2 fc (.inr (.inr ⟨c0,rfl,b3,by rw [n3,n2,← hr2,Int.mul_comm];exact Int.mul_ediv_add_emod t1 c,r20.1,r20.2⟩))
 have cm2:=fun w=>common_any c r2 g2 w (by omega) (by unfold Fit1 at fc;omega) (by omega) (by unfold Fit1 at fc;omega) (by rw [hg2,← hr2,gcd_rem])
 have dv4:=fun w=>Vr.rDiv_any h2 l2 g2 h4 l4 0 0 w b2 fg2 (.inr (.inr ⟨g20,rfl,b4,by rw [n4,n2,et1,Int.mul_comm,Int.add_zero],Int.le_refl _,g20⟩))
 have cf:=fun w=>Vr.rFit_any h4 l4 v1 e1 w b4 (by rw [n4];exact rv1)
 have cu:=fun w=>Wr.rmul_any d1 c1 w fd1 fc1 v2 e2 (by rcases rv2 with ⟨k1,k2,k3⟩|⟨k1,k2,k3⟩;exact .inl ⟨k3,k2,k1⟩;exact .inr ⟨k3,k2,k1⟩)
 have k1:d.tdiv g1=d1:=by rw [ed];exact Int.mul_tdiv_cancel_left d1 (by omega)
 have k2:c.tdiv g2=c1:=by rw [ec];exact Int.mul_tdiv_cancel_left c1 (by omega)
 have k3:d / g1=d1:=by rw [ed];exact Int.mul_ediv_cancel_left d1 (by omega)
 have k4:c / g2=c1:=by rw [ec];exact Int.mul_ediv_cancel_left c1 (by omega)
 have K:=Lib.hid (And.intro k1 (And.intro k2 (And.intro k3 k4)))
 have z1:(g1==0)=false:=beq_eq_false_iff_ne.2 (by omega)
 have z2:(g2==0)=false:=beq_eq_false_iff_ne.2 (by omega)
 have s1:0≤r1∧r1≤9223372036854775807:=by unfold Fit1 at fd;omega
 have s2:0≤r2∧r2≤9223372036854775807:=by unfold Fit1 at fc;omega
 unfold Fit1 at fd fc fd1 fc1
 obtain ⟨s1a,s1b⟩:=s1
 obtain ⟨s2a,s2b⟩:=s2
 obtain ⟨fda,fdb⟩:=fd
 obtain ⟨fca,fcb⟩:=fc
 obtain ⟨g1a,g1b⟩:=g11
 obtain ⟨g2a,g2b⟩:=g21
 clear k1 k2 k3 k4 F L E rv1 rv2 R ht hr1 hr2 r10 r20 et et1 ed ec hc1 hc2 hg1 hg2 ft ft1 ft2 n1 n2 n3 n4 b1 b2 b3 b4 bd hdc fg1 fg2
 have ix0:∀ w,(Instr.index 166 (.agg #[.int .i64 d,.int .i64 c]) (.int .i64 0)).run Tryz.prog w= .ok (.int .i64 d) w:=fun _=>by kernel_rfl
 have ix1:∀ w,(Instr.index 166 (.agg #[.int .i64 d,.int .i64 c]) (.int .i64 1)).run Tryz.prog w= .ok (.int .i64 c) w:=fun _=>by kernel_rfl
 go_enter Tryz.func91,Tryz.ntmps91
 go_wp2
 refine wp_loop_rounds 3 ?_
 rw [rounds_succ]
 go_wp2_with fail
 refine (dv1 _).mono ?_
 rintro e w1 ⟨rfl,hb⟩
 have P1:=(((Two.new w (.int .i64 h) (.int .u64 l) 84).alloc (.cells #[.int .i64 0,.int .i64 0] 64)).alloc (.cells #[.int .i64 d,.int .i64 c] 166)).kept hb
 have P2:=((Two.new (w.alloc (.cells #[.int .i64 h,.int .u64 l] 84)) (.int .i64 0) (.int .i64 0) 64).alloc (.cells #[.int .i64 d,.int .i64 c] 166)).kept hb
 have P3:=(Two.new ((w.alloc (.cells #[.int .i64 h,.int .u64 l] 84)).alloc (.cells #[.int .i64 0,.int .i64 0] 64)) (.int .i64 d) (.int .i64 c) 166).kept hb
 have B1:=bthen (balloc (balloc (balloc (Below.refl _ w) _) _) _) hb
 simp only [World.size_alloc] at P1 P2 P3
 clear hb dv1
 obtain ⟨zz,a0,a1,_,_⟩:=id P1
 go_wp2_with fail
 refine (cm1 _).mono ?_
 rintro e w' ⟨rfl,rfl⟩
 clear cm1
 go_wp2_with fail
 refine (dv2 _).mono ?_
 rintro e w2 ⟨rfl,hb⟩
 replace P1:=(P1.alloc _).kept hb
 replace P2:=(P2.alloc _).kept hb
 replace P3:=(P3.alloc _).kept hb
 replace B1:=bthen (balloc B1 _) hb
 clear hb dv2 zz a0 a1
 obtain ⟨k1,k2,k3,k4⟩:=K.out
 obtain ⟨zz,a0,a1,f0,f1⟩:=id P1
 obtain ⟨yy,b0,b1,i0,i1⟩:=id P3
 go_wp2
 replace P1:=((P1.set0 (.int .i64 h2)).set1 (.int .u64 l2)).other (g:=w.heap.size+1+1) 0 (.int .i64 d1) (by omega)
 replace P2:=((P2.other (g:=w.heap.size) 0 (.int .i64 h2) (by omega)).other (g:=w.heap.size) 1 (.int .u64 l2) (by omega)).other (g:=w.heap.size+1+1) 0 (.int .i64 d1) (by omega)
 replace P3:=((P3.other (g:=w.heap.size) 0 (.int .i64 h2) (by omega)).other (g:=w.heap.size) 1 (.int .u64 l2) (by omega)).set0 (.int .i64 d1)
 replace B1:=bset (bset (bset B1 (Nat.le_refl _) 0 (.int .i64 h2)) (Nat.le_refl _) 1 (.int .u64 l2)) (g:=w.heap.size+1+1) (by omega) 0 (.int .i64 d1)
 generalize ((w2.setCell ⟨w.heap.size,0,none⟩ (.int .i64 h2)).setCell ⟨w.heap.size,1,none⟩ (.int .u64 l2)).setCell ⟨w.heap.size+1+1,0,none⟩ (.int .i64 d1)=V2 at *
 clear zz a0 a1 f0 f1 yy b0 b1 i0 i1 k1 k2 k3 k4
 rw [rounds_succ]
 obtain ⟨zz,a0,a1,_,_⟩:=id P1
 go_wp2_with fail
 refine (dv3 _).mono ?_
 rintro e w3 ⟨rfl,hb⟩
 replace P1:=P1.kept hb
 replace P2:=P2.kept hb
 replace P3:=P3.kept hb
 replace B1:=bthen B1 hb
 clear hb dv3 zz a0 a1
 obtain ⟨zz,a0,a1,_,_⟩:=id P1
 go_wp2_with fail
 refine (cm2 _).mono ?_
 rintro e w' ⟨rfl,rfl⟩
 clear cm2
 go_wp2_with fail
 refine (dv4 _).mono ?_
 rintro e w4 ⟨rfl,hb⟩
 replace P1:=(P1.alloc _).kept hb
 replace P2:=(P2.alloc _).kept hb
 replace P3:=(P3.alloc _).kept hb
 replace B1:=bthen (balloc B1 _) hb
 clear hb dv4 zz a0 a1
 obtain ⟨k1,k2,k3,k4⟩:=K.out
 obtain ⟨zz,a0,a1,f0,f1⟩:=id P1
 obtain ⟨yy,b0,b1,i0,i1⟩:=id P3
 go_wp2
 replace P1:=((P1.set0 (.int .i64 h4)).set1 (.int .u64 l4)).other (g:=w.heap.size+1+1) 1 (.int .i64 c1) (by omega)
 replace P2:=((P2.other (g:=w.heap.size) 0 (.int .i64 h4) (by omega)).other (g:=w.heap.size) 1 (.int .u64 l4) (by omega)).other (g:=w.heap.size+1+1) 1 (.int .i64 c1) (by omega)
 replace P3:=((P3.other (g:=w.heap.size) 0 (.int .i64 h4) (by omega)).other (g:=w.heap.size) 1 (.int .u64 l4) (by omega)).set1 (.int .i64 c1)
 replace B1:=bset (bset (bset B1 (Nat.le_refl _) 0 (.int .i64 h4)) (Nat.le_refl _) 1 (.int .u64 l4)) (g:=w.heap.size+1+1) (by omega) 1 (.int .i64 c1)
 generalize ((w4.setCell ⟨w.heap.size,0,none⟩ (.int .i64 h4)).setCell ⟨w.heap.size,1,none⟩ (.int .u64 l4)).setCell ⟨w.heap.size+1+1,1,none⟩ (.int .i64 c1)=V4 at *
 clear zz a0 a1 f0 f1 yy b0 b1 i0 i1 k1 k2 k3 k4
 rw [rounds_succ]
 obtain ⟨zz,a0,a1,_,_⟩:=id P1
 go_wp2_with fail
 refine (cf _).mono ?_
 rintro e w5 ⟨rfl,hb⟩
 replace P2:=P2.kept hb
 replace P3:=P3.kept hb
 replace B1:=bthen B1 hb
 clear hb zz a0 a1 cf P1
 obtain ⟨xx,c00,c01,f0,f1⟩:=id P2
 obtain ⟨yy,b0,b1,_,_⟩:=id P3
 rcases O with ⟨o1,rfl,rfl,rfl⟩|⟨rfl,o2,rfl,rfl,rfl⟩|⟨rfl,rfl,rfl,rfl,rfl⟩
 ·have q1:(er != 0)=true:=bne_iff_ne.2 o1
  clear o1
  go_wp2
  refine bodyPost_ret (v:=.tuple #[.agg #[.int .i64 0,.int .i64 0],.int .i64 er]) (by simp [results,Tryz.results91,go_sem,c00,c01]) rfl ⟨rfl,?_⟩
  exact bset (bset B1 (by omega) _ _) (by omega) _ _
 ·have q1:(er != 0)=true:=bne_iff_ne.2 o2
  clear o2
  go_wp2_with fail
  refine (cu _).mono ?_
  rintro e w' ⟨rfl,rfl⟩
  go_wp2
  refine bodyPost_ret (v:=.tuple #[.agg #[.int .i64 0,.int .i64 0],.int .i64 er]) (by simp [results,Tryz.results91,go_sem,c00,c01]) rfl ⟨rfl,?_⟩
  exact bset (bset B1 (by omega) _ _) (by omega) _ _
 ·go_wp2_with fail
  refine (cu _).mono ?_
  rintro e w' ⟨rfl,rfl⟩
  go_wp2
  refine bodyPost_ret (v:=.tuple #[.agg #[.int .i64 N,.int .i64 D],.int .i64 0]) (by simp [results,Tryz.results91,go_sem,c00,c01]) rfl ⟨rfl,?_⟩
  exact bset (bset B1 (by omega) _ _) (by omega) _ _

end Go.Proofs.YtoilomigceijaaaGreatDoor.Kc

namespace Go.Proofs.YtoilomigceijaaaGreatDoor.Qm
open Vm

theorem make_parts {n d N D er:Int}(fn:Fit1 n)(fd:Fit1 d)(hd:d≠0)(R:Rat1 n d N D er) :
  ∃ g x y:Int,0<g∧g≤9223372036854775808∧g=(Int.gcd (n.natAbs:Int) (d.natAbs:Int):Int)∧(n.natAbs:Int)=g*x∧(d.natAbs:Int)=g*y∧0≤x∧x≤9223372036854775808∧0<y∧y≤9223372036854775808∧
   (n=0↔x=0)∧FitRes (if (n<0∧0<d)∨(0<n∧d<0) then -x else x) y N D er:=by
 obtain ⟨g,x,y,g0,hg,en,ed,hc,hy⟩:=gcd_out (a:=n) hd
 have an:(n.natAbs:Int)=g*(x.natAbs:Int):=by rw [en,Int.natAbs_mul,Int.natCast_mul];congr 1;omega
 have ad:(d.natAbs:Int)=g*(y.natAbs:Int):=by rw [ed,Int.natAbs_mul,Int.natCast_mul];congr 1;omega
 have x0:(x.natAbs:Int)≤1*(n.natAbs:Int):=by
  have:1*(x.natAbs:Int)≤g*(x.natAbs:Int):=Int.mul_le_mul_of_nonneg_right (by omega) (by omega)
  omega
 have y0:(y.natAbs:Int)≤1*(d.natAbs:Int):=by
  have:1*(y.natAbs:Int)≤g*(y.natAbs:Int):=Int.mul_le_mul_of_nonneg_right (by omega) (by omega)
  omega
 have gd:g*1≤g*(y.natAbs:Int):=Int.mul_le_mul_of_nonneg_left (by omega) (by omega)
 have sx:(0<n↔0<x)∧(n<0↔x<0):=by
  have:=sign_same (N:=n) (m:=1) (n:=x) (D:=g) (by omega) g0 (by rw [en,Int.mul_one,Int.mul_comm])
  exact ⟨this.2,this.1⟩
 have sy:(0<d↔0<y)∧(d<0↔y<0):=by
  have:=sign_same (N:=d) (m:=1) (n:=y) (D:=g) (by omega) g0 (by rw [ed,Int.mul_one,Int.mul_comm])
  exact ⟨this.2,this.1⟩
 refine ⟨g,x.natAbs,y.natAbs,g0,by unfold Fit1 at fd;omega,by rw [hg];simp [Int.gcd],an,ad,by omega,by unfold Fit1 at fn;omega,by omega,by unfold Fit1 at fd;omega,by omega,?_⟩
 by_cases c:0<y
 ·have e1:(y.natAbs:Int)=y:=by omega
  have e2:(if (n<0∧0<d)∨(0<n∧d<0) then -(x.natAbs:Int) else (x.natAbs:Int))=x:=by split<;>omega
  rw [e1,e2]
  exact fitres_of hd ⟨c,hc⟩ (by rw [en,ed];ac_rfl) R
 ·have e1:(y.natAbs:Int)= -y:=by omega
  have e2:(if (n<0∧0<d)∨(0<n∧d<0) then -(x.natAbs:Int) else (x.natAbs:Int))= -x:=by split<;>omega
  rw [e1,e2]
  exact fitres_of hd ⟨by omega,by rw [Int.neg_gcd,Int.gcd_neg];exact hc⟩ (by rw [Int.neg_mul,Int.mul_neg];congr 1;rw [en,ed];ac_rfl) R

end Go.Proofs.YtoilomigceijaaaGreatDoor.Qm

namespace Go.Proofs.YtoilomigceijaaaGreatDoor.Vr
open Go.RowKit Vm Vc Vl
attribute [local go_sem] alloc_drewN setCell_drewN

set_option maxHeartbeats 1000000

end Go.Proofs.YtoilomigceijaaaGreatDoor.Vr

namespace Go.Proofs.YtoilomigceijaaaGreatDoor.Kc
open Go.RowKit Vm Vc Pr Qm

set_option maxHeartbeats 1000000

structure Trio (w W:World) (a b c d:Int):Prop where
 below:Below w.heap.size w W
 a:Two W w.heap.size (.int .i64 a) (.int .i64 b)
 b:Two W (w.heap.size+1) (.int .i64 c) (.int .i64 d)
section
variable {w W w1:World} {a b c d:Int}
theorem Trio.kept {R:Prop}(x:Trio w W a b c d∧R)(hb:Below W.heap.size W w1):Trio w w1 a b c d:=⟨bthen x.1.below hb,x.1.a.kept hb,x.1.b.kept hb⟩
theorem Trio.drew (x:Trio w W a b c d):Trio w W.drew a b c d:=⟨x.below.drew,x.a.drew,x.b.drew⟩
theorem Trio.set {R:Prop}{v:Value}{n:Nat}(x:Trio w W a b c d∧R):Trio w (W.setCell ⟨w.heap.size+1+1,n,none⟩ v) a b c d∧True :=
 ⟨⟨bset x.1.below (by omega) _ _,x.1.a.other _ _ (by omega),x.1.b.other _ _ (by omega)⟩,trivial⟩
theorem Trio.opened (x:Trio w W a b c d):Trio w W a b c d∧W.cell? ⟨w.heap.size,0,none⟩=some (.int .i64 a)∧W.cell? ⟨w.heap.size,1,none⟩=some (.int .i64 b)∧W.cell? ⟨w.heap.size+1,0,none⟩=some (.int .i64 c)∧W.cell? ⟨w.heap.size+1,1,none⟩=some (.int .i64 d) :=
 ⟨x,x.a.c0,x.a.c1,x.b.c0,x.b.c1⟩
end

theorem rMul_op (a b c d N D er:Int)(w:World)(fa:Fit1 a)(fb:Fit1 b)(fc:Fit1 c)(fd:Fit1 d)(R:OpRes a b c d (a*c) (b*d) N D er) :
  Calls Tryz.prog 45 #[.agg #[.int .i64 a,.int .i64 b],.agg #[.int .i64 c,.int .i64 d]] w fun e w' =>
   e= .returned (.tuple #[.agg #[.int .i64 N,.int .i64 D],.int .i64 er])∧Below w.heap.size w w':=by
 rcases R with ⟨h1,h2,R⟩|⟨h,rfl,rfl,rfl⟩
 case inr =>
  have m0:=fun w=>may_no a b c d w fa fb fc fd h
  clear h fa fb fc fd
  go_enter Tryz.func45,Tryz.ntmps45
  go_wp2_with fail
  refine (m0 _).mono ?_
  rintro e w1 ⟨rfl,hb⟩
  have P1:=(((Two.new w (.int .i64 a) (.int .i64 b) 64).alloc (.cells #[.int .i64 c,.int .i64 d] 64)).alloc (.cells #[.int .i64 0,.int .i64 0] 64)).kept hb
  have P2:=((Two.new (w.alloc (.cells #[.int .i64 a,.int .i64 b] 64)) (.int .i64 c) (.int .i64 d) 64).alloc (.cells #[.int .i64 0,.int .i64 0] 64)).kept hb
  have P3:=(Two.new ((w.alloc (.cells #[.int .i64 a,.int .i64 b] 64)).alloc (.cells #[.int .i64 c,.int .i64 d] 64)) (.int .i64 0) (.int .i64 0) 64).kept hb
  have B1:=bthen (balloc (balloc (balloc (Below.refl _ w) _) _) _) hb
  simp only [World.size_alloc] at P1 P2 P3
  clear hb
  obtain ⟨z,c0,c1,f0,f1⟩:=id P3
  go_wp2
  refine bodyPost_ret (v:=.tuple #[.agg #[.int .i64 0,.int .i64 0],.int .i64 1]) (by simp [results,Tryz.results45,go_sem,c0,c1]) rfl ⟨rfl,?_⟩
  exact bset (bset B1 (by omega) _ _) (by omega) _ _
 obtain ⟨u3,l3,e3,b3⟩:=words_ex (x:=a*c) (by have:=prod_fits fa fc;unfold Fits;omega)
 have m1:=fun w=>may_yes a b c d w fa fb fc fd h1 h2
 have cm:=fun w=>Vr.rMul_to a c u3 l3 w fa fc b3 e3
 have kl:=fun w=>klow_any u3 l3 b d N D er w b3 fb fd h1.1 h2.1 (by rw [e3];exact R)
 clear R h1 h2 e3 b3 fa fb fc fd
 go_enter Tryz.func45,Tryz.ntmps45
 go_wp2_with fail
 refine (m1 _).mono ?_
 rintro e w1 ⟨rfl,hb⟩
 have P1:=(((Two.new w (.int .i64 a) (.int .i64 b) 64).alloc (.cells #[.int .i64 c,.int .i64 d] 64)).alloc (.cells #[.int .i64 0,.int .i64 0] 64)).kept hb
 have P2:=((Two.new (w.alloc (.cells #[.int .i64 a,.int .i64 b] 64)) (.int .i64 c) (.int .i64 d) 64).alloc (.cells #[.int .i64 0,.int .i64 0] 64)).kept hb
 have P3:=(Two.new ((w.alloc (.cells #[.int .i64 a,.int .i64 b] 64)).alloc (.cells #[.int .i64 c,.int .i64 d] 64)) (.int .i64 0) (.int .i64 0) 64).kept hb
 have B1:=bthen (balloc (balloc (balloc (Below.refl _ w) _) _) _) hb
 simp only [World.size_alloc] at P1 P2 P3
 clear hb
 have X:Trio w w1 a b c d:=⟨B1,P1,P2⟩
 clear P1 P2 B1
 obtain ⟨kz,kc0,kc1,kf0,kf1⟩:=id P3
 go_wp2
 go_region_held3 (fun w'=>Trio w w' a b c d∧w'.cell? ⟨w.heap.size,0,none⟩=some (.int .i64 a)∧w'.cell? ⟨w.heap.size,1,none⟩=some (.int .i64 b)∧w'.cell? ⟨w.heap.size+1,0,none⟩=some (.int .i64 c)∧w'.cell? ⟨w.heap.size+1,1,none⟩=some (.int .i64 d))
  (first|exact X.drew.opened|exact X2.opened|exact (Trio.set (Trio.set (by with_reducible assumption))).1.opened)
  (first
   | (go_at_call 77;(with_reducible refine (cm _).mono ?_);rintro e w4 ⟨rfl,hb⟩;have X2:=Trio.kept (by first|(with_reducible assumption)|exact ⟨X.drew,trivial⟩) hb;have K:=Two.kept (by first|(with_reducible assumption)|exact P3.drew) hb;obtain ⟨kz,kc0,kc1,kf0,kf1⟩:=id K)
   | (go_at_call 91;(with_reducible refine (kl _).mono ?_);rintro e w4 ⟨rfl,hb⟩;have X2:=Trio.kept (by first|(with_reducible assumption)|exact ⟨X.drew,trivial⟩) hb;have K:=Two.kept (by first|(with_reducible assumption)|exact P3.drew) hb;obtain ⟨kz,kc0,kc1,kf0,kf1⟩:=id K))
 go_wp2
 refine bodyPost_ret (v:=.tuple #[.agg #[.int .i64 N,.int .i64 D],.int .i64 er]) (by simp [results,Tryz.results45,go_sem,kc0,kc1]) rfl ⟨rfl,?_⟩
 exact bset (bset X2.below (by omega) _ _) (by omega) _ _

end Go.Proofs.YtoilomigceijaaaGreatDoor.Kc

namespace Go.Proofs.YtoilomigceijaaaGreatDoor.Kc
open Go.RowKit Vm Vc Pr Qm

set_option maxHeartbeats 1000000

theorem rMake_any (n d N D er:Int)(w:World)(fn:Fit1 n)(fd:Fit1 d)(R:MakeRes n d N D er) :
  Calls Tryz.prog 44 #[.int .i64 n,.int .i64 d] w fun e w' =>
   e= .returned (.tuple #[.agg #[.int .i64 N,.int .i64 D],.int .i64 er])∧Below w.heap.size w w':=by
 rcases R with ⟨rfl,rfl,rfl,rfl⟩|⟨hd,R⟩
 ·go_enter Tryz.func44,Tryz.ntmps44
  go_wp2
  refine bodyPost_ret (v:=.tuple #[.agg #[.int .i64 0,.int .i64 0],.int .i64 3]) (by simp [results,Tryz.results44,go_sem]) rfl ⟨rfl,?_⟩
  exact balloc (Below.refl _ w) _
 obtain ⟨g,x,y,g0,g1,hg,ex,ey,x0,x1,y0,y1,xz,F⟩:=make_parts fn fd hd R
 have d0:(d==0)=false:=beq_eq_false_iff_ne.2 hd
 have cs1:=fun w=>Vr.rsize_any n w fn
 have cs2:=fun w=>Vr.rsize_any d w fd
 have an:(n.natAbs:Int)≤9223372036854775808:=by unfold Fit1 at fn;omega
 have ad:(d.natAbs:Int)≤9223372036854775808:=by unfold Fit1 at fd;omega
 have an0:0≤(n.natAbs:Int):=by omega
 have ad0:0≤(d.natAbs:Int):=by omega
 have cc:=fun w=>common_any (n.natAbs:Int) (d.natAbs:Int) g w an0 (by omega) ad0 (by omega) hg
 have k1:(n.natAbs:Int).tdiv g=x:=by rw [ex];exact Int.mul_tdiv_cancel_left x (by omega)
 have k2:(d.natAbs:Int).tdiv g=y:=by rw [ey];exact Int.mul_tdiv_cancel_left y (by omega)
 have k3:(n.natAbs:Int) / g=x:=by rw [ex];exact Int.mul_ediv_cancel_left x (by omega)
 have k4:(d.natAbs:Int) / g=y:=by rw [ey];exact Int.mul_ediv_cancel_left y (by omega)
 have gz:(g==0)=false:=beq_eq_false_iff_ne.2 (by omega)
 -- the ways: both signs, and what fits
 have O:∃ s1 s2 s3 s4:Bool,(decide (n<0)=s1∧decide (0<n)=s2∧decide (d<0)=s3∧decide (0<d)=s4)∧
   (((s1=true∧s2=false∧s3=false∧s4=true)∨(s1=false∧s2=true∧s3=true∧s4=false))∧((1≤x∧x≤9223372036854775807∧y≤9223372036854775807∧N= -(x - 1) - 1∧D=y∧er=0)∨(x=9223372036854775808∧y≤9223372036854775807∧N= -9223372036854775808∧D=y∧er=0)∨(9223372036854775807<y∧N=0∧D=0∧er=2))∨
    ((s1=true∧s2=false∧s3=true∧s4=false)∨(s1=false∧s2=true∧s3=false∧s4=true)∨(s1=false∧s2=false∧s3=true∧s4=false)∨(s1=false∧s2=false∧s3=false∧s4=true))∧
     ((x≤9223372036854775807∧y≤9223372036854775807∧N=x∧D=y∧er=0)∨(9223372036854775807<y∧N=0∧D=0∧er=2)∨(y≤9223372036854775807∧x=9223372036854775808∧N=0∧D=0∧er=2))):=by
  refine ⟨_,_,_,_,⟨rfl,rfl,rfl,rfl⟩,?_⟩
  simp only [decide_eq_true_eq,decide_eq_false_iff_not]
  unfold FitRes Fit1 at F
  by_cases c:(n<0∧0<d)∨(0<n∧d<0)
  ·rw [if_pos c] at F
   refine .inl ⟨by omega,?_⟩
   omega
  ·rw [if_neg c] at F
   refine .inr ⟨by omega,?_⟩
   omega
 obtain ⟨s1,s2,s3,s4,⟨t1,t2,t3,t4⟩,O⟩:=O
 have K:=Lib.hid (And.intro k1 (And.intro k2 (And.intro k3 k4)))
 clear k1 k2 k3 k4 F R xz fn fd hd ex ey hg
 generalize (n.natAbs:Int)=X at *
 generalize (d.natAbs:Int)=Y at *
 rcases O with ⟨⟨rfl,rfl,rfl,rfl⟩|⟨rfl,rfl,rfl,rfl⟩,⟨x2,x3,y2,rfl,rfl,rfl⟩|⟨rfl,y2,rfl,rfl,rfl⟩|⟨y2,rfl,rfl,rfl⟩⟩|⟨⟨rfl,rfl,rfl,rfl⟩|⟨rfl,rfl,rfl,rfl⟩|⟨rfl,rfl,rfl,rfl⟩|⟨rfl,rfl,rfl,rfl⟩,⟨x2,y2,rfl,rfl,rfl⟩|⟨y2,rfl,rfl,rfl⟩|⟨y2,x2,rfl,rfl,rfl⟩⟩
 all_goals
  go_enter Tryz.func44,Tryz.ntmps44
  go_wp2_with fail
  refine (cs1 _).mono ?_
  rintro e w' ⟨rfl,rfl⟩
  go_wp2_with fail
  refine (cs2 _).mono ?_
  rintro e w' ⟨rfl,rfl⟩
  go_wp2_with fail
  refine (cc _).mono ?_
  rintro e w' ⟨rfl,rfl⟩
  obtain ⟨k1,k2,k3,k4⟩:=K.out
  go_wp2_with fail
  refine (cs1 _).mono ?_
  rintro e w' ⟨rfl,rfl⟩
  go_wp2_with fail
  refine (cs2 _).mono ?_
  rintro e w' ⟨rfl,rfl⟩
  clear cs1 cs2 cc
  go_wp2
 all_goals
  first
   | (refine bodyPost_ret (v:=.tuple #[.agg #[.int .i64 0,.int .i64 0],.int .i64 2]) (by simp [results,Tryz.results44,go_sem]) rfl ⟨rfl,?_⟩;exact balloc (Below.refl _ w) _)
   | (refine bodyPost_ret (v:=.tuple #[.agg #[.int .i64 N,.int .i64 D],.int .i64 0]) (by simp [results,Tryz.results44,go_sem]) rfl ⟨rfl,?_⟩;exact balloc (Below.refl _ w) _)
   | (refine bodyPost_ret (v:=.tuple #[.agg #[.int .i64 (-(x - 1) - 1),.int .i64 D],.int .i64 0]) (by simp [results,Tryz.results44,go_sem]) rfl ⟨rfl,?_⟩;exact balloc (Below.refl _ w) _)
   | (refine bodyPost_ret (v:=.tuple #[.agg #[.int .i64 (-9223372036854775808),.int .i64 D],.int .i64 0]) (by simp [results,Tryz.results44,go_sem]) rfl ⟨rfl,?_⟩;exact balloc (Below.refl _ w) _)

end Go.Proofs.YtoilomigceijaaaGreatDoor.Kc

namespace Go.Proofs.YtoilomigceijaaaGreatDoor.Sr
open Go.RowKit Vm Vc Pr Rk Sm Om Qm

set_option maxHeartbeats 2000000

theorem rinfoR:(Tryz.prog.info? 64).map (fun i=>(i.zero,i.size,i.bytes))=some (some (.agg #[.int .i64 0,.int .i64 0]),2,16):=by kernel_rfl
theorem runderR:Tryz.prog.underlying 36=some (.slice 64):=by kernel_rfl

def RExactRes (w:World)(n:Nat)(N D:Nat→Int)(e:Ending)(w':World):Prop :=
 ∃ g cap:Nat,e= .returned (.tuple #[.slice (some ⟨g,0,none⟩) n cap,.int .i64 0])∧Rowp w' g n N D∧w.heap.size≤g∧Below w.heap.size w w'

set_option maxRecDepth 100000 in
theorem rexact_go (A:Option Addr)(n cap:Nat)(zs:List Int)(a:Int)(N D:Nat→Int)(w:World)(hn:zs.length=n)(n0:0<n)(n1:n≤4096)(fa:Fit1 a)(hf:∀ z ∈ zs,Fit1 z)(hr:Rd w w.heap.size A zs)(hp:∀ z ∈ zs,0≤z)(hs:0<zs.sum)(fs:Fit1 zs.sum)
  (R:∀ i,i<n→Rat1 (a*wt zs i) zs.sum (N i) (D i) 0) :
  Calls Tryz.prog 23 #[.int .i64 a,.slice A n cap] w (RExactRes w n N D):=by
 have ct:=fun w h=>rAll_any A n cap zs zs.sum 0 w hn (.inl n1) (by omega) hf h (.inr (.inr ⟨by omega,hp,.inr (.inr ⟨hs,fs,rfl,rfl⟩)⟩))
 obtain ⟨b,off,rfl,hb,hcell⟩:=hr.resolve_left (by intro e;rw [e] at hn;simp at hn;omega)
 have M:MayBe (wt zs) n:=by rw [← hn];exact may_list hp hs
 have te:tot (wt zs) n=zs.sum:=by rw [← hn];exact sm_list zs
 obtain ⟨t,ht⟩:∃ t,t=zs.sum:=⟨_,rfl⟩
 rw [← ht] at ct te hs fs R
 obtain ⟨x,hx⟩:∃ x,x=wt zs:=⟨_,rfl⟩
 have hcell2:∀ i,i<n→w.cell? ⟨b,off+i,none⟩=some (.int .i64 (x i)):=fun i hi=>by rw [hx];exact hcell i (by omega)
 have fx:∀ i,i<n→Fit1 (x i):=fun i hi=>by rw [hx];exact hf _ (getD_mem (by omega))
 rw [← hx] at M te R
 have CM:Hid (∀ i,i<n→∃ N1 D1,(∀ W,Calls Tryz.prog 44 #[.int .i64 (x i),.int .i64 t] W fun e w'=>e= .returned (.tuple #[.agg #[.int .i64 N1,.int .i64 D1],.int .i64 0])∧Below W.heap.size W w')∧
   (∀ W,Calls Tryz.prog 45 #[.agg #[.int .i64 a,.int .i64 1],.agg #[.int .i64 N1,.int .i64 D1]] W fun e w'=>e= .returned (.tuple #[.agg #[.int .i64 (N i),.int .i64 (D i)],.int .i64 0])∧Below W.heap.size W w')) :=
  Lib.hid (fun i hi=>by
   obtain ⟨N1,D1,m1,f1,f2,o1⟩:=share_op (a:=a) (M.1 i hi) (by have:=w_le M hi;rw [te] at this;exact this) hs fs (R i hi)
   exact ⟨N1,D1,fun W=>Kc.rMake_any (x i) t N1 D1 0 W (fx i hi) fs m1,fun W=>Kc.rMul_op a 1 N1 D1 (N i) (D i) 0 W fa (by unfold Fit1;omega) f1 f2 o1⟩)
 have HX:=Lib.hid hcell2
 have ct0:=ct w hr
 obtain ⟨i0,hi,hz0,hz1,hz2⟩:=info_parts rinfoR
 clear ct hcell hcell2 M te fx hr hp hf hn ht hx hs fs R fa
 go_enter Tryz.func23,Tryz.ntmps23
 go_wp2_with fail
 refine ct0.mono ?_
 rintro e w1 ⟨rfl,hb1⟩
 clear ct0
 go_wp2
 go_loopw [8,25] (fun O Y wr=>∃ k:Nat,k≤n∧Y= .int .i64 k∧One2 64 w wr O k N D) (fun _ Y _=>n - (intOf Y).toNat)
 case atStart=>exact ⟨0,by omega,rfl,One2.start _ w hb1 N D⟩
 case round =>
  clear hb1
  obtain ⟨k,hk,rfl,X⟩:=hrel
  by_cases hlt:k<n
  ·have hc:=(X.below.cell (p:=⟨b,off+k,none⟩) hb).trans (HX.out k hlt)
   obtain ⟨N1,D1,c1,c2⟩:=CM.out k hlt
   generalize x k=xk at hc c1
   obtain ⟨Nk,hNk⟩:∃ y,N k=y:=⟨_,rfl⟩
   obtain ⟨Dk,hDk⟩:∃ y,D k=y:=⟨_,rfl⟩
   rw [hNk,hDk] at c2
   have HK:=Lib.hid (And.intro hNk hDk)
   clear hNk hDk
   go_wp2_with fail
   refine (c1 _).mono ?_
   rintro e w2 ⟨rfl,hb2⟩
   replace X:=X.kept hb2
   clear hb2 hc c1
   go_wp2_with fail
   refine (c2 _).mono ?_
   rintro e w3 ⟨rfl,hb2⟩
   have A3:Below w2.heap.size w2 (w2.alloc (.cells #[.int .i64 N1,.int .i64 D1] 64)):=balloc (Below.refl _ _) _
   have A4:Below w3.heap.size w3 (w3.alloc (.cells #[.int .i64 Nk,.int .i64 Dk] 64)):=balloc (Below.refl _ _) _
   replace X:=((X.kept A3).kept hb2).kept A4
   clear hb2 c2 A3 A4
   have sz:=X.below.size
   rw [World.size_alloc] at sz
   go_wp2_with (first
    | (at_builtin;refine wpList_append_lies _ rfl _ _ 36 rfl w.heap.size 64 i0 (.agg #[.int .i64 0,.int .i64 0]) 2 16 runderR hi hz0 hz1 hz2 rfl (by decide) _ k (lst2 N D k) rfl (X.a.alloc _) ⟨w3.heap.size+1,0,none⟩ 1 1 [.int .i64 Nk,.int .i64 Dk] rfl rfl ?c1 ?c2 (by omega) ?c3 ?c4 ?c5 _ rfl ?m1))
   case c1 =>
    intro j u hj
    match j,hj with
    | 0,hj=>simp at hj;subst hj;simp [Addr.add,go_sem]
    | 1,hj=>simp at hj;subst hj;simp [Addr.add,go_sem]
   case c2=>intro u hu;simp at hu;rcases hu with rfl|rfl<;>rfl
   case c3=>unfold maxLen;omega
   case c4=>omega
   case c5=>simp;omega
   case m1 =>
    intro g1 cap1 w4 hown1 hgrow1 hat1 hlt1
    have X2:=X.next (o1:=.cells #[.int .i64 Nk,.int .i64 Dk] 64) (by rw [HK.out.1,HK.out.2];exact hown1) hgrow1
    clear hown1 hgrow1 hat1 hlt1 X sz
    go_wp2
    go_roundw
    case rel=>exact ⟨k+1,by omega,by go_num,X2⟩
    case measure=>simp [intOf]<;>omega
  ·obtain rfl:k=n:=by omega
   obtain ⟨g1,cap1,rfl,hg1,lt1⟩:=X.a.form n0
   have Y:RExactRes w k N D (.returned (.tuple #[.slice (some ⟨g1,0,none⟩) k cap1,.int .i64 0])) _:=⟨g1,cap1,rfl,Rowp.of_owns X.a n0,hg1,X.below⟩
   have HY:=Lib.hid Y
   clear Y X
   go_wp2
   exact bodyPost_ret (v:=.tuple #[.slice (some ⟨g1,0,none⟩) k cap1,.int .i64 0]) (by simp [results,Tryz.results23,go_sem]) rfl HY.out

set_option maxRecDepth 100000 in
theorem rexact_over (A:Option Addr)(n cap:Nat)(zs:List Int)(a:Int)(N D:Nat→Int)(k0:Nat)(hk0:k0<n)(w:World)(hn:zs.length=n)(n0:0<n)(n1:n≤4096)(fa:Fit1 a)(hf:∀ z ∈ zs,Fit1 z)(hr:Rd w w.heap.size A zs)(hp:∀ z ∈ zs,0≤z)(hs:0<zs.sum)(fs:Fit1 zs.sum)
  (R:∀ i,i<k0→Rat1 (a*wt zs i) zs.sum (N i) (D i) 0) (RE:Rat1 (a*wt zs k0) zs.sum 0 0 2) :
  Calls Tryz.prog 23 #[.int .i64 a,.slice A n cap] w fun e w'=>e= .returned (.tuple #[.slice none 0 0,.int .i64 2])∧Below w.heap.size w w':=by
 have ct:=fun w h=>rAll_any A n cap zs zs.sum 0 w hn (.inl n1) (by omega) hf h (.inr (.inr ⟨by omega,hp,.inr (.inr ⟨hs,fs,rfl,rfl⟩)⟩))
 obtain ⟨b,off,rfl,hb,hcell⟩:=hr.resolve_left (by intro e;rw [e] at hn;simp at hn;omega)
 have M:MayBe (wt zs) n:=by rw [← hn];exact may_list hp hs
 have te:tot (wt zs) n=zs.sum:=by rw [← hn];exact sm_list zs
 obtain ⟨t,ht⟩:∃ t,t=zs.sum:=⟨_,rfl⟩
 rw [← ht] at ct te hs fs R RE
 obtain ⟨x,hx⟩:∃ x,x=wt zs:=⟨_,rfl⟩
 have hcell2:∀ i,i<n→w.cell? ⟨b,off+i,none⟩=some (.int .i64 (x i)):=fun i hi=>by rw [hx];exact hcell i (by omega)
 have fx:∀ i,i<n→Fit1 (x i):=fun i hi=>by rw [hx];exact hf _ (getD_mem (by omega))
 rw [← hx] at M te R RE
 have CM:Hid (∀ i,i<k0→∃ N1 D1,(∀ W,Calls Tryz.prog 44 #[.int .i64 (x i),.int .i64 t] W fun e w'=>e= .returned (.tuple #[.agg #[.int .i64 N1,.int .i64 D1],.int .i64 0])∧Below W.heap.size W w')∧
   (∀ W,Calls Tryz.prog 45 #[.agg #[.int .i64 a,.int .i64 1],.agg #[.int .i64 N1,.int .i64 D1]] W fun e w'=>e= .returned (.tuple #[.agg #[.int .i64 (N i),.int .i64 (D i)],.int .i64 0])∧Below W.heap.size W w')) :=
  Lib.hid (fun i hi=>by
   obtain ⟨N1,D1,m1,f1,f2,o1⟩:=share_op (a:=a) (M.1 i (by omega)) (by have:=w_le M (show i<n by omega);rw [te] at this;exact this) hs fs (R i hi)
   exact ⟨N1,D1,fun W=>Kc.rMake_any (x i) t N1 D1 0 W (fx i (by omega)) fs m1,fun W=>Kc.rMul_op a 1 N1 D1 (N i) (D i) 0 W fa (by unfold Fit1;omega) f1 f2 o1⟩)
 have CE:Hid (∃ N1 D1,(∀ W,Calls Tryz.prog 44 #[.int .i64 (x k0),.int .i64 t] W fun e w'=>e= .returned (.tuple #[.agg #[.int .i64 N1,.int .i64 D1],.int .i64 0])∧Below W.heap.size W w')∧
   (∀ W,Calls Tryz.prog 45 #[.agg #[.int .i64 a,.int .i64 1],.agg #[.int .i64 N1,.int .i64 D1]] W fun e w'=>e= .returned (.tuple #[.agg #[.int .i64 0,.int .i64 0],.int .i64 2])∧Below W.heap.size W w')) :=
  Lib.hid (by
   obtain ⟨N1,D1,m1,f1,f2,o1⟩:=share_op (a:=a) (M.1 k0 hk0) (by have:=w_le M hk0;rw [te] at this;exact this) hs fs RE
   exact ⟨N1,D1,fun W=>Kc.rMake_any (x k0) t N1 D1 0 W (fx k0 hk0) fs m1,fun W=>Kc.rMul_op a 1 N1 D1 0 0 2 W fa (by unfold Fit1;omega) f1 f2 o1⟩)
 have HX:=Lib.hid hcell2
 have ct0:=ct w hr
 obtain ⟨i0,hi,hz0,hz1,hz2⟩:=info_parts rinfoR
 clear ct hcell hcell2 M te fx hr hp hf hn ht hx hs fs R RE fa
 go_enter Tryz.func23,Tryz.ntmps23
 go_wp2_with fail
 refine ct0.mono ?_
 rintro e w1 ⟨rfl,hb1⟩
 clear ct0
 go_wp2
 go_loopw [8,25] (fun O Y wr=>∃ k:Nat,k≤k0∧Y= .int .i64 k∧One2 64 w wr O k N D) (fun _ Y _=>n - (intOf Y).toNat)
 case atStart=>exact ⟨0,by omega,rfl,One2.start _ w hb1 N D⟩
 case round =>
  clear hb1
  obtain ⟨k,hk,rfl,X⟩:=hrel
  by_cases hlt0:k<k0
  ·have hlt:k<n:=by omega
   have hc:=(X.below.cell (p:=⟨b,off+k,none⟩) hb).trans (HX.out k hlt)
   obtain ⟨N1,D1,c1,c2⟩:=CM.out k hlt0
   generalize x k=xk at hc c1
   obtain ⟨Nk,hNk⟩:∃ y,N k=y:=⟨_,rfl⟩
   obtain ⟨Dk,hDk⟩:∃ y,D k=y:=⟨_,rfl⟩
   rw [hNk,hDk] at c2
   have HK:=Lib.hid (And.intro hNk hDk)
   clear hNk hDk
   go_wp2_with fail
   refine (c1 _).mono ?_
   rintro e w2 ⟨rfl,hb2⟩
   replace X:=X.kept hb2
   clear hb2 hc c1
   go_wp2_with fail
   refine (c2 _).mono ?_
   rintro e w3 ⟨rfl,hb2⟩
   have A3:Below w2.heap.size w2 (w2.alloc (.cells #[.int .i64 N1,.int .i64 D1] 64)):=balloc (Below.refl _ _) _
   have A4:Below w3.heap.size w3 (w3.alloc (.cells #[.int .i64 Nk,.int .i64 Dk] 64)):=balloc (Below.refl _ _) _
   replace X:=((X.kept A3).kept hb2).kept A4
   clear hb2 c2 A3 A4
   have sz:=X.below.size
   rw [World.size_alloc] at sz
   go_wp2_with (first
    | (at_builtin;refine wpList_append_lies _ rfl _ _ 36 rfl w.heap.size 64 i0 (.agg #[.int .i64 0,.int .i64 0]) 2 16 runderR hi hz0 hz1 hz2 rfl (by decide) _ k (lst2 N D k) rfl (X.a.alloc _) ⟨w3.heap.size+1,0,none⟩ 1 1 [.int .i64 Nk,.int .i64 Dk] rfl rfl ?c1 ?c2 (by omega) ?c3 ?c4 ?c5 _ rfl ?m1))
   case c1 =>
    intro j u hj
    match j,hj with
    | 0,hj=>simp at hj;subst hj;simp [Addr.add,go_sem]
    | 1,hj=>simp at hj;subst hj;simp [Addr.add,go_sem]
   case c2=>intro u hu;simp at hu;rcases hu with rfl|rfl<;>rfl
   case c3=>unfold maxLen;omega
   case c4=>omega
   case c5=>simp;omega
   case m1 =>
    intro g1 cap1 w4 hown1 hgrow1 hat1 hlt1
    have X2:=X.next (o1:=.cells #[.int .i64 Nk,.int .i64 Dk] 64) (by rw [HK.out.1,HK.out.2];exact hown1) hgrow1
    clear hown1 hgrow1 hat1 hlt1 X sz
    go_wp2
    go_roundw
    case rel=>exact ⟨k+1,by omega,by go_num,X2⟩
    case measure=>simp [intOf]<;>omega
  ·obtain rfl:k=k0:=by omega
   have hc:=(X.below.cell (p:=⟨b,off+k,none⟩) hb).trans (HX.out k hk0)
   obtain ⟨N1,D1,c1,c2⟩:=CE.out
   generalize x k=xk at hc c1
   go_wp2_with fail
   refine (c1 _).mono ?_
   rintro e w2 ⟨rfl,hb2⟩
   replace X:=X.kept hb2
   clear hb2 hc c1
   go_wp2_with fail
   refine (c2 _).mono ?_
   rintro e w3 ⟨rfl,hb2⟩
   have B2:=balloc (bthen (balloc X.below (.cells #[.int .i64 N1,.int .i64 D1] 64)) hb2) (.cells #[.int .i64 0,.int .i64 0] 64)
   clear hb2 c2 X
   go_wp2
   go_ret2
   exact ⟨rfl,B2⟩

theorem SameRatios_yes (A B:Option Addr)(n c1 c2:Nat)(f d:Nat→Int)(w:World)(hm:(n:Int)≤9223372036854775807)(hA:n=0∨∃ b,A=some ⟨b,0,none⟩∧Rowp w b n f d)(hB:n=0∨∃ b,B=some ⟨b,0,none⟩∧Rowp w b n f d) :
  Calls Tryz.prog 14 #[.slice A n c1,.slice B n c2] w fun e w'=>e= .returned (.bool true)∧Below w.heap.size w w':=by
 have HA:=Lib.hid hA
 have HB:=Lib.hid hB
 clear hA hB
 go_enter Tryz.func14,Tryz.ntmps14
 go_wp2
 go_loopw [13] (fun x wr=>∃ k:Nat,k≤n∧x= .int .i64 k∧∃ q,wr=w.drewN q) (fun x _=>n - (intOf x).toNat)
 case atStart=>exact ⟨0,by omega,rfl,0,rfl⟩
 case round =>
  obtain ⟨k,hk,rfl,q,rfl⟩:=hrel
  by_cases hlt:k<n
  ·obtain ⟨b1,rfl,h1⟩:=HA.out.resolve_left (by omega)
   obtain ⟨b2,rfl,h2⟩:=HB.out.resolve_left (by omega)
   have k1:=h1.c0 k hlt
   have k2:=h2.c0 k hlt
   have k3:=h1.c1 k hlt
   have k4:=h2.c1 k hlt
   generalize f k=v at k1 k2
   generalize d k=u at k3 k4
   have pp:(0:Int)≤(k:Int):=by omega
   have bp:(k:Int)<(n:Int):=by omega
   clear h1 h2
   go_wp2_with fail
   go_quiet (fail)
   go_wp2
   go_roundw
   case rel=>exact ⟨k+1,by omega,by go_num,_,rfl⟩
   case measure=>simp [intOf]<;>omega
  ·obtain rfl:k=n:=by omega
   go_wp2
   go_ret
   exact ⟨rfl,bdrewN (Below.refl _ w) _⟩

end Go.Proofs.YtoilomigceijaaaGreatDoor.Sr

