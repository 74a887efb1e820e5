set_option linter.unusedSimpArgs false
set_option linter.unusedVariables false
/- Plain facts on an amount that is split by weights; nothing of the program. -/

namespace Go.Proofs.YtoilomigceijaaaGreatDoor.Sm

def sm (f:Nat→Int):Nat→Int
 | 0=>0
 | n+1=>sm f n+f n
def one (b:Bool):Int:=if b then 1 else 0
def cnt (C:Nat→Bool)(n:Nat):Int:=sm (fun i=>one (C i)) n

theorem sm_congr {f g:Nat→Int}:∀ {n:Nat},(∀ i,i<n→f i=g i)→sm f n=sm g n
 | 0,_=>rfl
 | n+1,h=>by unfold sm;rw [sm_congr (n:=n) (fun i hi=>h i (by omega)),h n (by omega)]
theorem sm_add (f g:Nat→Int):∀ n,sm (fun i=>f i+g i) n=sm f n+sm g n
 | 0=>rfl
 | n+1=>by unfold sm;rw [sm_add f g n];omega
theorem sm_mul (c:Int)(f:Nat→Int):∀ n,sm (fun i=>c*f i) n=c*sm f n
 | 0=>by simp [sm]
 | n+1=>by unfold sm;rw [sm_mul c f n,Int.mul_add]
theorem sm_le {f g:Nat→Int}:∀ {n:Nat},(∀ i,i<n→f i≤g i)→sm f n≤sm g n
 | 0,_=>Int.le_refl _
 | n+1,h=>by unfold sm;have:=sm_le (n:=n) (fun i hi=>h i (by omega));have:=h n (by omega);omega
theorem sm_const (c:Int):∀ n:Nat,sm (fun _=>c) n=n*c
 | 0=>by simp [sm]
 | n+1=>by
   unfold sm;rw [sm_const c n]
   have:((n+1:Nat):Int)*c=n*c+c:=by rw [Int.natCast_add,Int.add_mul];simp
   omega
theorem sm_nonneg {f:Nat→Int}{n:Nat}(h:∀ i,i<n→0≤f i):0≤sm f n:=by
 have:=sm_le (f:=fun _=>0) (g:=f) (n:=n) h
 rw [sm_const] at this;omega
theorem sm_set (f:Nat→Int)(v:Int)(k:Nat):∀ {n:Nat},k<n→sm (fun i=>if i=k then v else f i) n=sm f n - f k+v
 | 0,h=>by omega
 | n+1,h=>by
   unfold sm
   by_cases e:k=n
   ·subst e
    rw [sm_congr (g:=f) (fun i hi=>by rw [if_neg (by omega)]),if_pos rfl];omega
   ·rw [sm_set f v k (n:=n) (by omega),if_neg (by omega)];omega
theorem one_01 (b:Bool):0≤one b∧one b≤1:=by cases b<;>simp [one]
theorem cnt_full {C:Nat→Bool}{n:Nat}(h:∀ i,i<n→C i=true):cnt C n=n:=by
 unfold cnt
 rw [sm_congr (g:=fun _=>1) (fun i hi=>by rw [h i hi];rfl),sm_const];omega
theorem cnt_lt {C:Nat→Bool}{n:Nat}(h:cnt C n<n):∃ i,i<n∧C i=false:=by
 by_cases k:∃ i,i<n∧C i=false
 ·exact k
 ·have:∀ i,i<n→C i=true:=fun i hi=>by
   cases e:C i
   ·exact absurd ⟨i,hi,e⟩ k
   ·rfl
  rw [cnt_full this] at h;omega
theorem cnt_diff {C D:Nat→Bool}{n:Nat}(e:cnt C n=cnt D n)(h:∃ i,i<n∧C i≠D i):∃ i k,i<n∧k<n∧C i=true∧D i=false∧C k=false∧D k=true:=by
 have part:∀ (A B:Nat→Bool),cnt A n=cnt B n→(∃ i,i<n∧A i≠B i)→∃ i,i<n∧A i=true∧B i=false:=by
  intro A B e ⟨j,hj,hne⟩
  by_cases k:∃ i,i<n∧A i=true∧B i=false
  ·exact k
  ·exfalso
   have hB:A j=false∧B j=true:=by
    cases ha:A j<;>cases hb:B j
    ·rw [ha,hb] at hne;exact absurd rfl hne
    ·exact ⟨rfl,rfl⟩
    ·exact absurd ⟨j,hj,ha,hb⟩ k
    ·rw [ha,hb] at hne;exact absurd rfl hne
   have le:∀ i,i<n→one (A i)≤(fun i=>if i=j then 0 else one (B i)) i:=by
    intro i hi
    by_cases c:i=j
    ·subst c;simp [hB.1,one]
    ·simp only [c,if_false]
     cases ha:A i
     ·exact (one_01 _).1
     ·cases hb:B i
      ·exact absurd ⟨i,hi,ha,hb⟩ k
      ·exact Int.le_refl _
   have h1:=sm_le le
   rw [sm_set (fun i=>one (B i)) 0 j hj] at h1
   have:one (B j)=1:=by rw [hB.2];rfl
   unfold cnt at e
   simp only [this] at h1
   omega
 obtain ⟨i,hi,a,b⟩:=part C D e h
 obtain ⟨k,hk,c,d⟩:=part D C e.symm (by obtain ⟨i,hi,h⟩:=h;exact ⟨i,hi,fun x=>h x.symm⟩)
 exact ⟨i,k,hi,hk,a,b,d,c⟩

def Ahead (r:Nat→Int)(i k:Nat):Prop:=r k<r i∨(r i=r k∧i<k)
def Best (r:Nat→Int)(n:Nat)(c:Int)(C:Nat→Bool):Prop:=cnt C n=c∧∀ i k,i<n→k<n→C i=true→C k=false→Ahead r i k

theorem best_unique {r:Nat→Int}{n:Nat}{c:Int}{C D:Nat→Bool}(h:Best r n c C)(h':Best r n c D):∀ i,i<n→C i=D i:=by
 intro i hi
 by_cases e:C i=D i
 ·exact e
 ·exfalso
  obtain ⟨j,k,hj,hk,a,b,c1,d⟩:=cnt_diff (h.1.trans h'.1.symm) ⟨i,hi,e⟩
  have x:=h.2 j k hj hk a c1
  have y:=h'.2 k j hk hj d b
  unfold Ahead at x y;omega

theorem best_none (r:Nat→Int)(n:Nat):Best r n 0 (fun _=>false):=by
 refine ⟨?_,fun i k _ _ h=>by cases h⟩
 have e:sm (fun i=>one ((fun _=>false) i)) n=sm (fun _=>0) n:=sm_congr (fun i _=>rfl)
 unfold cnt
 rw [e,sm_const];omega
theorem best_step {r:Nat→Int}{n:Nat}{c:Int}{C:Nat→Bool}(h:Best r n c C){m:Nat}(hm:m<n)(cm:C m=false)(b:∀ k,k<n→C k=false→k≠m→Ahead r m k) :
  Best r n (c+1) (fun i=>if i=m then true else C i):=by
 constructor
 ·unfold cnt
  rw [sm_congr (g:=fun i=>if i=m then 1 else one (C i)) (fun i _=>by by_cases e:i=m<;>simp [e,one]),sm_set (fun i=>one (C i)) 1 m hm]
  have h1:=h.1
  unfold cnt at h1
  have:one (C m)=0:=by rw [cm];rfl
  simp only [this]
  omega
 ·intro i k hi hk ci ck
  by_cases e:k=m
  ·subst e;simp at ck
  ·simp only [e,if_false] at ck
   by_cases e2:i=m
   ·subst e2;exact b k hk ck e
   ·simp only [e2,if_false] at ci
    exact h.2 i k hi hk ci ck
section
variable (a:Int) (w:Nat→Int) (n:Nat)
def tot:Int:=sm w n
def quo (i:Nat):Int:=a*w i / tot w n
def rem (i:Nat):Int:=a*w i%tot w n
def left:Int:=sm (rem a w n) n / tot w n
def MayBe:Prop:=(∀ i,i<n→0≤w i)∧0<tot w n
def IsSplit (o:Nat→Int):Prop:=∃ C,Best (rem a w n) n (left a w n) C∧∀ i,i<n→o i=quo a w n i+one (C i)
end
variable {a:Int} {w:Nat→Int} {n:Nat}

theorem rem_bd (h:MayBe w n)(i:Nat):0≤rem a w n i∧rem a w n i<tot w n :=
 ⟨Int.emod_nonneg _ (by have:=h.2;omega),Int.emod_lt_of_pos _ h.2⟩
theorem quo_rem (i:Nat):tot w n*quo a w n i+rem a w n i=a*w i:=Int.mul_ediv_add_emod _ _
theorem sums (a:Int)(w:Nat→Int)(n:Nat):tot w n*sm (quo a w n) n+sm (rem a w n) n=a*tot w n:=by
 rw [← sm_mul,← sm_add]
 rw [sm_congr (g:=fun i=>a*w i) (fun i _=>quo_rem i),sm_mul];rfl
theorem left_is (h:MayBe w n):left a w n=a - sm (quo a w n) n∧sm (rem a w n) n=tot w n*left a w n:=by
 have s:=sums a w n
 have e:sm (rem a w n) n=tot w n*(a - sm (quo a w n) n):=by rw [Int.mul_sub,Int.mul_comm _ a];omega
 have l:left a w n=a - sm (quo a w n) n:=by
  unfold left;rw [e];exact Int.mul_ediv_cancel_left _ (by have:=h.2;omega)
 exact ⟨l,by rw [l];exact e⟩
theorem left_bd (h:MayBe w n):0≤left a w n∧left a w n≤n:=by
 have e:=(left_is (a:=a) h).2
 have s0:=sm_nonneg (f:=rem a w n) (n:=n) (fun i _=>(rem_bd h i).1)
 have s1:=sm_le (f:=rem a w n) (g:=fun _=>tot w n) (n:=n) (fun i _=>by have:=rem_bd (a:=a) h i;omega)
 rw [sm_const] at s1
 have hp:=h.2
 constructor
 ·rcases Int.lt_trichotomy (left a w n) 0 with c|c|c
  ·have:=Int.mul_neg_of_pos_of_neg hp c;omega
  ·omega
  ·omega
 ·by_cases c:left a w n≤n
  ·exact c
  ·have:tot w n*((n:Int)+1)≤tot w n*left a w n:=Int.mul_le_mul_of_nonneg_left (by omega) (by omega)
   rw [Int.mul_add,Int.mul_one,Int.mul_comm _ (n:Int)] at this
   omega
theorem split_unique {o p:Nat→Int}(h:IsSplit a w n o)(h':IsSplit a w n p):∀ i,i<n→o i=p i:=by
 obtain ⟨C,hC,ho⟩:=h
 obtain ⟨D,hD,hp⟩:=h'
 intro i hi
 rw [ho i hi,hp i hi,best_unique hC hD i hi]
theorem more_pos (h:MayBe w n){C:Nat→Bool}(hC:Best (rem a w n) n (left a w n) C){i:Nat}(hi:i<n)(ci:C i=true):0<rem a w n i:=by
 have r0:=(rem_bd (a:=a) h i).1
 by_cases c:0<rem a w n i
 ·exact c
 ·exfalso
  have z:∀ k,k<n→C k=false→rem a w n k=0:=by
   intro k hk ck
   have h1:=hC.2 i k hi hk ci ck
   have h2:=(rem_bd (a:=a) h k).1
   unfold Ahead at h1;omega
  -- all that is left over is with those that are chosen, but i
  have le:∀ k,k<n→rem a w n k≤(tot w n)*(if k=i then 0 else one (C k)):=by
   intro k hk
   have rb:=rem_bd (a:=a) h k
   by_cases e:k=i
   ·subst e;simp;omega
   ·simp only [e,if_false]
    cases ck:C k
    ·rw [z k hk ck];simp [one]
    ·simp [one];omega
  have s:=sm_le le
  rw [sm_mul,sm_set (fun k=>one (C k)) 0 i hi] at s
  have e1:=hC.1
  unfold cnt at e1
  have e2:one (C i)=1:=by rw [ci];rfl
  simp only [e2,e1] at s
  have e3:=(left_is (a:=a) h).2
  rw [e3] at s
  have hp:=h.2
  have:tot w n*(left a w n - 1+0)=tot w n*left a w n - tot w n:=by rw [Int.add_zero,Int.mul_sub,Int.mul_one]
  omega

theorem w_le (h:MayBe w n){i:Nat}(hi:i<n):w i≤tot w n:=by
 have:∀ {m:Nat},(∀ j,j<m→0≤w j)→i<m→w i≤sm w m:=by
  intro m
  induction m with
  | zero=>intro _ h;omega
  | succ k ih =>
    intro hp hi
    unfold sm
    by_cases e:i=k
    ·subst e
     have:=sm_nonneg (f:=w) (n:=i) (fun j hj=>hp j (by omega));omega
    ·have:=ih (fun j hj=>hp j (by omega)) (by omega)
     have:=hp k (by omega);omega
 exact this h.1 hi
end Go.Proofs.YtoilomigceijaaaGreatDoor.Sm

