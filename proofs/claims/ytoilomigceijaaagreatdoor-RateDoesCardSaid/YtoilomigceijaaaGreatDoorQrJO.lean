/- Texts that are joined: Omath, Ost, Orot, Osym, Osymr, Ogo, Oblk, Ostab, Ofur. -/
import Derived.Test.YtoilomigceijaaaGreatDoorQrSmath
import Derived.Test.YtoilomigceijaaaGreatDoorChecked
import Derived.Test.YtoilomigceijaaaGreatDoorQrJK
import Derived.BigRegion
import Derived.IntWalk
import Derived.Laws.MakeOwn
set_option linter.unusedSimpArgs false
set_option linter.unusedVariables false
namespace Go.Proofs.YtoilomigceijaaaGreatDoor.Om
open Sm

theorem sm_flat {F:Nat→Int}{a:Nat}:∀ {b:Nat},a≤b→(∀ i,a≤i→i<b→F i=0)→sm F b=sm F a
 | 0,h,_=>by obtain rfl:a=0:=by omega
             rfl
 | b+1,h,z=>by
   by_cases e:a=b+1
   ·subst e;rfl
   ·unfold sm
    have h1:=sm_flat (F:=F) (a:=a) (b:=b) (by omega) (fun i h1 h2=>z i h1 (by omega))
    have h2:=z b (by omega) (by omega)
    rw [h1,h2]
    cases a with
    | zero=>simp [sm]
    | succ a=>simp [sm]
theorem sm_up {F:Nat→Int}{a:Nat}:∀ {b:Nat},a≤b→(∀ i,a≤i→i<b→0≤F i)→sm F a≤sm F b
 | 0,h,_=>by obtain rfl:a=0:=by omega
             exact Int.le_refl _
 | b+1,h,z=>by
   by_cases e:a=b+1
   ·subst e;exact Int.le_refl _
   ·have h1:=sm_up (F:=F) (a:=a) (b:=b) (by omega) (fun i h1 h2=>z i h1 (by omega))
    have h2:=z b (by omega) (by omega)
    have e1:sm F (b+1)=sm F b+F b:=rfl
    omega
theorem sm_more {F:Nat→Int}{a b k:Nat}(ka:a≤k)(kb:k<b)(z:∀ i,a≤i→i<b→0≤F i)(hk:1≤F k):sm F a+1≤sm F b:=by
 have h1:=sm_up (F:=F) (a:=a) (b:=k) ka (fun i h1 h2=>z i h1 (by omega))
 have h2:=sm_up (F:=F) (a:=k+1) (b:=b) (by omega) (fun i h1 h2=>z i (by omega) h2)
 have e1:sm F (k+1)=sm F k+F k:=rfl
 omega
theorem sm_tail {F G:Nat→Int}{b:Nat}:∀ {c:Nat},b≤c→sm F b=sm G b→(∀ i,b≤i→i<c→F i=G i)→sm F c=sm G c
 | 0,h,e,_=>by obtain rfl:b=0:=by omega
               exact e
 | c+1,h,e,z=>by
   by_cases k:b=c+1
   ·subst k;exact e
   ·have h1:=sm_tail (F:=F) (G:=G) (b:=b) (c:=c) (by omega) e (fun i h1 h2=>z i h1 (by omega))
    have h2:=z c (by omega) (by omega)
    have e1:sm F (c+1)=sm F c+F c:=rfl
    have e2:sm G (c+1)=sm G c+G c:=rfl
    omega
theorem sm_part (F:Nat→Int)(a:Nat):∀ k,sm F (a+k)=sm F a+sm (fun i=>F (a+i)) k
 | 0=>by simp [sm]
 | k+1=>by
   have h:=sm_part F a k
   have e1:sm F (a+(k+1))=sm F (a+k)+F (a+k):=rfl
   have e2:sm (fun i=>F (a+i)) (k+1)=sm (fun i=>F (a+i)) k+F (a+k):=rfl
   omega

structure Pm (f f':Nat→Nat) (a b:Nat):Prop where
 lo:∀ i,i<a→f' i=f i
 hi:∀ i,b≤i→f' i=f i
 ev:∀ h:Nat→Int,sm (fun i=>h (f' i)) b=sm (fun i=>h (f i)) b

theorem Pm.refl (f:Nat→Nat)(a b:Nat):Pm f f a b:=⟨fun _ _=>rfl,fun _ _=>rfl,fun _=>rfl⟩
theorem Pm.trans {f g k:Nat→Nat}{a b:Nat}(x:Pm f g a b)(y:Pm g k a b):Pm f k a b :=
 ⟨fun i h=>(y.lo i h).trans (x.lo i h),fun i h=>(y.hi i h).trans (x.hi i h),fun h=>(y.ev h).trans (x.ev h)⟩
theorem Pm.mono {f g:Nat→Nat}{a b a' b':Nat}(x:Pm f g a b)(h1:a'≤a)(h2:b≤b'):Pm f g a' b' :=
 ⟨fun i h=>x.lo i (by omega),fun i h=>x.hi i (by omega),fun h=>sm_tail h2 (x.ev h) (fun i hi _=>by rw [x.hi i hi])⟩
theorem Pm.all {f f':Nat→Nat}{a b:Nat}(x:Pm f f' a b){P:Nat→Prop}(hp:∀ i,a≤i→i<b→P (f i)):∀ i,a≤i→i<b→P (f' i):=by
 classical
 intro k ka kb
 by_cases hk:P (f' k)
 ·exact hk
 ·exfalso
  have e:=x.ev (fun v=>if P v then 0 else 1)
  have e1:sm (fun i=>if P (f i) then (0:Int) else 1) b=sm (fun i=>if P (f i) then (0:Int) else 1) a :=
   sm_flat (by omega) (fun i h1 h2=>by simp [hp i h1 h2])
  have e2:=sm_more (F:=fun i=>if P (f' i) then (0:Int) else 1) (a:=a) (b:=b) ka kb (fun i _ _=>by split<;>omega) (by rw [if_neg hk];omega)
  have e3:sm (fun i=>if P (f' i) then (0:Int) else 1) a=sm (fun i=>if P (f i) then (0:Int) else 1) a:=sm_congr (fun i hi=>by rw [x.lo i hi])
  omega

def sw (f:Nat→Nat)(i j k:Nat):Nat:=if k=i then f j else if k=j then f i else f k
theorem sw_pm (f:Nat→Nat){i j a b:Nat}(ia:a≤i)(ib:i<b)(ja:a≤j)(jb:j<b)(ne:i≠j):Pm f (sw f i j) a b:=by
 refine ⟨fun k h=>by unfold sw;rw [if_neg (by omega),if_neg (by omega)],fun k h=>by unfold sw;rw [if_neg (by omega),if_neg (by omega)],fun h=>?_⟩
 have e:sm (fun k=>h (sw f i j k)) b=sm (fun k=>if k=i then h (f j) else (fun k=>if k=j then h (f i) else h (f k)) k) b :=
  sm_congr (fun k _=>by
   unfold sw
   by_cases c1:k=i
   ·rw [if_pos c1,if_pos c1]
   ·rw [if_neg c1,if_neg c1]
    by_cases c2:k=j
    ·rw [if_pos c2];show _=if k=j then _ else _;rw [if_pos c2]
    ·rw [if_neg c2];show _=if k=j then _ else _;rw [if_neg c2])
 rw [e,sm_set _ _ i ib,sm_set (fun k=>h (f k)) _ j jb]
 simp only [ne,if_false]
 omega

theorem ahead_trans {r:Nat→Int}{x y z:Nat}(h:Ahead r x y)(k:Ahead r y z):Ahead r x z:=by unfold Ahead at *;omega
theorem ahead_lt {r:Nat→Int}{x y:Nat}(h:y<x):Ahead r x y↔r y<r x:=by unfold Ahead;omega
theorem ahead_ge {r:Nat→Int}{x y:Nat}(h:y<x)(k:¬ r y<r x):Ahead r y x:=by unfold Ahead;omega

def Srt (r:Nat→Int)(f:Nat→Nat)(a b:Nat):Prop:=∀ i j,a≤i→i<j→j<b→Ahead r (f i) (f j)
def Lo (f:Nat→Nat)(a m b:Nat):Prop:=∀ i j,a≤i→i<m→m≤j→j<b→f i<f j
def Asc (f:Nat→Nat)(a b:Nat):Prop:=∀ i j,a≤i→i<j→j<b→f i<f j

structure Ins (r:Nat→Int) (f0 f:Nat→Nat) (a i j:Nat):Prop where
 pm:Pm f0 f a (i+1)
 s:∀ p q,a≤p→p<q→q≤i→p≠j→q≠j→Ahead r (f p) (f q)
 up:∀ q,j<q→q≤i→Ahead r (f j) (f q)
 big:∀ q,a≤q→q≤i→q≠j→f q<f j
theorem Ins.start {r:Nat→Int}{f0 f:Nat→Nat}{a i:Nat}(p:Pm f0 f a i)(s:Srt r f a i)(b:∀ q,a≤q→q<i→f q<f i):Ins r f0 f a i i :=
 ⟨p.mono (Nat.le_refl _) (by omega),fun p q h1 h2 h3 h4 h5=>s p q h1 h2 (by omega),fun q h1 h2=>by omega,fun q h1 h2 h3=>b q h1 (by omega)⟩
theorem Ins.step {r:Nat→Int}{f0 f:Nat→Nat}{a i k:Nat}(x:Ins r f0 f a i (k+1))(ka:a≤k)(ki:k+1≤i)(h:r (f k)<r (f (k+1))):Ins r f0 (sw f (k+1) k) a i k:=by
 have ah:Ahead r (f (k+1)) (f k):=.inl h
 have e0:sw f (k+1) k k=f (k+1):=by unfold sw;rw [if_neg (by omega),if_pos rfl]
 have e1:sw f (k+1) k (k+1)=f k:=by unfold sw;rw [if_pos rfl]
 have e2:∀ q,q≠k→q≠k+1→sw f (k+1) k q=f q:=fun q h1 h2=>by unfold sw;rw [if_neg h2,if_neg h1]
 refine ⟨x.pm.trans (sw_pm f (by omega) (by omega) ka (by omega) (by omega)),?_,?_,?_⟩
 ·intro p q h1 h2 h3 h4 h5
  by_cases c1:p=k+1
  ·subst c1
   rw [e1,e2 q h5 (by omega)]
   exact x.s k q ka (by omega) h3 (by omega) (by omega)
  ·by_cases c2:q=k+1
   ·subst c2
    rw [e1,e2 p h4 c1]
    exact x.s p k h1 (by omega) (by omega) c1 (by omega)
   ·rw [e2 p h4 c1,e2 q h5 c2]
    exact x.s p q h1 h2 h3 c1 c2
 ·intro q h1 h2
  rw [e0]
  by_cases c2:q=k+1
  ·subst c2;rw [e1];exact ah
  ·rw [e2 q (by omega) c2];exact x.up q (by omega) h2
 ·intro q h1 h2 h3
  rw [e0]
  by_cases c2:q=k+1
  ·subst c2;rw [e1];exact x.big k ka (by omega) (by omega)
  ·rw [e2 q h3 c2];exact x.big q h1 h2 c2
theorem Ins.stop {r:Nat→Int}{f0 f:Nat→Nat}{a i j:Nat}(x:Ins r f0 f a i j)(ja:a≤j)(ji:j≤i)(h:∀ k,j=k+1→a≤k→¬ r (f k)<r (f j)):Srt r f a (i+1):=by
 intro p q h1 h2 h3
 by_cases c1:p=j
 ·subst c1;exact x.up q h2 (by omega)
 ·by_cases c2:q=j
  ·subst c2
   obtain ⟨k,rfl⟩:∃ k,q=k+1:=⟨q - 1,by omega⟩
   have l:=h k rfl (by omega)
   have ak:=ahead_ge (x.big k (by omega) (by omega) (by omega)) l
   by_cases c3:p=k
   ·subst c3;exact ak
   ·exact ahead_trans (x.s p k h1 (by omega) (by omega) c1 (by omega)) ak
  ·exact x.s p q h1 h2 (by omega) c1 c2

def rot (f:Nat→Nat)(s m e k:Nat):Nat:=if k<s then f k else if k<s+(e - m) then f (m+(k - s)) else if k<e then f (s+(k - (s+(e - m)))) else f k
theorem rot_none_l (f:Nat→Nat){m e:Nat}(h:m≤e):rot f m m e=f:=by
 funext k;unfold rot
 split
 ·rfl
 ·split
  ·congr 1;omega
  ·split
   ·omega
   ·rfl
theorem rot_none_r (f:Nat→Nat){s m:Nat}(h:s≤m):rot f s m m=f:=by
 funext k;unfold rot
 split
 ·rfl
 ·split
  ·omega
  ·split
   ·congr 1;omega
   ·rfl
theorem rot_pm (f:Nat→Nat){s m e:Nat}(h1:s≤m)(h2:m≤e):Pm f (rot f s m e) s e:=by
 refine ⟨fun k h=>by unfold rot;rw [if_pos h],fun k h=>by unfold rot;rw [if_neg (by omega),if_neg (by omega),if_neg (by omega)],fun h=>?_⟩
 have ee:e=s+((e - m)+(m - s)):=by omega
 obtain ⟨F,hF⟩:∃ F:Nat→Int,F=fun i=>h (rot f s m e i):=⟨_,rfl⟩
 obtain ⟨G,hG⟩:∃ G:Nat→Int,G=fun i=>h (f i):=⟨_,rfl⟩
 rw [← hF,← hG]
 have p1:=sm_part F s ((e - m)+(m - s))
 have p2:=sm_part (fun i=>F (s+i)) (e - m) (m - s)
 have q1:=sm_part G s ((m - s)+(e - m))
 have q2:=sm_part (fun i=>G (s+i)) (m - s) (e - m)
 rw [← ee] at p1
 rw [show s+(m - s+(e - m))=e by omega] at q1
 have a1:sm F s=sm G s:=sm_congr (fun i hi=>by rw [hF,hG];show h (rot f s m e i)=h (f i);unfold rot;rw [if_pos hi])
 have a2:sm (fun i=>F (s+i)) (e - m)=sm (fun i=>G (s+(m - s+i))) (e - m) :=
  sm_congr (fun i hi=>by
   rw [hF,hG];show h (rot f s m e (s+i))=h (f (s+(m - s+i)))
   unfold rot;rw [if_neg (by omega),if_pos (by omega)]
   congr 2;omega)
 have a3:sm (fun i=>F (s+(e - m+i))) (m - s)=sm (fun i=>G (s+i)) (m - s) :=
  sm_congr (fun i hi=>by
   rw [hF,hG];show h (rot f s m e (s+(e - m+i)))=h (f (s+i))
   unfold rot;rw [if_neg (by omega),if_neg (by omega),if_pos (by omega)]
   congr 2;omega)
 omega

def sr (f:Nat→Nat)(a b n k:Nat):Nat:=if a≤k∧k<a+n then f (b+(k - a)) else if b≤k∧k<b+n then f (a+(k - b)) else f k
theorem sr_zero (f:Nat→Nat)(a b:Nat):sr f a b 0=f:=by funext k;unfold sr;rw [if_neg (by omega),if_neg (by omega)]
theorem sr_succ (f:Nat→Nat){a b n:Nat}(h:a+(n+1)≤b):sw (sr f a b n) (a+n) (b+n)=sr f a b (n+1):=by
 funext k;unfold sw sr
 repeat' split
 all_goals first|rfl|omega|(congr 1;omega)
theorem rot_same (f:Nat→Nat){m i:Nat}(h:i≤m):sr f (m - i) m i=rot f (m - i) m (m+i):=by
 funext k;unfold sr rot
 repeat' split
 all_goals first|rfl|omega|(congr 1;omega)
theorem rot_left (f:Nat→Nat){m i j:Nat}(h:i≤m)(hj:j<i):rot (sr f (m - i) m j) (m - (i - j)) m (m+j)=rot f (m - i) m (m+j):=by
 funext k;unfold rot sr
 repeat' split
 all_goals first|rfl|omega|(congr 1;omega)
theorem rot_right (f:Nat→Nat){m i j:Nat}(h:i≤m)(hj:i<j):rot (sr f (m - i) (m+j - i) i) (m - i) m (m+(j - i))=rot f (m - i) m (m+j):=by
 funext k;unfold rot sr
 repeat' split
 all_goals first|rfl|omega|(congr 1;omega)

theorem cross {r:Nat→Int}{f:Nat→Nat}{a s m e b:Nat}(sl:Srt r f a m)(sr:Srt r f m b)(h0:a≤s)(h1:s≤m)(h2:m≤e)(h3:e≤b)
  (hA:a<s→e<b→Ahead r (f (s - 1)) (f e)) (hB:s<m→m<e→Ahead r (f (e - 1)) (f s)) :
  ∀ p q,a≤p→p<s+(e - m)→s+(e - m)≤q→q<b→Ahead r (rot f s m e p) (rot f s m e q):=by
 intro p q p0 p1 q0 q1
 unfold rot
 rw [if_neg (show ¬ q<s by omega),if_neg (show ¬ q<s+(e - m) by omega)]
 by_cases c1:p<s
 ·rw [if_pos c1]
  by_cases c2:q<e
  ·rw [if_pos c2];exact sl _ _ p0 (by omega) (by omega)
  ·rw [if_neg c2]
   have k:=hA (by omega) (by omega)
   have k1:Ahead r (f p) (f e):=by
    by_cases d:p=s - 1
    ·rw [d];exact k
    ·exact ahead_trans (sl p (s - 1) p0 (by omega) (by omega)) k
   by_cases d:q=e
   ·rw [d];exact k1
   ·exact ahead_trans k1 (sr e q (by omega) (by omega) q1)
 ·rw [if_neg c1,if_pos p1]
  by_cases c2:q<e
  ·rw [if_pos c2]
   have k:=hB (by omega) (by omega)
   have k1:Ahead r (f (m+(p - s))) (f s):=by
    by_cases d:m+(p - s)=e - 1
    ·rw [d];exact k
    ·exact ahead_trans (sr _ (e - 1) (by omega) (by omega) (by omega)) k
   by_cases d:s+(q - (s+(e - m)))=s
   ·rw [d];exact k1
   ·exact ahead_trans k1 (sl s _ h0 (by omega) (by omega))
  ·rw [if_neg c2];exact sr _ _ (by omega) (by omega) q1

theorem rot_parts {r:Nat→Int}{f:Nat→Nat}{a s m e b:Nat}(sl:Srt r f a m)(sr:Srt r f m b)(lo:Lo f a m b)(h0:a≤s)(h1:s≤m)(h2:m≤e)(h3:e≤b) :
  Srt r (rot f s m e) a s∧Srt r (rot f s m e) s (s+(e - m))∧Lo (rot f s m e) a s (s+(e - m))∧
  Srt r (rot f s m e) (s+(e - m)) e∧Srt r (rot f s m e) e b∧Lo (rot f s m e) (s+(e - m)) e b:=by
 have e1:∀ k,k<s→rot f s m e k=f k:=fun k h=>by unfold rot;rw [if_pos h]
 have e2:∀ k,s≤k→k<s+(e - m)→rot f s m e k=f (m+(k - s)):=fun k h h'=>by unfold rot;rw [if_neg (by omega),if_pos h']
 have e3:∀ k,s+(e - m)≤k→k<e→rot f s m e k=f (s+(k - (s+(e - m)))):=fun k h h'=>by unfold rot;rw [if_neg (by omega),if_neg (by omega),if_pos h']
 have e4:∀ k,e≤k→rot f s m e k=f k:=fun k h=>by unfold rot;rw [if_neg (by omega),if_neg (by omega),if_neg (by omega)]
 refine ⟨?_,?_,?_,?_,?_,?_⟩
 ·intro i j x y z;rw [e1 i (by omega),e1 j z];exact sl i j x y (by omega)
 ·intro i j x y z;rw [e2 i x (by omega),e2 j (by omega) z];exact sr _ _ (by omega) (by omega) (by omega)
 ·intro i j x y z t;rw [e1 i y,e2 j z t];exact lo i _ x (by omega) (by omega) (by omega)
 ·intro i j x y z;rw [e3 i x (by omega),e3 j (by omega) z];exact sl _ _ (by omega) (by omega) (by omega)
 ·intro i j x y z;rw [e4 i x,e4 j (by omega)];exact sr i j (by omega) y z
 ·intro i j x y z t;rw [e3 i x y,e4 j z];exact lo _ j (by omega) (by omega) (by omega) t

theorem halves {r:Nat→Int}{f f1 f2 f3:Nat→Nat}{a c b:Nat}(ac:a≤c)(cb:c≤b)(p1:Pm f f1 a b)(p2:Pm f1 f2 a c)(p3:Pm f2 f3 c b)(s2:Srt r f2 a c)(s3:Srt r f3 c b)
  (x:∀ p q,a≤p→p<c→c≤q→q<b→Ahead r (f1 p) (f1 q)):Srt r f3 a b∧Pm f f3 a b:=by
 have low:∀ i,i<c→f3 i=f2 i:=fun i h=>p3.lo i h
 have x2:∀ q,c≤q→q<b→∀ p,a≤p→p<c→Ahead r (f2 p) (f1 q):=fun q h h'=>p2.all (P:=fun v=>Ahead r v (f1 q)) (fun p h1 h2=>x p q h1 h2 h h')
 have x3:∀ p,a≤p→p<c→∀ q,c≤q→q<b→Ahead r (f2 p) (f3 q):=fun p h h'=>p3.all (P:=fun v=>Ahead r (f2 p) v) (fun q h1 h2=>by rw [p2.hi q h1];exact x2 q h1 h2 p h h')
 refine ⟨fun i j h1 h2 h3=>?_,p1.trans ((p2.mono (Nat.le_refl _) cb).trans (p3.mono ac (Nat.le_refl _)))⟩
 by_cases c1:j<c
 ·rw [low i (by omega),low j c1];exact s2 i j h1 h2 c1
 ·by_cases c2:i<c
  ·rw [low i c2];exact x3 i h1 c2 j (by omega) h3
  ·exact s3 i j (by omega) h2 h3

theorem one_left {r:Nat→Int}{f:Nat→Nat}{a i b:Nat}(sr:Srt r f (a+1) b)(h2:a+1≤i)(h3:i≤b)(hA:a+1<i→Ahead r (f (i - 1)) (f a))(hB:i<b→Ahead r (f a) (f i)) :
  Srt r (rot f a (a+1) i) a b∧Pm f (rot f a (a+1) i) a b:=by
 have sl:Srt r f a (a+1):=fun i j h1 h2 h3=>by omega
 refine ⟨?_,(rot_pm f (by omega) h2).mono (Nat.le_refl _) h3⟩
 have e2:∀ k,a≤k→k<i - 1→rot f a (a+1) i k=f (k+1):=fun k h h'=>by
  unfold rot;rw [if_neg (by omega),if_pos (by omega)];congr 1;omega
 have e3:rot f a (a+1) i (i - 1)=f a:=by unfold rot;rw [if_neg (by omega),if_neg (by omega),if_pos (by omega)];congr 1;omega
 have e4:∀ k,i≤k→rot f a (a+1) i k=f k:=fun k h=>by unfold rot;rw [if_neg (by omega),if_neg (by omega),if_neg (by omega)]
 have up:∀ k,i≤k→k<b→Ahead r (f a) (f k):=fun k h h'=>by
  by_cases d:k=i
  ·rw [d];exact hB (by omega)
  ·exact ahead_trans (hB (by omega)) (sr i k (by omega) (by omega) h')
 have dn:∀ k,a+1≤k→k<i→Ahead r (f k) (f a):=fun k h h'=>by
  by_cases d:k=i - 1
  ·rw [d];exact hA (by omega)
  ·exact ahead_trans (sr k (i - 1) h (by omega) (by omega)) (hA (by omega))
 intro p q x y z
 by_cases c1:p<i - 1
 ·rw [e2 p x c1]
  by_cases c2:q<i - 1
  ·rw [e2 q (by omega) c2];exact sr _ _ (by omega) (by omega) (by omega)
  ·by_cases c3:q=i - 1
   ·rw [c3,e3];exact dn _ (by omega) (by omega)
   ·rw [e4 q (by omega)];exact sr _ _ (by omega) (by omega) z
 ·by_cases c3:p=i - 1
  ·rw [c3,e3,e4 q (by omega)];exact up q (by omega) z
  ·rw [e4 p (by omega),e4 q (by omega)];exact sr p q (by omega) y z

theorem one_right {r:Nat→Int}{f:Nat→Nat}{a i m:Nat}(sl:Srt r f a m)(h1:a≤i)(h2:i≤m)(hA:a<i→Ahead r (f (i - 1)) (f m))(hB:i<m→Ahead r (f m) (f i)) :
  Srt r (rot f i m (m+1)) a (m+1)∧Pm f (rot f i m (m+1)) a (m+1):=by
 refine ⟨?_,(rot_pm f h2 (by omega)).mono h1 (Nat.le_refl _)⟩
 have e1:∀ k,k<i→rot f i m (m+1) k=f k:=fun k h=>by unfold rot;rw [if_pos h]
 have e2:rot f i m (m+1) i=f m:=by unfold rot;rw [if_neg (by omega),if_pos (by omega)];congr 1;omega
 have e3:∀ k,i<k→k<m+1→rot f i m (m+1) k=f (k - 1):=fun k h h'=>by
  unfold rot;rw [if_neg (by omega),if_neg (by omega),if_pos h'];congr 1;omega
 have up:∀ k,i≤k→k<m→Ahead r (f m) (f k):=fun k h h'=>by
  by_cases d:k=i
  ·rw [d];exact hB (by omega)
  ·exact ahead_trans (hB (by omega)) (sl i k h1 (by omega) h')
 have dn:∀ k,a≤k→k<i→Ahead r (f k) (f m):=fun k h h'=>by
  by_cases d:k=i - 1
  ·rw [d];exact hA (by omega)
  ·exact ahead_trans (sl k (i - 1) h (by omega) (by omega)) (hA (by omega))
 intro p q x y z
 by_cases c1:p<i
 ·rw [e1 p c1]
  by_cases c2:q<i
  ·rw [e1 q c2];exact sl p q x y (by omega)
  ·by_cases c3:q=i
   ·rw [c3,e2];exact dn p x c1
   ·rw [e3 q (by omega) z];exact sl p _ x (by omega) (by omega)
 ·by_cases c3:p=i
  ·rw [c3,e2,e3 q (by omega) z];exact up _ (by omega) (by omega)
  ·rw [e3 p (by omega) (by omega),e3 q (by omega) z];exact sl _ _ (by omega) (by omega) (by omega)

theorem rot_one_l (f:Nat→Nat){a k:Nat}(h:a≤k):sw (rot f a (a+1) (k+1)) k (k+1)=rot f a (a+1) (k+2):=by
 funext x;unfold sw rot
 repeat' split
 all_goals first|rfl|omega|(congr 1;omega)
theorem rot_one_r (f:Nat→Nat){m k:Nat}(h:k+1≤m):sw (rot f (k+1) m (m+1)) (k+1) k=rot f k m (m+1):=by
 funext x;unfold sw rot
 repeat' split
 all_goals first|rfl|omega|(congr 1;omega)

def sg (p q:Int):Int:=if p<q then -1 else if q<p then 1 else 0
theorem sg_neg {p q:Int}:sg p q<0↔p<q:=by unfold sg;split<;>(try split)<;>omega
end Go.Proofs.YtoilomigceijaaaGreatDoor.Om

namespace Go.Proofs.YtoilomigceijaaaGreatDoor.Os
open Go.RowKit Pr Rk Sm Om

set_option maxHeartbeats 1000000

theorem row_congr {W:World}{g n:Nat}{f f':Nat→Int}(p:Row W g n f)(h:∀ i,i<n→f i=f' i):Row W g n f' :=
 ⟨p.lt,fun i hi=>by rw [← h i hi];exact p.c i hi,p.fz⟩

structure St (B:Nat) (Wb W:World) (g n:Nat) (f:Nat→Nat):Prop where
 row:Row W g n (fun i=>(f i:Int))
 below:Below B Wb W
 bg:B≤g
 bd:∀ i,i<n→f i<n
section
variable {B:Nat} {Wb W:World} {g n:Nat} {f:Nat→Nat}
theorem St.drewN (x:St B Wb W g n f)(k:Nat):St B Wb (W.drewN k) g n f :=
 ⟨⟨x.row.lt,x.row.c,x.row.fz⟩,⟨x.below.os,x.below.tape,x.below.output,x.below.size,x.below.block⟩,x.bg,x.bd⟩
theorem St.drew (x:St B Wb W g n f):St B Wb W.drew g n f :=
 ⟨⟨x.row.lt,x.row.c,x.row.fz⟩,⟨x.below.os,x.below.tape,x.below.output,x.below.size,x.below.block⟩,x.bg,x.bd⟩
theorem St.swap (x:St B Wb W g n f){i j:Nat}(hi:i<n)(hj:j<n)(ne:i≠j){u v:Int}(hu:u=(f j:Int))(hv:v=(f i:Int)) :
  St B Wb ((W.setCell ⟨g,i,none⟩ (.int .i64 u)).setCell ⟨g,j,none⟩ (.int .i64 v)) g n (sw f i j):=by
 subst hu hv
 refine ⟨row_congr ((x.row.set _ hi).set _ hj) (fun k hk=>?_),(x.below.setCell (by simpa using x.bg) _).setCell (by simpa using x.bg) _,x.bg,fun k hk=>?_⟩
 ·unfold sw
  by_cases c1:k=i
  ·subst c1;simp [ne]
  ·by_cases c2:k=j
   ·subst c2;rw [if_pos rfl,if_neg c1,if_pos rfl]
   ·rw [if_neg c2,if_neg c1,if_neg c1,if_neg c2]
 ·unfold sw
  split
  ·exact x.bd j hj
  ·split
   ·exact x.bd i hi
   ·exact x.bd k hk
theorem St.c1 (x:St B Wb W g n f){i:Nat}(hi:i<n):W.cell? ⟨g,i,none⟩=some (.int .i64 (f i)):=x.row.c i hi
theorem St.f1 (x:St B Wb W g n f){i:Nat}(hi:i<n):W.frozen? ⟨g,i,none⟩=false:=x.row.fz i hi
theorem St.c2 (x:St B Wb W g n f){i j:Nat}(hj:j<n)(ne:i≠j)(v:Value):(W.setCell ⟨g,i,none⟩ v).cell? ⟨g,j,none⟩=some (.int .i64 (f j)):=by
 rw [World.cell?_setCell_other _ _ _ _ (by intro e;simp only [Addr.mk.injEq] at e;omega)];exact x.c1 hj
end

theorem swapRange_go (B g n cap a b m:Nat)(f:Nat→Nat)(Wb w:World)(K:Value)(S:St B Wb w g n f)(h1:a+m≤b)(h2:b+m≤n)(hn:n≤1000000) :
  Calls Tryz.prog 182 #[.slice (some ⟨g,0,none⟩) n cap,.int .i64 a,.int .i64 b,.int .i64 m,K] w fun e w'=>e= .returned (.tuple #[])∧St B Wb w' g n (sr f a b m):=by
 go_enter Tryz.func182,Tryz.ntmps182
 go_wp2
 go_loopw [10] (fun x wr=>∃ k:Nat,k≤m∧x= .int .i64 k∧St B Wb wr g n (sr f a b k)) (fun x _=>m - (intOf x).toNat)
 case atStart=>exact ⟨0,by omega,rfl,by rw [sr_zero];exact S⟩
 case round =>
  clear S
  obtain ⟨k,hk,rfl,X⟩:=hrel
  by_cases hlt:k<m
  ·obtain ⟨p,hp⟩:∃ p,p=a+k:=⟨_,rfl⟩
   obtain ⟨q,hq⟩:∃ q,q=b+k:=⟨_,rfl⟩
   obtain ⟨u,hu⟩:∃ u:Int,u=(sr f a b k q:Int):=⟨_,rfl⟩
   obtain ⟨v,hv⟩:∃ v:Int,v=(sr f a b k p:Int):=⟨_,rfl⟩
   have X2:=X.swap (i:=p) (j:=q) (by omega) (by omega) (by omega) hu hv
   rw [hp,hq,sr_succ f (by omega),← hp,← hq] at X2
   have c1:=X.c1 (i:=p) (by omega)
   have c2:=X.c1 (i:=q) (by omega)
   have c3:=X.c2 (i:=p) (j:=q) (by omega) (by omega) (.int .i64 u)
   have f1:=X.f1 (i:=p) (by omega)
   have f2:=X.f1 (i:=q) (by omega)
   rw [← hv] at c1
   rw [← hu] at c2 c3
   have ep:((a:Int)+(k:Int)).toNat=p:=by omega
   have pp:(0:Int)≤(a:Int)+(k:Int):=by omega
   have bp:(a:Int)+(k:Int)<(n:Int):=by omega
   have rp:IntKind.i64.wrap ((a:Int)+(k:Int))=(a:Int)+(k:Int):=IntWalk.i64_in _ (by omega)
   have eq:((b:Int)+(k:Int)).toNat=q:=by omega
   have pq:(0:Int)≤(b:Int)+(k:Int):=by omega
   have bq:(b:Int)+(k:Int)<(n:Int):=by omega
   have rq:IntKind.i64.wrap ((b:Int)+(k:Int))=(b:Int)+(k:Int):=IntWalk.i64_in _ (by omega)
   clear hu hv hp hq X
   go_wp2_with fail
   go_region
   go_wp2
   go_roundw
   case rel=>exact ⟨k+1,by omega,by go_num,X2.drew⟩
   case measure=>simp [intOf];omega
  ·obtain rfl:k=m:=by omega
   go_wp2
   exact bodyPost_end (v:=.tuple #[]) (by simp [results,Tryz.results182,go_sem]) rfl ⟨rfl,X⟩

end Go.Proofs.YtoilomigceijaaaGreatDoor.Os

namespace Go.Proofs.YtoilomigceijaaaGreatDoor.Os
open Go.RowKit Pr Rk Sm Om

set_option maxHeartbeats 1000000

theorem swapRange_to (B g n cap a b m:Nat)(f f':Nat→Nat)(x y z:Int)(Wb w:World)(K:Value)(S:St B Wb w g n f)(h1:a+m≤b)(h2:b+m≤n)(hn:n≤1000000)(hx:x=(a:Int))(hy:y=(b:Int))(hz:z=(m:Int))(hf:f'=sr f a b m) :
  Calls Tryz.prog 182 #[.slice (some ⟨g,0,none⟩) n cap,.int .i64 x,.int .i64 y,.int .i64 z,K] w fun e w'=>e= .returned (.tuple #[])∧St B Wb w' g n f':=by
 subst hx hy hz hf
 exact swapRange_go B g n cap a b m f Wb w K S h1 h2 hn

theorem rotate_go (B g n cap a m b:Nat)(f:Nat→Nat)(Wb w:World)(K:Value)(S:St B Wb w g n f)(h1:a<m)(h2:m<b)(h3:b≤n)(hn:n≤1000000) :
  Calls Tryz.prog 167 #[.slice (some ⟨g,0,none⟩) n cap,.int .i64 a,.int .i64 m,.int .i64 b,K] w fun e w'=>e= .returned (.tuple #[])∧St B Wb w' g n (rot f a m b):=by
 have k1:IntKind.i64.wrap ((m:Int) - (a:Int))=(m:Int) - (a:Int):=IntWalk.i64_in _ (by omega)
 have k2:IntKind.i64.wrap ((b:Int) - (m:Int))=(b:Int) - (m:Int):=IntWalk.i64_in _ (by omega)
 go_enter Tryz.func167,Tryz.ntmps167
 go_wp2
 go_loopw [10,11] (fun x y wr=>∃ (i j:Nat) (fc:Nat→Nat),0<i∧0<j∧i≤m∧m+j≤n∧x= .int .i64 i∧y= .int .i64 j∧St B Wb wr g n fc∧Hid (rot fc (m - i) m (m+j)=rot f a m b)) (fun x y _=>(intOf x).toNat+(intOf y).toNat)
 case atStart=>exact ⟨m - a,b - m,f,by omega,by omega,by omega,by omega,by congr 1;omega,by congr 1;omega,S,Lib.hid (by congr 1<;>omega)⟩
 case round =>
  clear S k1 k2
  obtain ⟨i,j,fc,i0,j0,im,jn,rfl,rfl,X,H⟩:=hrel
  have q1:IntKind.i64.wrap ((m:Int) - (i:Int))=(m:Int) - (i:Int):=IntWalk.i64_in _ (by omega)
  by_cases c:i=j
  ·subst c
   have cs:=swapRange_to B g n cap (m - i) m i fc (rot f a m b) ((m:Int) - (i:Int)) m i Wb wr K X (by omega) (by omega) hn (by omega) rfl rfl (by rw [← H.out,rot_same fc im])
   clear X H
   go_wp2_with fail
   refine cs.mono ?_
   rintro e w1 ⟨rfl,X⟩
   go_wp2
   exact bodyPost_end (v:=.tuple #[]) (by simp [results,Tryz.results167,go_sem]) rfl ⟨rfl,X⟩
  ·have d1:((i:Int)!=(j:Int))=true:=bne_iff_ne.2 (by omega)
   by_cases c2:j<i
   ·have d2:decide ((j:Int)<(i:Int))=true:=decide_eq_true (by omega)
    have cs:=swapRange_to B g n cap (m - i) m j fc _ ((m:Int) - (i:Int)) m j Wb wr K X (by omega) (by omega) hn (by omega) rfl rfl rfl
    have q2:IntKind.i64.wrap ((i:Int) - (j:Int))=(i:Int) - (j:Int):=IntWalk.i64_in _ (by omega)
    have H2:Hid (rot (sr fc (m - i) m j) (m - (i - j)) m (m+j)=rot f a m b):=Lib.hid (by rw [← H.out,rot_left fc im c2])
    clear X H
    go_wp2_with fail
    refine cs.mono ?_
    rintro e w1 ⟨rfl,X⟩
    go_wp2
    go_roundw
    case rel=>exact ⟨i - j,j,_,by omega,j0,by omega,jn,by congr 1;omega,rfl,X,H2⟩
    case measure=>simp [intOf]<;>omega
   ·have d2:decide ((j:Int)<(i:Int))=false:=decide_eq_false (by omega)
    have cs:=swapRange_to B g n cap (m - i) (m+j - i) i fc _ ((m:Int) - (i:Int)) ((m:Int)+(j:Int) - (i:Int)) i Wb wr K X (by omega) (by omega) hn (by omega) (by omega) rfl rfl
    have q2:IntKind.i64.wrap ((j:Int) - (i:Int))=(j:Int) - (i:Int):=IntWalk.i64_in _ (by omega)
    have q3:IntKind.i64.wrap ((m:Int)+(j:Int))=(m:Int)+(j:Int):=IntWalk.i64_in _ (by omega)
    have q4:IntKind.i64.wrap ((m:Int)+(j:Int) - (i:Int))=(m:Int)+(j:Int) - (i:Int):=IntWalk.i64_in _ (by omega)
    have H2:Hid (rot (sr fc (m - i) (m+j - i) i) (m - i) m (m+(j - i))=rot f a m b):=Lib.hid (by rw [← H.out,rot_right fc im (by omega)])
    clear X H
    go_wp2_with fail
    refine cs.mono ?_
    rintro e w1 ⟨rfl,X⟩
    go_wp2
    go_roundw
    case rel=>exact ⟨i,j - i,_,i0,by omega,im,by omega,rfl,by congr 1;omega,X,H2⟩
    case measure=>simp [intOf]<;>omega

def CmpOk (B n:Nat)(r:Nat→Int)(Wb:World)(K:Nat)(caps:Array Value):Prop :=
 (∀ az w1,Sem.run Tryz.prog (callFunc K az) w1= .ok (.enter K az) w1)∧
 ∀ W,Below B Wb W→∀ x y:Nat,x<n→y<n→∀ k,Calls Tryz.prog K (#[.int .i64 x,.int .i64 y]++caps) (W.drewN k) fun e w'=>e= .returned (.int .i64 (sg (r y) (r x)))∧∃ m,w'=W.drewN m

theorem insertion_go (B g n cap a b K:Nat)(c:Value)(r:Nat→Int)(f:Nat→Nat)(Wb w:World)(HC:CmpOk B n r Wb K #[c])(S:St B Wb w g n f)(asc:Asc f a b)(h1:a<b)(h3:b≤n)(hn:n≤1000000) :
  Calls Tryz.prog 150 #[.slice (some ⟨g,0,none⟩) n cap,.int .i64 a,.int .i64 b,.func (.func K) #[] #[c]] w fun e w'=>e= .returned (.tuple #[])∧∃ f',St B Wb w' g n f'∧Srt r f' a b∧Pm f f' a b:=by
 have hE:=HC.1
 have HK:=Lib.hid HC.2
 have HA:=Lib.hid asc
 have k1:IntKind.i64.wrap ((a:Int)+1)=(a:Int)+1:=IntWalk.i64_in _ (by omega)
 clear HC asc
 go_enter Tryz.func150,Tryz.ntmps150
 go_wp2
 go_loopw [8] (fun x wr=>∃ (i:Nat) (fi:Nat→Nat),a<i∧i≤b∧x= .int .i64 i∧St B Wb wr g n fi∧Hid (Srt r fi a i∧Pm f fi a i)) (fun x _=>b - (intOf x).toNat)
 case atStart=>exact ⟨a+1,f,by omega,by omega,by go_num,S,Lib.hid ⟨fun i j h1 h2 h3=>by omega,Pm.refl _ _ _⟩⟩
 case round =>
  clear S k1
  obtain ⟨i,fi,ai,ib,rfl,X,H⟩:=hrel
  by_cases hlt:i<b
  ·go_wp2
   go_loopw [9] (fun y wr2=>∃ (j:Nat) (fj:Nat→Nat),a≤j∧j≤i∧y= .int .i64 j∧St B Wb wr2 g n fj∧Hid (Ins r f fj a i j)) (fun y _=>(intOf y).toNat)
   case atStart =>
    exact ⟨i,fi,by omega,Nat.le_refl _,rfl,X,Lib.hid (Ins.start H.out.2 H.out.1 (fun q h1 h2=>by
     rw [H.out.2.hi i (Nat.le_refl _)]
     exact H.out.2.all (P:=fun v=>v<f i) (fun p h3 h4=>HA.out p i h3 h4 hlt) q h1 h2))⟩
   case round =>
    clear X H
    obtain ⟨j,fj,aj,ji,rfl,X,H⟩:=hrel
    have k2:IntKind.i64.wrap ((i:Int)+1)=(i:Int)+1:=IntWalk.i64_in _ (by omega)
    by_cases ja:a<j
    ·obtain ⟨k,rfl⟩:∃ k,j=k+1:=⟨j - 1,by omega⟩
     obtain ⟨p,hp⟩:∃ p,p=k+1:=⟨_,rfl⟩
     obtain ⟨u,hu⟩:∃ u:Int,u=(fj k:Int):=⟨_,rfl⟩
     obtain ⟨v,hv⟩:∃ v:Int,v=(fj p:Int):=⟨_,rfl⟩
     obtain ⟨s,hs⟩:∃ s:Int,s=sg (r (fj k)) (r (fj p)):=⟨_,rfl⟩
     have hc:=fun q=>HK.out wr X.below (fj p) (fj k) (X.bd p (by omega)) (X.bd k (by omega)) q
     rw [← hu,← hv,← hs] at hc
     simp only [List.append_toArray,List.cons_append,List.nil_append] at hc
     have c1:=X.c1 (i:=p) (by omega)
     have c2:=X.c1 (i:=k) (by omega)
     rw [← hv] at c1
     rw [← hu] at c2
     have ep:((k:Int)+1).toNat=p:=by omega
     have pp:(0:Int)≤(k:Int)+1:=by omega
     have bp:(k:Int)+1<(n:Int):=by omega
     have rp:IntKind.i64.wrap ((k:Int)+1)=(k:Int)+1:=IntWalk.i64_in _ (by omega)
     have pq:(0:Int)≤(k:Int):=by omega
     have bq:(k:Int)<(n:Int):=by omega
     have rq:IntKind.i64.wrap (k:Int)=(k:Int):=IntWalk.i64_in _ (by omega)
     have d0:decide ((a:Int)<(k:Int)+1)=true:=decide_eq_true (by omega)
     have w0:IntKind.i64.wrap ((k:Int)+1 - 1)=(k:Int):=by rw [show (k:Int)+1 - 1=k by omega];exact rq
     by_cases lt:r (fj k)<r (fj p)
     ·have d1:decide (s<0)=true:=decide_eq_true (by rw [hs];exact sg_neg.2 lt)
      have HX:=Lib.hid X
      have HI:Hid (p=k+1∧u=(fj k:Int)∧v=(fj p:Int)∧r (fj k)<r (fj p)∧Ins r f fj a i (k+1)):=Lib.hid ⟨hp,hu,hv,lt,H.out⟩
      clear X H hp hu hv hs lt
      go_wp2_with fail
      go_quiet ((exact hc _))
      have X2:=HX.out.drewN nq
      clear c1 c2 hc HX
      generalize wr.drewN nq=W2 at X2 ⊢
      obtain ⟨hp,hu,hv,lt,HJ⟩:=HI.out
      have c1:=X2.c1 (i:=p) (by omega)
      have c2:=X2.c1 (i:=k) (by omega)
      have c3:=X2.c2 (i:=p) (j:=k) (by omega) (by omega) (.int .i64 u)
      have f1:=X2.f1 (i:=p) (by omega)
      have f2:=X2.f1 (i:=k) (by omega)
      have X3:=X2.swap (i:=p) (j:=k) (by omega) (by omega) (by omega) hu hv
      rw [← hv] at c1
      rw [← hu] at c2 c3
      clear X2 hp hu hv lt HJ d1
      go_wp2_with fail
      go_region
      go_wp2
      go_roundw
      case rel =>
       obtain ⟨hp,hu,hv,lt,HJ⟩:=HI.out
       exact ⟨k,sw fj p k,by omega,by omega,by go_num,X3.drew,Lib.hid (by subst hp;exact HJ.step (by omega) ji lt)⟩
      case measure=>simp [intOf]<;>omega
     ·have d1:decide (s<0)=false:=decide_eq_false (by rw [hs];exact fun e=>lt (sg_neg.1 e))
      have HX:=Lib.hid X
      have HI:Hid (Srt r fj a (i+1)∧Pm f fj a (i+1)):=Lib.hid ⟨H.out.stop (by omega) ji (fun q e _=>by
       obtain rfl:q=k:=by omega
       rw [← hp];exact lt),H.out.pm⟩
      clear X H hp hu hv hs lt
      go_wp2_with fail
      go_quiet ((exact hc _))
      have X2:=HX.out.drewN nq
      clear c1 c2 hc HX
      generalize wr.drewN nq=W2 at X2 ⊢
      go_wp2
      go_roundw
      case rel=>exact ⟨i+1,fj,by omega,by omega,by go_num,X2,HI⟩
      case measure=>simp [intOf]<;>omega
    ·obtain rfl:j=a:=by omega
     have d0:decide ((j:Int)<(j:Int))=false:=decide_eq_false (by omega)
     have HI:Hid (Srt r fj j (i+1)∧Pm f fj j (i+1)):=Lib.hid ⟨H.out.stop (Nat.le_refl _) ji (fun q e h=>by omega),H.out.pm⟩
     clear H
     go_wp2_with fail
     go_quiet (fail)
     have X2:=X.drewN nq
     clear X
     generalize wr.drewN nq=W2 at X2 ⊢
     go_wp2
     go_roundw
     case rel=>exact ⟨i+1,fj,by omega,by omega,by go_num,X2,HI⟩
     case measure=>simp [intOf]<;>omega
  ·obtain rfl:i=b:=by omega
   go_wp2
   exact bodyPost_end (v:=.tuple #[]) (by simp [results,Tryz.results150,go_sem]) rfl ⟨rfl,fi,X,H.out.1,H.out.2⟩

end Go.Proofs.YtoilomigceijaaaGreatDoor.Os

namespace Go.Proofs.YtoilomigceijaaaGreatDoor.Os
open Go.RowKit Pr Rk Sm Om

set_option maxHeartbeats 1000000

def Merged (B:Nat)(Wb:World)(g n:Nat)(r:Nat→Int)(f:Nat→Nat)(a b:Nat)(e:Ending)(w':World):Prop :=
 e= .returned (.tuple #[])∧∃ f',St B Wb w' g n f'∧Srt r f' a b∧Pm f f' a b

set_option maxRecDepth 100000 in
theorem sym_left (B g n cap a m b K:Nat)(c:Value)(r:Nat→Int)(f:Nat→Nat)(Wb w:World)(HC:CmpOk B n r Wb K #[c])(S:St B Wb w g n f)(sr:Srt r f m b)(lo:Lo f a m b)(h1:m=a+1)(h2:m<b)(h3:b≤n)(hn:n≤1000000) :
  Calls Tryz.prog 151 #[.slice (some ⟨g,0,none⟩) n cap,.int .i64 a,.int .i64 m,.int .i64 b,.func (.func K) #[] #[c]] w (Merged B Wb g n r f a b):=by
 have hE:=HC.1
 have HK:=Lib.hid HC.2
 have HL:=Lib.hid lo
 have HS:=Lib.hid sr
 have t1:((m:Int) - (a:Int)==1)=true:=beq_iff_eq.2 (by omega)
 have HM:=Lib.hid h1
 have m0:a+1≤m:=by omega
 have m1:m≤a+1:=by omega
 clear HC lo sr h1
 go_enter Tryz.func151,Tryz.ntmps151
 go_wp2
 go_loopw [10,11] (fun x y wr=>∃ (i j:Nat),m≤i∧i≤j∧j≤b∧x= .int .i64 i∧y= .int .i64 j∧St B Wb wr g n f∧Hid ((m<i→Ahead r (f (i - 1)) (f a))∧(j<b→Ahead r (f a) (f j)))) (fun x y _=>(intOf y).toNat - (intOf x).toNat)
 case atStart=>exact ⟨m,b,by omega,by omega,by omega,rfl,rfl,S,Lib.hid ⟨fun h=>by omega,fun h=>by omega⟩⟩
 case round =>
  clear S t1
  obtain ⟨i,j,mi,ij,jb,rfl,rfl,X,H⟩:=hrel
  by_cases c1:i<j
  ·obtain ⟨h,hh⟩:∃ h:Nat,((i:Int)+(j:Int)) / 2=(h:Int):=⟨(i+j) / 2,by omega⟩
   have h0:i≤h:=by omega
   have h1:h<j:=by omega
   obtain ⟨u,hu⟩:∃ u:Int,u=(f h:Int):=⟨_,rfl⟩
   obtain ⟨v,hv⟩:∃ v:Int,v=(f a:Int):=⟨_,rfl⟩
   obtain ⟨s,hs⟩:∃ s:Int,s=sg (r (f a)) (r (f h)):=⟨_,rfl⟩
   have hc:=fun q=>HK.out wr X.below (f h) (f a) (X.bd h (by omega)) (X.bd a (by omega)) q
   rw [← hu,← hv,← hs] at hc
   simp only [List.append_toArray,List.cons_append,List.nil_append] at hc
   have k1:=X.c1 (i:=h) (by omega)
   have k2:=X.c1 (i:=a) (by omega)
   rw [← hu] at k1
   rw [← hv] at k2
   have pp:(0:Int)≤(h:Int):=by omega
   have bp:(h:Int)<(n:Int):=by omega
   have pq:(0:Int)≤(a:Int):=by omega
   have bq:(a:Int)<(n:Int):=by omega
   have fl:=HL.out a h (Nat.le_refl _) (by omega) (by omega) (by omega)
   by_cases lt:r (f a)<r (f h)
   ·have d1:decide (s<0)=true:=decide_eq_true (by rw [hs];exact sg_neg.2 lt)
    have HX:=Lib.hid X
    have HI:Hid ((m<h+1→Ahead r (f (h+1 - 1)) (f a))∧(j<b→Ahead r (f a) (f j))):=Lib.hid ⟨fun _=>(ahead_lt fl).2 lt,H.out.2⟩
    have HH:=Lib.hid hh
    clear X H hu hv hs lt fl
    go_wp2_with fail
    go_quiet ((exact hc _))
    have X2:=HX.out.drewN nq
    clear k1 k2 hc HX hh
    generalize wr.drewN nq=W2 at X2 ⊢
    go_wp2
    go_roundw
    case rel=>exact ⟨h+1,j,by omega,by omega,by omega,by go_num,rfl,X2,HI⟩
    case measure=>simp [intOf]<;>omega
   ·have d1:decide (s<0)=false:=decide_eq_false (by rw [hs];exact fun e=>lt (sg_neg.1 e))
    have HX:=Lib.hid X
    have HI:Hid ((m<i→Ahead r (f (i - 1)) (f a))∧(h<b→Ahead r (f a) (f h))):=Lib.hid ⟨H.out.1,fun _=>ahead_ge fl lt⟩
    clear X H hu hv hs lt fl
    go_wp2_with fail
    go_quiet ((exact hc _))
    have X2:=HX.out.drewN nq
    clear k1 k2 hc HX hh
    generalize wr.drewN nq=W2 at X2 ⊢
    go_wp2
    go_roundw
    case rel=>exact ⟨i,h,by omega,by omega,by omega,rfl,rfl,X2,HI⟩
    case measure=>simp [intOf]<;>omega
  ·obtain rfl:i=j:=by omega
   have ol:=one_left (r:=r) (f:=f) (a:=a) (i:=i) (b:=b) (by rw [← HM.out];exact HS.out) (by omega) jb (by rw [← HM.out];exact H.out.1) H.out.2
   have HO:=Lib.hid ol
   have q1:IntKind.i64.wrap ((i:Int) - 1)=(i:Int) - 1:=IntWalk.i64_in _ (by omega)
   clear ol H
   go_wp2
   go_loopw [13] (fun x wr=>∃ (k:Nat) (fk:Nat→Nat),a≤k∧k+1≤i∧x= .int .i64 k∧St B Wb wr g n fk∧Hid (fk=rot f a (a+1) (k+1))) (fun x _=>i - (intOf x).toNat)
   case atStart=>exact ⟨a,f,by omega,by omega,rfl,X,Lib.hid (rot_none_r f (by omega)).symm⟩
   case round =>
    clear X
    obtain ⟨k,fk,ak,ki,rfl,X,H⟩:=hrel
    by_cases c2:k+1<i
    ·obtain ⟨p,hp⟩:∃ p,p=k+1:=⟨_,rfl⟩
     obtain ⟨u,hu⟩:∃ u:Int,u=(fk p:Int):=⟨_,rfl⟩
     obtain ⟨v,hv⟩:∃ v:Int,v=(fk k:Int):=⟨_,rfl⟩
     have k1:=X.c1 (i:=k) (by omega)
     have k2:=X.c1 (i:=p) (by omega)
     have k3:=X.c2 (i:=k) (j:=p) (by omega) (by omega) (.int .i64 u)
     have f1:=X.f1 (i:=k) (by omega)
     have f2:=X.f1 (i:=p) (by omega)
     have X3:=X.swap (i:=k) (j:=p) (by omega) (by omega) (by omega) hu hv
     rw [← hv] at k1
     rw [← hu] at k2 k3
     have ep:((k:Int)+1).toNat=p:=by omega
     have pp:(0:Int)≤(k:Int)+1:=by omega
     have bp:(k:Int)+1<(n:Int):=by omega
     have rp:IntKind.i64.wrap ((k:Int)+1)=(k:Int)+1:=IntWalk.i64_in _ (by omega)
     have pq:(0:Int)≤(k:Int):=by omega
     have bq:(k:Int)<(n:Int):=by omega
     have HI:Hid (sw fk k p=rot f a (a+1) (k+1+1)):=Lib.hid (by rw [hp,H.out];exact rot_one_l f ak)
     have d1:decide ((k:Int)<(i:Int) - 1)=true:=decide_eq_true (by omega)
     clear X hu hv hp H
     go_wp2_with fail
     go_region
     go_wp2
     go_roundw
     case rel=>exact ⟨k+1,_,by omega,by omega,by go_num,X3.drew,HI⟩
     case measure=>simp [intOf]<;>omega
    ·obtain rfl:i=k+1:=by omega
     have d1:decide ((k:Int)<(k:Int)+1 - 1)=false:=decide_eq_false (by omega)
     have e2:=H.out
     have Y:∃ f',St B Wb wr g n f'∧Srt r f' a b∧Pm f f' a b:=⟨fk,X,by rw [e2];exact HO.out.1,by rw [e2];exact HO.out.2⟩
     have HY:=Lib.hid Y
     clear X H e2 HO Y
     go_wp2
     exact bodyPost_ret (v:=.tuple #[]) (by simp [results,Tryz.results151,go_sem]) rfl ⟨rfl,HY.out⟩

end Go.Proofs.YtoilomigceijaaaGreatDoor.Os

namespace Go.Proofs.YtoilomigceijaaaGreatDoor.Os
open Go.RowKit Pr Rk Sm Om

set_option maxHeartbeats 1000000

set_option maxRecDepth 100000 in
theorem sym_right (B g n cap a m b K:Nat)(c:Value)(r:Nat→Int)(f:Nat→Nat)(Wb w:World)(HC:CmpOk B n r Wb K #[c])(S:St B Wb w g n f)(sl:Srt r f a m)(lo:Lo f a m b)(h1:a+1<m)(h2:b=m+1)(h3:b≤n)(hn:n≤1000000) :
  Calls Tryz.prog 151 #[.slice (some ⟨g,0,none⟩) n cap,.int .i64 a,.int .i64 m,.int .i64 b,.func (.func K) #[] #[c]] w (Merged B Wb g n r f a b):=by
 have hE:=HC.1
 have HK:=Lib.hid HC.2
 have HL:=Lib.hid lo
 have HS:=Lib.hid sl
 have t1:((m:Int) - (a:Int)==1)=false:=beq_eq_false_iff_ne.2 (by omega)
 have t2:((b:Int) - (m:Int)==1)=true:=beq_iff_eq.2 (by omega)
 have HM:=Lib.hid h2
 have m0:m+1≤b:=by omega
 have m1:b≤m+1:=by omega
 clear HC lo sl h2
 go_enter Tryz.func151,Tryz.ntmps151
 go_wp2
 go_loopw [14,15] (fun x y wr=>∃ (i j:Nat),a≤i∧i≤j∧j≤m∧x= .int .i64 i∧y= .int .i64 j∧St B Wb wr g n f∧Hid ((a<i→Ahead r (f (i - 1)) (f m))∧(j<m→Ahead r (f m) (f j)))) (fun x y _=>(intOf y).toNat - (intOf x).toNat)
 case atStart=>exact ⟨a,m,by omega,by omega,by omega,rfl,rfl,S,Lib.hid ⟨fun h=>by omega,fun h=>by omega⟩⟩
 case round =>
  clear S t1 t2
  obtain ⟨i,j,mi,ij,jb,rfl,rfl,X,H⟩:=hrel
  by_cases c1:i<j
  ·obtain ⟨h,hh⟩:∃ h:Nat,((i:Int)+(j:Int)) / 2=(h:Int):=⟨(i+j) / 2,by omega⟩
   have h0:i≤h:=by omega
   have h1:h<j:=by omega
   obtain ⟨u,hu⟩:∃ u:Int,u=(f m:Int):=⟨_,rfl⟩
   obtain ⟨v,hv⟩:∃ v:Int,v=(f h:Int):=⟨_,rfl⟩
   obtain ⟨s,hs⟩:∃ s:Int,s=sg (r (f h)) (r (f m)):=⟨_,rfl⟩
   have hc:=fun q=>HK.out wr X.below (f m) (f h) (X.bd m (by omega)) (X.bd h (by omega)) q
   rw [← hu,← hv,← hs] at hc
   simp only [List.append_toArray,List.cons_append,List.nil_append] at hc
   have k1:=X.c1 (i:=m) (by omega)
   have k2:=X.c1 (i:=h) (by omega)
   rw [← hu] at k1
   rw [← hv] at k2
   have pp:(0:Int)≤(m:Int):=by omega
   have bp:(m:Int)<(n:Int):=by omega
   have pq:(0:Int)≤(h:Int):=by omega
   have bq:(h:Int)<(n:Int):=by omega
   have fl:=HL.out h m (by omega) (by omega) (by omega) (by omega)
   by_cases lt:r (f h)<r (f m)
   ·have d1:decide (s<0)=true:=decide_eq_true (by rw [hs];exact sg_neg.2 lt)
    have HX:=Lib.hid X
    have HI:Hid ((a<i→Ahead r (f (i - 1)) (f m))∧(h<m→Ahead r (f m) (f h))):=Lib.hid ⟨H.out.1,fun _=>(ahead_lt fl).2 lt⟩
    clear X H hu hv hs lt fl
    go_wp2_with fail
    go_quiet ((exact hc _))
    have X2:=HX.out.drewN nq
    clear k1 k2 hc HX hh
    generalize wr.drewN nq=W2 at X2 ⊢
    go_wp2
    go_roundw
    case rel=>exact ⟨i,h,by omega,by omega,by omega,rfl,rfl,X2,HI⟩
    case measure=>simp [intOf]<;>omega
   ·have d1:decide (s<0)=false:=decide_eq_false (by rw [hs];exact fun e=>lt (sg_neg.1 e))
    have HX:=Lib.hid X
    have HI:Hid ((a<h+1→Ahead r (f (h+1 - 1)) (f m))∧(j<m→Ahead r (f m) (f j))):=Lib.hid ⟨fun _=>ahead_ge fl lt,H.out.2⟩
    clear X H hu hv hs lt fl
    go_wp2_with fail
    go_quiet ((exact hc _))
    have X2:=HX.out.drewN nq
    clear k1 k2 hc HX hh
    generalize wr.drewN nq=W2 at X2 ⊢
    go_wp2
    go_roundw
    case rel=>exact ⟨h+1,j,by omega,by omega,by omega,by go_num,rfl,X2,HI⟩
    case measure=>simp [intOf]<;>omega
  ·obtain rfl:i=j:=by omega
   have ol:=one_right (r:=r) (f:=f) (a:=a) (i:=i) (m:=m) HS.out mi jb H.out.1 H.out.2
   have HO:=Lib.hid ol
   clear ol H
   go_wp2
   go_loopw [17] (fun x wr=>∃ (k:Nat) (fk:Nat→Nat),i≤k∧k≤m∧x= .int .i64 k∧St B Wb wr g n fk∧Hid (fk=rot f k m (m+1))) (fun x _=>(intOf x).toNat)
   case atStart=>exact ⟨m,f,by omega,by omega,rfl,X,Lib.hid (rot_none_l f (by omega)).symm⟩
   case round =>
    clear X
    obtain ⟨k0,fk,ak,ki,rfl,X,H⟩:=hrel
    by_cases c2:i<k0
    ·obtain ⟨k,rfl⟩:∃ k,k0=k+1:=⟨k0 - 1,by omega⟩
     obtain ⟨p,hp⟩:∃ p,p=k+1:=⟨_,rfl⟩
     obtain ⟨u,hu⟩:∃ u:Int,u=(fk k:Int):=⟨_,rfl⟩
     obtain ⟨v,hv⟩:∃ v:Int,v=(fk p:Int):=⟨_,rfl⟩
     have k1:=X.c1 (i:=p) (by omega)
     have k2:=X.c1 (i:=k) (by omega)
     have k3:=X.c2 (i:=p) (j:=k) (by omega) (by omega) (.int .i64 u)
     have f1:=X.f1 (i:=p) (by omega)
     have f2:=X.f1 (i:=k) (by omega)
     have X3:=X.swap (i:=p) (j:=k) (by omega) (by omega) (by omega) hu hv
     rw [← hv] at k1
     rw [← hu] at k2 k3
     have ep:((k:Int)+1).toNat=p:=by omega
     have pp:(0:Int)≤(k:Int)+1:=by omega
     have bp:(k:Int)+1<(n:Int):=by omega
     have rp:IntKind.i64.wrap ((k:Int)+1)=(k:Int)+1:=IntWalk.i64_in _ (by omega)
     have pq:(0:Int)≤(k:Int):=by omega
     have bq:(k:Int)<(n:Int):=by omega
     have rq:IntKind.i64.wrap (k:Int)=(k:Int):=IntWalk.i64_in _ (by omega)
     have w0:IntKind.i64.wrap ((k:Int)+1 - 1)=(k:Int):=by rw [show (k:Int)+1 - 1=k by omega];exact rq
     have HI:Hid (sw fk p k=rot f k m (m+1)):=Lib.hid (by rw [hp,H.out];exact rot_one_r f ki)
     have d1:decide ((i:Int)<(k:Int)+1)=true:=decide_eq_true (by omega)
     clear X hu hv hp H
     go_wp2_with fail
     go_region
     go_wp2
     go_roundw
     case rel=>exact ⟨k,_,by omega,by omega,by go_num,X3.drew,HI⟩
     case measure=>simp [intOf]<;>omega
    ·obtain rfl:k0=i:=by omega
     have d1:decide ((k0:Int)<(k0:Int))=false:=decide_eq_false (by omega)
     have e2:=H.out
     have Y:∃ f',St B Wb wr g n f'∧Srt r f' a b∧Pm f f' a b:=⟨fk,X,by rw [e2,HM.out];exact HO.out.1,by rw [e2,HM.out];exact HO.out.2⟩
     have HY:=Lib.hid Y
     clear X H e2 HO Y
     go_wp2
     exact bodyPost_ret (v:=.tuple #[]) (by simp [results,Tryz.results151,go_sem]) rfl ⟨rfl,HY.out⟩

end Go.Proofs.YtoilomigceijaaaGreatDoor.Os

namespace Go.Proofs.YtoilomigceijaaaGreatDoor.Os
open Go.RowKit Pr Rk Sm Om

set_option maxHeartbeats 2000000

theorem rotate_to (B g n cap a m b:Nat)(f f':Nat→Nat)(Wb w:World)(K:Value)(S:St B Wb w g n f)(h1:a<m)(h2:m<b)(h3:b≤n)(hn:n≤1000000)(hf:f'=rot f a m b) :
  Calls Tryz.prog 167 #[.slice (some ⟨g,0,none⟩) n cap,.int .i64 a,.int .i64 m,.int .i64 b,K] w fun e w'=>e= .returned (.tuple #[])∧St B Wb w' g n f':=by
 subst hf
 exact rotate_go B g n cap a m b f Wb w K S h1 h2 h3 hn

structure Turned (r:Nat→Int) (f f1:Nat→Nat) (a s c e b:Nat):Prop where
 pm:Pm f f1 a b
 l1:Srt r f1 a s
 l2:Srt r f1 s c
 l3:Lo f1 a s c
 r1:Srt r f1 c e
 r2:Srt r f1 e b
 r3:Lo f1 c e b
 x:∀ p q,a≤p→p<c→c≤q→q<b→Ahead r (f1 p) (f1 q)

theorem turned {r:Nat→Int}{f:Nat→Nat}{a s m e b c:Nat}(sl:Srt r f a m)(sr:Srt r f m b)(lo:Lo f a m b)(h0:a≤s)(h1:s≤m)(h2:m≤e)(h3:e≤b)(hc:c=s+(e - m))
  (hA:a<s→e<b→Ahead r (f (s - 1)) (f e)) (hB:s<m→m<e→Ahead r (f (e - 1)) (f s)):Turned r f (rot f s m e) a s c e b:=by
 subst hc
 obtain ⟨q1,q2,q3,q4,q5,q6⟩:=rot_parts sl sr lo h0 h1 h2 h3
 exact ⟨(rot_pm f h1 h2).mono h0 h3,q1,q2,q3,q4,q5,q6,cross sl sr h0 h1 h2 h3 hA hB⟩

theorem Turned.done {B:Nat}{Wb w:World}{g n:Nat}{r:Nat→Int}{f f1 f2 f3:Nat→Nat}{a s c e b:Nat}(T:Turned r f f1 a s c e b)(ac:a≤c)(cb:c≤b)(S:St B Wb w g n f3)
  (s2:Srt r f2 a c) (p2:Pm f1 f2 a c) (s3:Srt r f3 c b) (p3:Pm f2 f3 c b):∃ f',St B Wb w g n f'∧Srt r f' a b∧Pm f f' a b :=
 ⟨f3,S,(halves ac cb T.pm p2 p3 s2 s3 T.x).1,(halves ac cb T.pm p2 p3 s2 s3 T.x).2⟩
theorem Turned.right {r:Nat→Int}{f f1 f2:Nat→Nat}{a s c e b:Nat}(T:Turned r f f1 a s c e b)(p2:Pm f1 f2 a c)(ce:c≤e):Srt r f2 c e∧Srt r f2 e b∧Lo f2 c e b :=
 ⟨fun i j x y z=>by rw [p2.hi i x,p2.hi j (by omega)];exact T.r1 i j x y z,fun i j x y z=>by rw [p2.hi i (by omega),p2.hi j (by omega)];exact T.r2 i j x y z,
  fun i j x y z t=>by rw [p2.hi i x,p2.hi j (by omega)];exact T.r3 i j x y z t⟩

def SymOk (B g n cap K:Nat)(c:Value)(r:Nat→Int)(Wb:World)(d:Nat):Prop :=
 ∀ (a m b:Nat) (f:Nat→Nat) (w:World),b - a≤d→St B Wb w g n f→Srt r f a m→Srt r f m b→Lo f a m b→a<m→m<b→b≤n→
  Calls Tryz.prog 151 #[.slice (some ⟨g,0,none⟩) n cap,.int .i64 a,.int .i64 m,.int .i64 b,.func (.func K) #[] #[c]] w (Merged B Wb g n r f a b)

set_option maxRecDepth 100000 in
theorem sym_step (B g n cap a m b K d:Nat)(c:Value)(r:Nat→Int)(f:Nat→Nat)(Wb w:World)(HC:CmpOk B n r Wb K #[c])(ih:SymOk B g n cap K c r Wb d)(hd:b - a≤d+1)(S:St B Wb w g n f)(sl:Srt r f a m)(sr:Srt r f m b)(lo:Lo f a m b)(h1:a+1<m)(h2:m+1<b)(h3:b≤n)(hn:n≤1000000) :
  Calls Tryz.prog 151 #[.slice (some ⟨g,0,none⟩) n cap,.int .i64 a,.int .i64 m,.int .i64 b,.func (.func K) #[] #[c]] w (Merged B Wb g n r f a b):=by
 have hE:=HC.1
 have HK:=Lib.hid HC.2
 have HL:=Lib.hid (And.intro sl (And.intro sr lo))
 have IH:=Lib.hid ih
 have t1:((m:Int) - (a:Int)==1)=false:=beq_eq_false_iff_ne.2 (by omega)
 have t2:((b:Int) - (m:Int)==1)=false:=beq_eq_false_iff_ne.2 (by omega)
 obtain ⟨z,hz⟩:∃ z:Nat,((a:Int)+(b:Int)) / 2=(z:Int):=⟨(a+b) / 2,by omega⟩
 have z0:a<z:=by omega
 have z1:z<b:=by omega
 have z2:a+b≤z+z+1:=by omega
 have z3:z+z≤a+b:=by omega
 clear HC ih sl sr lo
 by_cases zm:z<m
 all_goals
  go_enter Tryz.func151,Tryz.ntmps151
  go_wp2
  go_loopw [20,21] (fun x y wr=>∃ (s t:Nat),a≤s∧s≤t∧t≤m∧t≤z∧z+m≤b+s∧x= .int .i64 s∧y= .int .i64 t∧St B Wb wr g n f∧
   Hid ((a<s→z+m<b+s→Ahead r (f (s - 1)) (f (z+m - s)))∧(t<m→t<z→Ahead r (f (z+m - 1 - t)) (f t)))) (fun x y _=>(intOf y).toNat - (intOf x).toNat)
  case atStart =>
   first
   | exact ⟨z+m - b,z,by omega,by omega,by omega,by omega,by omega,by congr 1;omega,by congr 1,S,Lib.hid ⟨fun _ _=>by omega,fun _ _=>by omega⟩⟩
   | exact ⟨a,m,by omega,by omega,by omega,by omega,by omega,by congr 1,by congr 1,S,Lib.hid ⟨fun _ _=>by omega,fun _ _=>by omega⟩⟩
  case round =>
   clear S t1 t2
   obtain ⟨s,t,a0,st,tm,tz,zb,rfl,rfl,X,H⟩:=hrel
   by_cases c1:s<t
   ·obtain ⟨h,hh⟩:∃ h:Nat,((s:Int)+(t:Int)) / 2=(h:Int):=⟨(s+t) / 2,by omega⟩
    have h0:s≤h:=by omega
    have h1':h<t:=by omega
    obtain ⟨e,he⟩:∃ e:Nat,e=z+m - 1 - h:=⟨_,rfl⟩
    obtain ⟨u,hu⟩:∃ u:Int,u=(f e:Int):=⟨_,rfl⟩
    obtain ⟨v,hv⟩:∃ v:Int,v=(f h:Int):=⟨_,rfl⟩
    obtain ⟨q,hq⟩:∃ q:Int,q=sg (r (f h)) (r (f e)):=⟨_,rfl⟩
    have hc:=fun q=>HK.out wr X.below (f e) (f h) (X.bd e (by omega)) (X.bd h (by omega)) q
    rw [← hu,← hv,← hq] at hc
    simp only [List.append_toArray,List.cons_append,List.nil_append] at hc
    have k1:=X.c1 (i:=e) (by omega)
    have k2:=X.c1 (i:=h) (by omega)
    rw [← hu] at k1
    rw [← hv] at k2
    have pp:(0:Int)≤(z:Int)+(m:Int) - 1 - (h:Int):=by omega
    have bp:(z:Int)+(m:Int) - 1 - (h:Int)<(n:Int):=by omega
    have ep:((z:Int)+(m:Int) - 1 - (h:Int)).toNat=e:=by omega
    have rp:IntKind.i64.wrap ((z:Int)+(m:Int) - 1 - (h:Int))=(z:Int)+(m:Int) - 1 - (h:Int):=IntWalk.i64_in _ (by omega)
    have pq:(0:Int)≤(h:Int):=by omega
    have bq:(h:Int)<(n:Int):=by omega
    have fl:=HL.out.2.2 h e (by omega) (by omega) (by omega) (by omega)
    by_cases lt:r (f h)<r (f e)
    ·have d1:decide (q<0)=true:=decide_eq_true (by rw [hq];exact sg_neg.2 lt)
     have HX:=Lib.hid X
     have HI:Hid ((a<s→z+m<b+s→Ahead r (f (s - 1)) (f (z+m - s)))∧(h<m→h<z→Ahead r (f (z+m - 1 - h)) (f h))):=Lib.hid ⟨H.out.1,fun _ _=>by rw [← he];exact (ahead_lt fl).2 lt⟩
     clear X H hu hv hq lt fl he
     go_wp2_with fail
     go_quiet ((exact hc _))
     have X2:=HX.out.drewN nq
     clear k1 k2 hc HX hh ep
     generalize wr.drewN nq=W2 at X2 ⊢
     go_wp2
     go_roundw
     case rel=>exact ⟨s,h,by omega,by omega,by omega,by omega,by omega,rfl,rfl,X2,HI⟩
     case measure=>simp [intOf]<;>omega
    ·have d1:decide (q<0)=false:=decide_eq_false (by rw [hq];exact fun e=>lt (sg_neg.1 e))
     have HX:=Lib.hid X
     have HI:Hid ((a<h+1→z+m<b+(h+1)→Ahead r (f (h+1 - 1)) (f (z+m - (h+1))))∧(t<m→t<z→Ahead r (f (z+m - 1 - t)) (f t))):=Lib.hid ⟨fun _ _=>by
      rw [show z+m - (h+1)=e by omega];exact ahead_ge fl lt,H.out.2⟩
     clear X H hu hv hq lt fl he
     go_wp2_with fail
     go_quiet ((exact hc _))
     have X2:=HX.out.drewN nq
     clear k1 k2 hc HX hh ep
     generalize wr.drewN nq=W2 at X2 ⊢
     go_wp2
     go_roundw
     case rel=>exact ⟨h+1,t,by omega,by omega,by omega,by omega,by omega,by go_num,rfl,X2,HI⟩
     case measure=>simp [intOf]<;>omega
   ·obtain rfl:s=t:=by omega
    obtain ⟨e,he⟩:∃ e:Nat,(z:Int)+(m:Int) - (s:Int)=(e:Int):=⟨z+m - s,by omega⟩
    have T:=turned HL.out.1 HL.out.2.1 HL.out.2.2 (s:=s) (e:=e) (c:=z) a0 tm (by omega) (by omega) (by omega) (fun x y=>by rw [show e=z+m - s by omega];exact H.out.1 x (by omega)) (fun x y=>by rw [show e - 1=z+m - 1 - s by omega];exact H.out.2 x (by omega))
    obtain ⟨f1,hf1⟩:∃ f1,f1=rot f s m e:=⟨_,rfl⟩
    rw [← hf1] at T
    have HT:=Lib.hid T
    clear T H c1
    have O:(s=m∧m<z∧e=z)∨(s=m∧z=m∧e=z)∨(s<m∧s=z∧e=m)∨(s<m∧s<z∧m<e∧z<e∧((a<s∧e<b)∨(a<s∧e=b)∨(s=a∧e<b)∨(s=a∧e=b))):=by omega
    rcases O with ⟨o1,o2,o3⟩|⟨o1,o2,o3⟩|⟨o1,o2,o3⟩|⟨o1,o2,o3,o4,O⟩
    ·first
     | (exfalso;omega)
     | (have e1:f1=f:=by rw [hf1,o1];exact rot_none_l f (by omega)
        have X1:St B Wb wr g n f1:=by rw [e1];exact X
        have q1:m≤s:=by omega
        have q2:e≤z:=by omega
        have q3:a<s:=by omega
        have q4:s<z:=by omega
        clear o1 o2 o3 e1 X hf1
        go_wp2_with fail
        refine (IH.out a s z f1 _ (by omega) X1 HT.out.l1 HT.out.l2 HT.out.l3 q3 q4 (by omega)).mono ?_
        rintro e' w2 ⟨rfl,f2,X2,s2,p2⟩
        have R:=HT.out.right p2 (by omega)
        have HY:=Lib.hid (HT.out.done (by omega) (by omega) X2 s2 p2 (fun i j h1 h2 h3=>R.2.1 i j (by omega) h2 h3) (Pm.refl _ _ _))
        clear R s2 p2 X2 X1
        go_wp2
        exact bodyPost_end (v:=.tuple #[]) (by simp [results,Tryz.results151,go_sem]) rfl ⟨rfl,HY.out⟩)
    ·first
     | (exfalso;omega)
     | (have e1:f1=f:=by rw [hf1,o1];exact rot_none_l f (by omega)
        have X1:St B Wb wr g n f1:=by rw [e1];exact X
        have q1:m≤s:=by omega
        have q2:e≤z:=by omega
        have q3:a<s:=by omega
        have q4:z≤s:=by omega
        have HY:=Lib.hid (HT.out.done (f2:=f1) (by omega) (by omega) X1 (fun i j h1 h2 h3=>HT.out.l1 i j h1 h2 (by omega)) (Pm.refl _ _ _) (fun i j h1 h2 h3=>HT.out.r2 i j (by omega) h2 h3) (Pm.refl _ _ _))
        clear o1 o2 o3 e1 X X1 hf1
        go_wp2
        exact bodyPost_end (v:=.tuple #[]) (by simp [results,Tryz.results151,go_sem]) rfl ⟨rfl,HY.out⟩)
    ·first
     | (exfalso;omega)
     | (have e1:f1=f:=by rw [hf1,o3];exact rot_none_r f (by omega)
        have X1:St B Wb wr g n f1:=by rw [e1];exact X
        have q1:e≤m:=by omega
        have q2:z<e:=by omega
        have q3:a<s:=by omega
        have q4:z≤s:=by omega
        have q5:e<b:=by omega
        clear o2 o3 e1 X hf1
        go_wp2_with fail
        refine (IH.out z e b f1 _ (by omega) X1 HT.out.r1 HT.out.r2 HT.out.r3 q2 q5 (by omega)).mono ?_
        rintro e' w2 ⟨rfl,f2,X2,s2,p2⟩
        have HY:=Lib.hid (HT.out.done (f2:=f1) (by omega) (by omega) X2 (fun i j h1 h2 h3=>HT.out.l1 i j h1 h2 (by omega)) (Pm.refl _ _ _) s2 p2)
        clear s2 p2 X2 X1
        go_wp2
        exact bodyPost_end (v:=.tuple #[]) (by simp [results,Tryz.results151,go_sem]) rfl ⟨rfl,HY.out⟩)
    ·have HF:=Lib.hid hf1
     clear hf1
     go_wp2_with fail
     refine (rotate_to B g n cap s m e f f1 Wb _ _ X o1 o3 (by omega) hn HF.out).mono ?_
     rintro e' w1 ⟨rfl,X1⟩
     clear X
     rcases O with ⟨q1,q2⟩|⟨q1,q2⟩|⟨q1,q2⟩|⟨q1,q2⟩
     ·go_wp2_with fail
      refine (IH.out a s z f1 _ (by omega) X1 HT.out.l1 HT.out.l2 HT.out.l3 q1 o2 (by omega)).mono ?_
      rintro e' w2 ⟨rfl,f2,X2,s2,p2⟩
      have R:=HT.out.right p2 (by omega)
      have HR:=Lib.hid (And.intro R (And.intro s2 p2))
      clear R s2 p2 X1
      go_wp2_with fail
      refine (IH.out z e b f2 _ (by omega) X2 HR.out.1.1 HR.out.1.2.1 HR.out.1.2.2 o4 q2 (by omega)).mono ?_
      rintro e' w3 ⟨rfl,f3,X3,s3,p3⟩
      have HY:=Lib.hid (HT.out.done (by omega) (by omega) X3 HR.out.2.1 HR.out.2.2 s3 p3)
      clear s3 p3 X2 X3
      go_wp2
      exact bodyPost_end (v:=.tuple #[]) (by simp [results,Tryz.results151,go_sem]) rfl ⟨rfl,HY.out⟩
     ·first
      | (exfalso;omega)
      | (have q3:b≤e:=by omega
         have Q2:=Lib.hid q2
         clear q2
         go_wp2_with fail
         refine (IH.out a s z f1 _ (by omega) X1 HT.out.l1 HT.out.l2 HT.out.l3 q1 o2 (by omega)).mono ?_
         rintro e' w2 ⟨rfl,f2,X2,s2,p2⟩
         have R:=HT.out.right p2 (by omega)
         have HY:=Lib.hid (HT.out.done (by omega) (by omega) X2 s2 p2 (fun i j h1 h2 h3=>R.1 i j h1 h2 (by omega)) (Pm.refl _ _ _))
         clear R s2 p2 X1 X2
         go_wp2
         exact bodyPost_end (v:=.tuple #[]) (by simp [results,Tryz.results151,go_sem]) rfl ⟨rfl,HY.out⟩)
     ·first
      | (exfalso;omega)
      | (have q3:s≤a:=by omega
         clear q1
         go_wp2_with fail
         refine (IH.out z e b f1 _ (by omega) X1 HT.out.r1 HT.out.r2 HT.out.r3 o4 q2 (by omega)).mono ?_
         rintro e' w2 ⟨rfl,f2,X2,s2,p2⟩
         have HY:=Lib.hid (HT.out.done (f2:=f1) (by omega) (by omega) X2 (fun i j h1 h2 h3=>HT.out.l2 i j (by omega) h2 h3) (Pm.refl _ _ _) s2 p2)
         clear s2 p2 X1 X2
         go_wp2
         exact bodyPost_end (v:=.tuple #[]) (by simp [results,Tryz.results151,go_sem]) rfl ⟨rfl,HY.out⟩)
     ·have q3:s≤a:=by omega
      have q4:b≤e:=by omega
      have HY:=Lib.hid (HT.out.done (f2:=f1) (by omega) (by omega) X1 (fun i j h1 h2 h3=>HT.out.l2 i j (by omega) h2 h3) (Pm.refl _ _ _) (fun i j h1 h2 h3=>HT.out.r1 i j h1 h2 (by omega)) (Pm.refl _ _ _))
      clear q1 q2 X1
      go_wp2
      exact bodyPost_end (v:=.tuple #[]) (by simp [results,Tryz.results151,go_sem]) rfl ⟨rfl,HY.out⟩

theorem sym_go (B g n cap K:Nat)(c:Value)(r:Nat→Int)(Wb:World)(HC:CmpOk B n r Wb K #[c])(hn:n≤1000000):∀ d,SymOk B g n cap K c r Wb d
 | 0=>fun a m b f w hd _ _ _ _ h1 h2 _=>by omega
 | d+1=>fun a m b f w hd S sl sr lo h1 h2 h3=>by
   by_cases c1:m=a+1
   ·exact sym_left B g n cap a m b K c r f Wb w HC S sr lo c1 h2 h3 hn
   ·by_cases c2:b=m+1
    ·exact sym_right B g n cap a m b K c r f Wb w HC S sl lo (by omega) c2 h3 hn
    ·exact sym_step B g n cap a m b K d c r f Wb w HC (sym_go B g n cap K c r Wb HC hn d) hd S sl sr lo (by omega) (by omega) h3 hn

end Go.Proofs.YtoilomigceijaaaGreatDoor.Os

namespace Go.Proofs.YtoilomigceijaaaGreatDoor.Om
open Sm

theorem beside (u q k:Nat):u*q+u≤u*k∨q=k∨u*k+u≤u*q:=by
 rcases Nat.lt_trichotomy q k with h|h|h
 ·left;have:=Nat.mul_le_mul_left u (show q+1≤k from h);rw [Nat.mul_add,Nat.mul_one] at this;exact this
 ·exact .inr (.inl h)
 ·right;right;have:=Nat.mul_le_mul_left u (show k+1≤q from h);rw [Nat.mul_add,Nat.mul_one] at this;exact this

structure Blk (r:Nat→Int) (f:Nat→Nat) (s n:Nat):Prop where
 srt:∀ q i j,s*q≤i→i<j→j<n→j<s*q+s→Ahead r (f i) (f j)
 cut:∀ q i j,i<s*q→s*q≤j→j<n→f i<f j
structure Ini (r:Nat→Int) (f:Nat→Nat) (s n k:Nat):Prop where
 srt:∀ q i j,q<k→s*q≤i→i<j→j<n→j<s*q+s→Ahead r (f i) (f j)
 cut:∀ q i j,i<s*q→s*q≤j→j<n→f i<f j
 asc:Asc f (s*k) n
structure Mid (r:Nat→Int) (f:Nat→Nat) (s n k:Nat):Prop where
 a:∀ q i j,q<k→2*s*q≤i→i<j→j<n→j<2*s*q+2*s→Ahead r (f i) (f j)
 b:∀ q i j,2*k≤q→s*q≤i→i<j→j<n→j<s*q+s→Ahead r (f i) (f j)
 c:∀ q i j,i<2*s*q→2*s*q≤j→j<n→f i<f j
 d:∀ q i j,2*k≤q→i<s*q→s*q≤j→j<n→f i<f j

theorem cut_kept {f f':Nat→Nat}{a b n x:Nat}(p:Pm f f' a b)(hx:x≤a∨b≤x)(h:∀ i j,i<x→x≤j→j<n→f i<f j)(bn:b≤n):∀ i j,i<x→x≤j→j<n→f' i<f' j:=by
 intro i j h1 h2 h3
 rcases hx with hx|hx
 ·rw [p.lo i (by omega)]
  by_cases c1:j<a
  ·rw [p.lo j c1];exact h i j h1 h2 h3
  ·by_cases c2:b≤j
   ·rw [p.hi j c2];exact h i j h1 h2 h3
   ·exact p.all (P:=fun v=>f i<v) (fun q h4 h5=>h i q h1 (by omega) (by omega)) j (by omega) (by omega)
 ·rw [p.hi j (by omega)]
  by_cases c1:i<a
  ·rw [p.lo i c1];exact h i j h1 h2 h3
  ·by_cases c2:b≤i
   ·rw [p.hi i c2];exact h i j h1 h2 h3
   ·exact p.all (P:=fun v=>v<f j) (fun q h4 h5=>h q j (by omega) h2 h3) i (by omega) (by omega)

theorem Ini.start {r:Nat→Int}{f:Nat→Nat}{s n:Nat}(h:Asc f 0 n):Ini r f s n 0 :=
 ⟨fun q i j h0=>by omega,fun q i j h1 h2 h3=>h i j (by omega) (by omega) h3,fun i j h1 h2 h3=>h i j (by omega) h2 h3⟩
theorem Ini.step {r:Nat→Int}{f f':Nat→Nat}{s n k a:Nat}(x:Ini r f s n k)(ha:a=s*k)(bn:a+s≤n)(p:Pm f f' a (a+s))(t:Srt r f' a (a+s)):Ini r f' s n (k+1):=by
 refine ⟨fun q i j h0 h1 h2 h3 h4=>?_,fun q i j=>?_,fun i j h1 h2 h3=>?_⟩
 ·rcases beside s q k with e|e|e
  ·rw [p.lo i (by omega),p.lo j (by omega)]
   exact x.srt q i j (by
    rcases Nat.lt_or_ge q k with l|l
    ·exact l
    ·have:=Nat.mul_le_mul_left s l;omega) h1 h2 h3 h4
  ·subst e;exact t i j (by omega) h2 (by omega)
  ·have:=Nat.mul_le_mul_left s (show q≤k by omega);omega
 ·refine cut_kept p ?_ (x.cut q) bn i j
  rcases beside s q k with e|e|e
  ·omega
  ·subst e;omega
  ·omega
 ·have e:s*(k+1)=a+s:=by rw [ha,Nat.mul_add,Nat.mul_one]
  rw [p.hi i (by omega),p.hi j (by omega)]
  exact x.asc i j (by omega) h2 h3
theorem Ini.last {r:Nat→Int}{f f':Nat→Nat}{s n k a:Nat}(x:Ini r f s n k)(ha:a=s*k)(an:a≤n)(bn:n<a+s)(p:Pm f f' a n)(t:Srt r f' a n):Blk r f' s n:=by
 refine ⟨fun q i j h1 h2 h3 h4=>?_,fun q i j=>?_⟩
 ·rcases beside s q k with e|e|e
  ·rw [p.lo i (by omega),p.lo j (by omega)]
   exact x.srt q i j (by
    rcases Nat.lt_or_ge q k with l|l
    ·exact l
    ·have:=Nat.mul_le_mul_left s l;omega) h1 h2 h3 h4
  ·subst e;exact t i j (by omega) h2 h3
  ·omega
 ·intro h1 h2 h3
  refine cut_kept p ?_ (x.cut q) (Nat.le_refl _) i j h1 h2 h3
  rcases beside s q k with e|e|e
  ·omega
  ·subst e;omega
  ·omega

theorem Mid.start {r:Nat→Int}{f:Nat→Nat}{s n:Nat}(x:Blk r f s n):Mid r f s n 0 :=
 ⟨fun q i j h0=>by omega,fun q i j _=>x.srt q i j,fun q i j=>by rw [show 2*s*q=s*(2*q) by ac_rfl];exact x.cut (2*q) i j,fun q i j _=>x.cut q i j⟩
theorem Mid.pair {r:Nat→Int}{f:Nat→Nat}{s n k a:Nat}(x:Mid r f s n k)(ha:a=2*s*k)(am:a+s≤n):Srt r f a (a+s)∧Srt r f (a+s) (min (a+s+s) n)∧Lo f a (a+s) n:=by
 have e0:s*(2*k)=a:=by rw [ha];ac_rfl
 have e1:s*(2*k+1)=a+s:=by rw [Nat.mul_add,e0,Nat.mul_one]
 refine ⟨fun i j h1 h2 h3=>x.b (2*k) i j (Nat.le_refl _) (by omega) h2 (by omega) (by omega),fun i j h1 h2 h3=>x.b (2*k+1) i j (by omega) (by omega) h2 (by omega) (by omega),fun i j h1 h2 h3 h4=>x.d (2*k+1) i j (by omega) (by omega) (by omega) h4⟩
theorem Mid.step {r:Nat→Int}{f f':Nat→Nat}{s n k a:Nat}(x:Mid r f s n k)(ha:a=2*s*k)(bn:a+2*s≤n)(p:Pm f f' a (a+2*s))(t:Srt r f' a (a+2*s)):Mid r f' s n (k+1):=by
 have up:∀ q,2*(k+1)≤q→a+2*s≤s*q:=fun q h=>by
  have h1:=Nat.mul_le_mul_left s h
  have h2:s*(2*(k+1))=a+2*s:=by rw [ha,Nat.mul_add,Nat.mul_add];simp;rw [show s*(2*k)=2*s*k by ac_rfl];omega
  omega
 refine ⟨fun q i j h0 h1 h2 h3 h4=>?_,fun q i j h0 h1 h2 h3 h4=>?_,fun q i j=>?_,fun q i j h0=>?_⟩
 ·rcases beside (2*s) q k with e|e|e
  ·rw [p.lo i (by omega),p.lo j (by omega)]
   exact x.a q i j (by
    rcases Nat.lt_or_ge q k with l|l
    ·exact l
    ·have:=Nat.mul_le_mul_left (2*s) l;omega) h1 h2 h3 h4
  ·subst e;exact t i j (by omega) h2 (by omega)
  ·have:=Nat.mul_le_mul_left (2*s) (show q≤k by omega);omega
 ·have:=up q h0
  rw [p.hi i (by omega),p.hi j (by omega)]
  exact x.b q i j (by omega) h1 h2 h3 h4
 ·refine cut_kept p ?_ (x.c q) bn i j
  rcases beside (2*s) q k with e|e|e
  ·omega
  ·subst e;omega
  ·omega
 ·exact cut_kept p (.inr (up q h0)) (fun i j=>x.d q i j (by omega)) bn i j
theorem Mid.last {r:Nat→Int}{f f':Nat→Nat}{s n k a:Nat}(x:Mid r f s n k)(ha:a=2*s*k)(an:a≤n)(bn:n<a+2*s)(p:Pm f f' a n)(t:Srt r f' a n):Blk r f' (2*s) n:=by
 refine ⟨fun q i j h1 h2 h3 h4=>?_,fun q i j=>?_⟩
 ·rcases beside (2*s) q k with e|e|e
  ·rw [p.lo i (by omega),p.lo j (by omega)]
   exact x.a q i j (by
    rcases Nat.lt_or_ge q k with l|l
    ·exact l
    ·have:=Nat.mul_le_mul_left (2*s) l;omega) h1 h2 h3 h4
  ·subst e;exact t i j (by omega) h2 h3
  ·omega
 ·refine fun h1 h2 h3=>cut_kept p ?_ (x.c q) (Nat.le_refl _) i j h1 h2 h3
  rcases beside (2*s) q k with e|e|e
  ·omega
  ·subst e;omega
  ·omega
theorem Mid.alone {r:Nat→Int}{f:Nat→Nat}{s n k a:Nat}(x:Mid r f s n k)(ha:a=2*s*k)(h:n≤a+s):Srt r f a n:=by
 have e0:s*(2*k)=a:=by rw [ha];ac_rfl
 exact fun i j h1 h2 h3=>x.b (2*k) i j (Nat.le_refl _) (by omega) h2 h3 (by omega)
theorem Blk.whole {r:Nat→Int}{f:Nat→Nat}{s n:Nat}(x:Blk r f s n)(h:n≤s):Srt r f 0 n :=
 fun i j h1 h2 h3=>x.srt 0 i j (by omega) h2 h3 (by omega)

end Go.Proofs.YtoilomigceijaaaGreatDoor.Om

namespace Go.Proofs.YtoilomigceijaaaGreatDoor.Os
open Go.RowKit Pr Rk Sm Om

set_option maxHeartbeats 1000000

theorem insertion_none (B g n cap a K:Nat)(c:Value)(r:Nat→Int)(f:Nat→Nat)(Wb w:World)(S:St B Wb w g n f)(h3:a≤n)(hn:n≤1000000) :
  Calls Tryz.prog 150 #[.slice (some ⟨g,0,none⟩) n cap,.int .i64 a,.int .i64 a,.func (.func K) #[] #[c]] w fun e w'=>e= .returned (.tuple #[])∧St B Wb w' g n f:=by
 have k1:IntKind.i64.wrap ((a:Int)+1)=(a:Int)+1:=IntWalk.i64_in _ (by omega)
 have d:decide ((a:Int)+1<(a:Int))=false:=decide_eq_false (by omega)
 go_enter Tryz.func150,Tryz.ntmps150
 go_wp2
 go_loopw [8] (fun x wr=>x= .int .i64 ((a:Int)+1)∧St B Wb wr g n f) (fun x _=>0)
 case atStart=>exact ⟨rfl,S⟩
 case round =>
  clear S
  obtain ⟨rfl,X⟩:=hrel
  go_wp2
  exact bodyPost_end (v:=.tuple #[]) (by simp [results,Tryz.results150,go_sem]) rfl ⟨rfl,X⟩

theorem insertion_to (B g n cap a b K:Nat)(c:Value)(r:Nat→Int)(f:Nat→Nat)(x y:Int)(Wb w:World)(HC:CmpOk B n r Wb K #[c])(S:St B Wb w g n f)(asc:Asc f a b)(h1:a≤b)(h3:b≤n)(hn:n≤1000000)(hx:x=(a:Int))(hy:y=(b:Int)) :
  Calls Tryz.prog 150 #[.slice (some ⟨g,0,none⟩) n cap,.int .i64 x,.int .i64 y,.func (.func K) #[] #[c]] w (Merged B Wb g n r f a b):=by
 subst hx hy
 by_cases e:a=b
 ·subst e
  exact (insertion_none B g n cap a K c r f Wb w S h3 hn).mono fun e w' ⟨h1,h2⟩=>⟨h1,f,h2,fun i j _ _ _=>by omega,Pm.refl _ _ _⟩
 ·exact insertion_go B g n cap a b K c r f Wb w HC S asc (by omega) h3 hn
theorem sym_to (B g n cap a m b K:Nat)(c:Value)(r:Nat→Int)(f:Nat→Nat)(x y z:Int)(Wb w:World)(HC:CmpOk B n r Wb K #[c])(S:St B Wb w g n f)(sl:Srt r f a m)(sr:Srt r f m b)(lo:Lo f a m b)(h1:a<m)(h2:m<b)(h3:b≤n)(hn:n≤1000000)(hx:x=(a:Int))(hy:y=(m:Int))(hz:z=(b:Int)) :
  Calls Tryz.prog 151 #[.slice (some ⟨g,0,none⟩) n cap,.int .i64 x,.int .i64 y,.int .i64 z,.func (.func K) #[] #[c]] w (Merged B Wb g n r f a b):=by
 subst hx hy hz
 exact sym_go B g n cap K c r Wb HC hn (b - a) a m b f w (Nat.le_refl _) S sl sr lo h1 h2 h3

theorem stable_go (B g n cap K:Nat)(c:Value)(r:Nat→Int)(f:Nat→Nat)(Wb w:World)(HC:CmpOk B n r Wb K #[c])(S:St B Wb w g n f)(asc:Asc f 0 n)(h0:0<n)(hn:n≤1000000) :
  Calls Tryz.prog 124 #[.slice (some ⟨g,0,none⟩) n cap,.int .i64 n,.func (.func K) #[] #[c]] w (Merged B Wb g n r f 0 n):=by
 have H0:=Lib.hid (And.intro (Ini.start (r:=r) (s:=20) asc) (Pm.refl f 0 n))
 have HH:=Lib.hid HC
 clear asc HC
 go_enter Tryz.func124,Tryz.ntmps124
 go_wp2
 go_loopw [7,8] (fun x y wr=>∃ (k a:Nat) (fk:Nat→Nat),a≤n∧x= .int .i64 a∧y= .int .i64 ((a:Int)+20)∧St B Wb wr g n fk∧Hid (a=20*k∧Ini r fk 20 n k∧Pm f fk 0 n)) (fun x _ _=>n - (intOf x).toNat)
 case atStart=>exact ⟨0,0,f,by omega,rfl,rfl,S,Lib.hid ⟨rfl,H0.out.1,H0.out.2⟩⟩
 case round =>
  clear S H0
  obtain ⟨k,a,fk,an,rfl,rfl,X,H⟩:=hrel
  by_cases c1:a+20≤n
  ·have asc:Asc fk a (a+20):=fun i j x y z=>by
    have e:=H.out.1
    exact H.out.2.1.asc i j (by omega) y (by omega)
   go_wp2_with fail
   refine (insertion_to B g n cap a (a+20) K c r fk (a:Int) ((a:Int)+20) Wb _ HH.out X asc (by omega) c1 hn rfl (by omega)).mono ?_
   rintro e w1 ⟨rfl,f1,X1,s1,p1⟩
   have H2:Hid (a+20=20*(k+1)∧Ini r f1 20 n (k+1)∧Pm f f1 0 n):=Lib.hid ⟨by have:=H.out.1;omega,H.out.2.1.step H.out.1 c1 p1 s1,H.out.2.2.trans (p1.mono (by omega) c1)⟩
   clear asc s1 p1 X H
   go_wp2
   go_roundw
   case rel=>exact ⟨k+1,a+20,f1,c1,by go_num,by go_num,X1,H2⟩
   case measure=>simp [intOf]<;>omega
  ·have asc:Asc fk a n:=fun i j x y z=>by
    have e:=H.out.1
    exact H.out.2.1.asc i j (by omega) y z
   go_wp2_with fail
   refine (insertion_to B g n cap a n K c r fk (a:Int) (n:Int) Wb _ HH.out X asc an (Nat.le_refl _) hn rfl rfl).mono ?_
   rintro e w1 ⟨rfl,f1,X1,s1,p1⟩
   have H2:Hid (Blk r f1 20 n∧Pm f f1 0 n):=Lib.hid ⟨H.out.2.1.last H.out.1 an (by omega) p1 s1,H.out.2.2.trans (p1.mono (by omega) (Nat.le_refl _))⟩
   clear asc s1 p1 X H
   go_wp2
   go_loopw [6] (fun x wr=>∃ (s:Nat) (fs:Nat→Nat),0<s∧s≤2*n+20∧x= .int .i64 s∧St B Wb wr g n fs∧Hid (Blk r fs s n∧Pm f fs 0 n)) (fun x _=>n - (intOf x).toNat)
   case atStart=>exact ⟨20,f1,by omega,by omega,rfl,X1,H2⟩
   case round =>
    clear X1 H2 c1 an
    obtain ⟨s,fs,s0,sn,rfl,X,H⟩:=hrel
    by_cases c2:s<n
    ·have q1:IntKind.i64.wrap (2*(s:Int))=2*(s:Int):=IntWalk.i64_in _ (by omega)
     have H0:Hid (Mid r fs s n 0∧Pm f fs 0 n):=Lib.hid ⟨Mid.start H.out.1,H.out.2⟩
     clear H
     go_wp2
     go_loopw [7,8] (fun x y wr=>∃ (k a:Nat) (fk:Nat→Nat),a≤n∧x= .int .i64 a∧y= .int .i64 ((a:Int)+2*(s:Int))∧St B Wb wr g n fk∧Hid (a=2*s*k∧Mid r fk s n k∧Pm f fk 0 n)) (fun x _ _=>n - (intOf x).toNat)
     case atStart=>exact ⟨0,0,fs,by omega,rfl,by simp,X,Lib.hid ⟨by simp,H0.out.1,H0.out.2⟩⟩
     case round =>
      clear X H0
      obtain ⟨k,a,fk,an,rfl,rfl,X,H⟩:=hrel
      have q2:IntKind.i64.wrap ((a:Int)+(s:Int))=(a:Int)+(s:Int):=IntWalk.i64_in _ (by omega)
      by_cases c3:a+2*s≤n
      ·have q3:IntKind.i64.wrap ((a:Int)+2*(s:Int)+2*(s:Int))=(a:Int)+2*(s:Int)+2*(s:Int):=IntWalk.i64_in _ (by omega)
       have P:=H.out.2.1.pair H.out.1 (by omega)
       have HP:Hid (Srt r fk a (a+s)∧Srt r fk (a+s) (a+2*s)∧Lo fk a (a+s) (a+2*s)):=Lib.hid ⟨P.1,fun i j x y z=>P.2.1 i j x y (by omega),fun i j x y z t=>P.2.2 i j x y z (by omega)⟩
       clear P
       go_wp2_with fail
       refine (sym_to B g n cap a (a+s) (a+2*s) K c r fk _ _ _ Wb _ HH.out X HP.out.1 HP.out.2.1 HP.out.2.2 (by omega) (by omega) c3 hn rfl (by omega) (by omega)).mono ?_
       rintro e w1 ⟨rfl,f2,X2,s2,p2⟩
       have H2:Hid (a+2*s=2*s*(k+1)∧Mid r f2 s n (k+1)∧Pm f f2 0 n):=Lib.hid ⟨by rw [H.out.1,Nat.mul_add,Nat.mul_one],H.out.2.1.step H.out.1 c3 p2 s2,H.out.2.2.trans (p2.mono (by omega) c3)⟩
       clear s2 p2 X H HP
       go_wp2
       go_roundw
       case rel=>exact ⟨k+1,a+2*s,f2,c3,by go_num,by go_num,X2,H2⟩
       case measure=>simp [intOf]<;>omega
      ·by_cases c4:a+s<n
       ·have P:=H.out.2.1.pair H.out.1 (by omega)
        have HP:Hid (Srt r fk a (a+s)∧Srt r fk (a+s) n∧Lo fk a (a+s) n):=Lib.hid ⟨P.1,fun i j x y z=>P.2.1 i j x y (by omega),P.2.2⟩
        have q4:IntKind.i64.wrap ((s:Int)*2)=(s:Int)*2:=IntWalk.i64_in _ (by omega)
        clear P
        go_wp2_with fail
        refine (sym_to B g n cap a (a+s) n K c r fk _ _ _ Wb _ HH.out X HP.out.1 HP.out.2.1 HP.out.2.2 (by omega) c4 (Nat.le_refl _) hn rfl (by omega) rfl).mono ?_
        rintro e w1 ⟨rfl,f2,X2,s2,p2⟩
        have H2:Hid (Blk r f2 (2*s) n∧Pm f f2 0 n):=Lib.hid ⟨H.out.2.1.last H.out.1 an (by omega) p2 s2,H.out.2.2.trans (p2.mono (by omega) (Nat.le_refl _))⟩
        clear s2 p2 X H HP
        go_wp2
        go_roundw
        case rel=>exact ⟨2*s,f2,by omega,by omega,by congr 1;omega,X2,H2⟩
        case measure=>simp [intOf]<;>omega
       ·have H2:Hid (Blk r fk (2*s) n∧Pm f fk 0 n):=Lib.hid ⟨H.out.2.1.last H.out.1 an (by omega) (Pm.refl _ _ _) (H.out.2.1.alone H.out.1 (by omega)),H.out.2.2⟩
        have q4:IntKind.i64.wrap ((s:Int)*2)=(s:Int)*2:=IntWalk.i64_in _ (by omega)
        clear H
        go_wp2
        go_roundw
        case rel=>exact ⟨2*s,fk,by omega,by omega,by congr 1;omega,X,H2⟩
        case measure=>simp [intOf]<;>omega
    ·have Y:∃ f',St B Wb wr g n f'∧Srt r f' 0 n∧Pm f f' 0 n:=⟨fs,X,H.out.1.whole (by omega),H.out.2⟩
     have HY:=Lib.hid Y
     clear Y X H
     go_wp2
     exact bodyPost_end (v:=.tuple #[]) (by simp [results,Tryz.results124,go_sem]) rfl ⟨rfl,HY.out⟩

theorem sort_go (B g n cap K:Nat)(c:Value)(r:Nat→Int)(f:Nat→Nat)(Wb w:World)(HC:CmpOk B n r Wb K #[c])(S:St B Wb w g n f)(asc:Asc f 0 n)(h0:0<n)(hn:n≤1000000) :
  Calls Tryz.prog 73 #[.slice (some ⟨g,0,none⟩) n cap,.func (.func K) #[] #[c]] w (Merged B Wb g n r f 0 n):=by
 have cs:=stable_go B g n cap K c r f Wb w HC S asc h0 hn
 clear HC S asc
 go_enter Tryz.func73,Tryz.ntmps73
 go_wp2_with fail
 refine cs.mono ?_
 rintro e w1 ⟨rfl,Y⟩
 have HY:=Lib.hid Y
 clear Y
 go_wp2
 exact bodyPost_end (v:=.tuple #[]) (by simp [results,Tryz.results73,go_sem]) rfl ⟨rfl,HY.out⟩

end Go.Proofs.YtoilomigceijaaaGreatDoor.Os

namespace Go.Proofs.YtoilomigceijaaaGreatDoor.Os
open Go.RowKit Pr Rk Sm Om

set_option maxHeartbeats 1000000

theorem isNaN_any (x:Int)(w:World) :
  Calls Tryz.prog 125 #[.int .i64 x] w fun e w'=>e= .returned (.bool false)∧w=w':=by
 go_enter Tryz.func125,Tryz.ntmps125
 go_wp2
 go_ret
 exact ⟨by simp,rfl⟩

theorem Compare_any (p q:Int)(w:World) :
  Calls Tryz.prog 75 #[.int .i64 p,.int .i64 q] w fun e w'=>e= .returned (.int .i64 (sg p q))∧w=w':=by
 have c1:=fun w=>isNaN_any p w
 have c2:=fun w=>isNaN_any q w
 have O:(p<q∧sg p q= -1)∨(q<p∧sg p q=1)∨(p=q∧sg p q=0):=by
  unfold sg;rcases Int.lt_trichotomy p q with h|h|h
  ·exact .inl ⟨h,by rw [if_pos h]⟩
  ·exact .inr (.inr ⟨h,by rw [if_neg (by omega),if_neg (by omega)]⟩)
  ·exact .inr (.inl ⟨h,by rw [if_neg (by omega),if_pos h]⟩)
 generalize sg p q=s at *
 rcases O with ⟨h,rfl⟩|⟨h,rfl⟩|⟨rfl,rfl⟩
 all_goals
  go_enter Tryz.func75,Tryz.ntmps75
  go_wp2_with fail
  refine (c1 _).mono ?_
  rintro e w' ⟨rfl,rfl⟩
  go_wp2_with fail
  refine (c2 _).mono ?_
  rintro e w' ⟨rfl,rfl⟩
  go_wp2
  go_ret
  exact ⟨rfl,rfl⟩

theorem furthest1_go (p gr n cap x y:Nat)(r:Nat→Int)(w:World)(hp:w.cell? ⟨p,0,none⟩=some (.slice (some ⟨gr,0,none⟩) n cap))(R:Row w gr n r)(hx:x<n)(hy:y<n)(hn:n≤1000000) :
  Calls Tryz.prog 74 #[.int .i64 x,.int .i64 y,.pointer (some ⟨p,0,none⟩)] w fun e w'=>e= .returned (.int .i64 (sg (r y) (r x)))∧∃ m,w'=w.drewN m:=by
 have c1:=R.c x hx
 have c2:=R.c y hy
 have cc:=fun w=>Compare_any (r y) (r x) w
 generalize r y=u at *
 generalize r x=v at *
 have px:(0:Int)≤(x:Int):=by omega
 have bx:(x:Int)<(n:Int):=by omega
 have py:(0:Int)≤(y:Int):=by omega
 have bY:(y:Int)<(n:Int):=by omega
 clear R hx hy
 go_enter Tryz.func74,Tryz.ntmps74
 go_wp2
 go_quiet ((exact (cc _).mono fun _ _ ⟨h1,h2⟩=>⟨h1,_,h2.symm⟩))
 go_wp2
 go_ret
 exact ⟨rfl,_,rfl⟩

theorem infoN:(Tryz.prog.info? 3).map (fun i=>(i.zero,i.size,i.bytes))=some (some (.int .i64 0),1,8):=by kernel_rfl
theorem infoL:(Tryz.prog.info? 2).map (fun i=>(i.zero,i.size,i.bytes))=some (some (.int .i64 0),1,8):=by kernel_rfl
theorem underN:Tryz.prog.underlying 74=some (.slice 3):=by kernel_rfl
theorem underL:Tryz.prog.underlying 29=some (.slice 2):=by kernel_rfl

theorem make_row {t e:TypeId}(info:(Tryz.prog.info? e).map (fun i=>(i.zero,i.size,i.bytes))=some (some (.int .i64 0),1,8))(under:Tryz.prog.underlying t=some (.slice e))(n:Nat)(hn:n≤1000000) :
  ∃ cs:Array Value,(∀ w,(Instr.makeSlice t (.int .i64 (n:Int)) (.int .i64 (n:Int))).run Tryz.prog w= .ok (.slice (some ⟨w.heap.size,0,none⟩) n n) (w.alloc (.cells cs e)))∧∀ w:World,Row (w.alloc (.cells cs e)) w.heap.size n (fun _=>0):=by
 obtain ⟨i,hi,hz0,hz1,hz2⟩:=info_parts info
 have e1:(n:Int).toNat=n:=by omega
 refine ⟨madeCells #[.int .i64 0] n,fun w=>?_,fun w=>⟨by simp,fun i hi=>?_,fun i hi=>by simp [go_sem]⟩⟩
 ·have h:=run_make (P:=Tryz.prog) (w:=w) t e i (.int .i64 0) under hi hz0 .i64 .i64 n n (by omega) (by omega) (by rw [hz2];omega) (by omega)
  rw [e1,hz1,Nat.mul_one] at h
  exact h
 ·have:(madeCells #[Value.int .i64 0] n)[i]?=some (.int .i64 0):=by
   rw [← Array.getElem?_toList,toList_madeCells_one]
   simp [hi]
  simp [go_sem,this]

theorem St.congr {B:Nat}{Wb W:World}{g n:Nat}{f f':Nat→Nat}(x:St B Wb W g n f)(h:∀ i,i<n→f i=f' i):St B Wb W g n f' :=
 ⟨row_congr x.row (fun i hi=>by rw [h i hi]),x.below,x.bg,fun i hi=>by rw [← h i hi];exact x.bd i hi⟩
theorem St.put {B:Nat}{Wb W:World}{g n:Nat}{f:Nat→Nat}(x:St B Wb W g n f){k v:Nat}(hk:k<n)(hv:v<n):St B Wb (W.setCell ⟨g,k,none⟩ (.int .i64 v)) g n (fun j=>if j=k then v else f j) :=
 ⟨row_congr (x.row.set _ hk) (fun i hi=>by
  by_cases c:i=k
  ·simp only [c,if_true]
  ·simp only [c,if_false]),x.below.setCell (by simpa using x.bg) _,x.bg,fun i hi=>by
  show (if i=k then v else f i)<n
  split
  ·exact hv
  ·exact x.bd i hi⟩

def FurOut (w:World)(n:Nat)(r:Nat→Int)(e:Ending)(w':World):Prop :=
 ∃ f:Nat→Nat,e= .returned (.slice (some ⟨w.heap.size+1,0,none⟩) n n)∧Row w' (w.heap.size+1) n (fun i=>(f i:Int))∧(∀ i,i<n→f i<n)∧Srt r f 0 n∧Pm (fun i=>if i<n then i else 0) f 0 n∧Below w.heap.size w w'

set_option maxRecDepth 100000 in
theorem furthest_go (gr n cap:Nat)(r:Nat→Int)(w:World)(R:Row w gr n r)(h0:0<n)(hn:n≤1000000) :
  Calls Tryz.prog 36 #[.slice (some ⟨gr,0,none⟩) n cap] w (FurOut w n r):=by
 obtain ⟨cs,hmk,hrow⟩:=make_row infoN underN n hn
 -- the world with the box of rests
 obtain ⟨w1,hw1⟩:∃ w1,w1=w.alloc (.cells #[.slice (some ⟨gr,0,none⟩) n cap] 29):=⟨_,rfl⟩
 have s1:w1.heap.size=w.heap.size+1:=by rw [hw1];simp
 have b1:w1.cell? ⟨w.heap.size,0,none⟩=some (.slice (some ⟨gr,0,none⟩) n cap):=by rw [hw1];simp [go_sem]
 have B1:Below w.heap.size w w1:=by rw [hw1];exact balloc (Below.refl _ w) _
 have R1:Row w1 gr n r:=R.kept B1
 have HC:CmpOk (w.heap.size+1) n r w1 74 #[.pointer (some ⟨w.heap.size,0,none⟩)]:=by
  refine ⟨fun _ _=>by rfl,fun W hb x y hx hy k=>?_⟩
  rw [← s1] at hb
  have R2:=R1.kept hb
  have b2:=(hb.cell (p:=⟨w.heap.size,0,none⟩) (show w.heap.size<w1.heap.size by omega)).trans b1
  refine (furthest1_go w.heap.size gr n cap x y r (W.drewN k) b2 ⟨R2.lt,R2.c,R2.fz⟩ hx hy hn).mono fun e w' ⟨he,m,hm⟩=>⟨he,k+m,by rw [hm,World.drewN_drewN]⟩
 have S0:St (w.heap.size+1) w1 (w1.alloc (.cells cs 3)) (w.heap.size+1) n (fun j=>if j<0 then j else 0):=by
  refine ⟨row_congr (by have:=hrow w1;rwa [s1] at this) (fun i hi=>by simp),?_,Nat.le_refl _,fun i hi=>by simp;exact h0⟩
  rw [← s1]
  exact balloc (Below.refl _ w1) _
 have HH:=Lib.hid HC
 have HB:=Lib.hid B1
 have HS:=Lib.hid s1
 have b0:w1.cell? ⟨w.heap.size,0,none⟩=some (.slice (some ⟨gr,0,none⟩) n cap):=b1
 have Q0:0<n:=h0
 clear HC R R1 B1 hrow
 go_enter Tryz.func36,Tryz.ntmps36
 go_wp2_with fail
 rw [← hw1]
 clear hw1 hmk
 go_loopw [10] (fun x wr=>∃ k:Nat,k≤n∧x= .int .i64 k∧St (w.heap.size+1) w1 wr (w.heap.size+1) n (fun j=>if j<k then j else 0)) (fun x _=>n - (intOf x).toNat)
 case atStart=>exact ⟨0,by omega,rfl,S0⟩
 case round =>
  clear S0 b1 b0
  obtain ⟨k,hk,rfl,X⟩:=hrel
  by_cases hlt:k<n
  ·have X2:=X.put hlt hlt
   have X3:=X2.congr (f':=fun j=>if j<k+1 then j else 0) (fun j hj=>by
    by_cases c1:j=k
    ·subst c1;simp
    ·by_cases c2:j<k
     ·rw [if_neg c1,if_pos c2,if_pos (by omega)]
     ·rw [if_neg c1,if_neg c2,if_neg (by omega)])
   have c1:=X.c1 hlt
   have f1:=X.f1 hlt
   have pp:(0:Int)≤(k:Int):=by omega
   have bp:(k:Int)<(n:Int):=by omega
   generalize ((if k<k then k else 0:Nat):Int)=u at c1
   clear X X2
   go_wp2
   go_roundw
   case rel=>exact ⟨k+1,by omega,by go_num,X3⟩
   case measure=>simp [intOf]<;>omega
  ·obtain rfl:k=n:=by omega
   go_wp2_with fail
   refine (sort_go (w.heap.size+1) (w.heap.size+1) k k 74 _ r _ w1 _ HH.out X (fun i j h1 h2 h3=>by
    show (if i<k then i else 0)<(if j<k then j else 0)
    rw [if_pos (by omega),if_pos h3];exact h2) Q0 hn).mono ?_
   rintro e w2 ⟨rfl,f',X2,t,p⟩
   have Y:FurOut w k r (.returned (.slice (some ⟨w.heap.size+1,0,none⟩) k k)) w2 :=
    ⟨f',rfl,X2.row,X2.bd,t,p,by have h:=X2.below;rw [← HS.out] at h;exact bthen HB.out h⟩
   have HY:=Lib.hid Y
   clear Y X X2 t p
   go_wp2
   exact bodyPost_ret (v:=.slice (some ⟨w.heap.size+1,0,none⟩) k k) (by simp [results,Tryz.results36,go_sem]) rfl HY.out

end Go.Proofs.YtoilomigceijaaaGreatDoor.Os

