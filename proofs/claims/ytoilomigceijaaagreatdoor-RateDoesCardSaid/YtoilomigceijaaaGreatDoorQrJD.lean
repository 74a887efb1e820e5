/- Texts that are joined: Uiter, Urow2, Utri, Ulist, Uiter2, Uquiet. -/
import Derived.RangeFuncNested
import Derived.RangeFuncBound
import Derived.RangeFuncCalls
import Derived.RangeFuncLeaves
import Derived.RangeFuncFrom
import Derived.Test.YtoilomigceijaaaGreatDoorQrJK
import Derived.RangeFuncOwn
import Derived.Test.YtoilomigceijaaaGreatDoorQrJP
import Derived.Sort.QuietIn
import Derived.OwnWalkIn
set_option linter.unusedSimpArgs false
set_option linter.unusedVariables false
namespace Go.Proofs.YtoilomigceijaaaGreatDoor.Ui
open Go.RowKit

structure Bears {α:Type} (B:Nat) (J:List α→List Nat→World→Prop):Prop where
 size:∀ ss fs W,J ss fs W→B≤W.heap.size
 lt:∀ ss fs W b,J ss fs W→b ∈ fs→b<W.heap.size
 grow:∀ ss fs W W',J ss fs W→W.grownBy W' none→J ss fs W'
 track:∀ ss fs W o,J ss fs W→J ss (W.heap.size :: fs) (W.alloc o)
 store:∀ ss fs W W' b,J ss fs W→b ∈ fs→W.grownBy W' (some b)→J ss fs W'
def KeepFs (fs:List Nat)(W W':World):Prop:=∀ b,b ∈ fs→W'.heap[b]?=W.heap[b]?
def SeqU {α:Type}(F:Fence)(n:Nat)(P:Program)(g:Nat)(lb:Array Value)(encs:α→Array Value)(B:Nat)(xs:List α)(w:World):Prop :=
 ∀ (l:Nat) (J:List α→List Nat→World→Prop) (W:World),Below w.heap.size w W→Bears B J→
  (∀ pre fs x W1,J pre fs W1→pre.length<xs.length→YieldAt F (n - 1) P l (encs x) W1 fun e W'=>e= .returned (.bool true)∧J (pre++[x]) fs W'∧KeepFs fs W1 W'∧Below B W1 W')→
  J [] [] W→
  CallsIn F n P g (#[.func (.yield l) #[] #[]]++lb) W fun e W'=>(∃ v,e= .returned v)∧∃ fs,J xs fs W'

variable {F:Fence} {n:Nat} {P:Program}
theorem other_kept {W W':World}{l k:Nat}{o:Obj}(hg:W.grownBy W' (some l))(h:W.heap[k]?=some o)(ne:k≠l):W'.heap[k]?=some o :=
 (hg.block k (Array.getElem?_eq_some_iff.1 h).1 (fun e=>ne (by cases e;rfl))).trans h

theorem range_u {α:Type}{g:Operand}{ps:Array Tmp}{assign body:Code}{Q:Exit→Act→World→Prop}{a:Act}{w:World}
  (hro:F.round=none) (h1:1≤n) {gf:Nat} {lb:Array Value} (hg:a.eval g= .func (.func gf) #[] lb) (hFg:F.fn gf) (eg:∀ args w,(callFunc gf args).run P w= .ok (.enter gf args) w)
  {encs:α→Array Value} {xs:List α} {B:Nat} (hB:B≤w.heap.size) (hseq:SeqU F (n - 1) P gf lb encs B xs w) (hps:∀ x,(encs x).size=ps.size)
  (I:List α→List Nat→World→Prop) (hI:Bears B I) (hR:∀ ss fs W W' l,I ss fs W→w.heap.size≤l→(∃ o,W.heap[l]?=some o∧o.isCells=false)→W.grownBy W' (some l)→I ss fs W') (h0:I [] [] w)
  (Ax:α→Act→World→Prop) (hAx:∀ x a' W W' l,Ax x a' W→(∃ o,W.heap[l]?=some o∧o.isCells=false)→W.grownBy W' (some l)→Ax x a' W')
  (hassign:∀ (l:Nat) (pre:List α) (fs:List Nat) (x:α) (W:World) (K:Act→World→Prop),I pre fs W→pre.length<xs.length→
   (∀ a' W',W.grownBy W' none→I pre fs W'→Ax x a' W'→K a' W')→
   assign.wpIn (F.inRound l) (n - 1 - 1) P (Exit.then K (fun _ _ _=>False)) { tmps:=(ps.zip (encs x)).foldl (fun t (p,v)=>t.setIfInBounds p v) a.tmps,defers:=[] } W)
  (hbody:∀ (l:Nat) (pre:List α) (fs:List Nat) (x:α) (a':Act) (W:World),I pre fs W→Ax x a' W→pre.length<xs.length→body.wpIn (F.inRound l) (n - 1 - 1) P (fun e _ W'=>e= .normal∧KeepsFrom w.heap.size W W'∧I (pre++[x]) fs W'∧KeepFs fs W W'∧Below B W W') a' W)
  (hdone:∀ (D:Nat) (fs:List Nat) (W:World),w.heap.size≤D→I xs fs W→W.heap[D]?=some (.deferred (some []))→Q .normal { a with defers:={ target:=.collected D,args:=#[] } :: a.defers } W) :
  (Code.rangeFunc g ps assign body).wpIn F n P Q a w:=by
 refine wpIn_rangeFunc ?_
 intro fn hfn
 rw [hro]
 obtain ⟨rec,hrec⟩:∃ rec:LoopState→Option Code→Loop,rec=fun st pe=>{ state:=st,pending:=pe,fn,tmps:=a.tmps,params:=ps,assign,body,defers:=w.heap.size }:=⟨_,rfl⟩
 obtain ⟨W0,hW0⟩:∃ W0,w.alloc (.deferred (some []))=W0:=⟨_,rfl⟩
 obtain ⟨W1,hW1⟩:∃ W1,W0.alloc (.loop (rec .ready none))=W1:=⟨_,rfl⟩
 have s0:W0.heap.size=w.heap.size+1:=by rw [← hW0];simp
 have s1:W1.heap.size=w.heap.size+2:=by rw [← hW1];simp [s0]
 have g0:w.grownBy W0 none:=by rw [← hW0];exact World.grownBy_alloc _ _ _
 have g1:W0.grownBy W1 none:=by rw [← hW1];exact World.grownBy_alloc _ _ _
 have k0:W0.heap[w.heap.size]?=some (.deferred (some [])):=by rw [← hW0];exact World.alloc_heap_new w _
 have k1:W1.heap[w.heap.size]?=some (.deferred (some [])):=(g1.block _ (by omega) (by simp)).trans k0
 have l1:W1.heap[w.heap.size+1]?=some (.loop (rec .ready none)):=by rw [← hW1,← s0];exact World.alloc_heap_new W0 _
 have b1:Below w.heap.size w W1:=by rw [← hW1,← hW0];exact (((Below.refl _ w).alloc (Nat.le_refl _) _).alloc (by simp) _)
 have i1:I [] [] W1:=hI.grow _ _ _ _ (hI.grow _ _ _ _ h0 g0) g1
 refine ⟨w.heap.size+1,[{ target:=.collected w.heap.size,args:=#[] }],W1,{ target:=.fn (.func gf) lb,args:=#[.func (.yield (w.heap.size+1)) #[] #[]] },W1,gf,
  #[.func (.yield (w.heap.size+1)) #[] #[]]++lb,W1,?_,?_,?_,?_,fun _=>h1,?_⟩
 ·rw [← hW1,← hW0,hrec];exact run_enterLoop_outer _ _ _ _ _
 ·simp only [resolve,hg]
  simp [go_sem]
 ·intro f' hf';simp [Target.leads] at hf';subst hf';exact hFg
 ·simp [invoke,go_sem,eg]
 refine (hseq (w.heap.size+1) (fun pre fs W=>(I pre fs W∧w.heap.size+2≤W.heap.size)∧(W.heap[w.heap.size+1]?=some (.loop (rec .ready none))∧W.heap[w.heap.size]?=some (.deferred (some [])))∧∀ b,b ∈ fs→w.heap.size+2≤b) W1 b1 ?_ ?_ ⟨⟨i1,by omega⟩,⟨l1,k1⟩,fun b hb=>by cases hb⟩).mono ?_
 ·refine ⟨fun ss fs W h=>hI.size _ _ _ h.1.1,fun ss fs W b h hb=>hI.lt _ _ _ _ h.1.1 hb,fun ss fs W W' h g=>⟨⟨hI.grow _ _ _ _ h.1.1 g,Nat.le_trans h.1.2 g.size⟩,⟨(g.block _ (by have:=h.1.2;omega) (by simp)).trans h.2.1.1,(g.block _ (by have:=h.1.2;omega) (by simp)).trans h.2.1.2⟩,h.2.2⟩,
   fun ss fs W o h=>?_,fun ss fs W W' b h hb g=>⟨⟨hI.store _ _ _ _ _ h.1.1 hb g,Nat.le_trans h.1.2 g.size⟩,⟨other_kept g h.2.1.1 (by have:=h.2.2 b hb;omega),other_kept g h.2.1.2 (by have:=h.2.2 b hb;omega)⟩,h.2.2⟩⟩
  have g:W.grownBy (W.alloc o) none:=World.grownBy_alloc _ _ _
  refine ⟨⟨hI.track _ _ _ _ h.1.1,Nat.le_trans h.1.2 g.size⟩,⟨(g.block _ (by have:=h.1.2;omega) (by simp)).trans h.2.1.1,(g.block _ (by have:=h.1.2;omega) (by simp)).trans h.2.1.2⟩,fun b hb=>?_⟩
  rcases List.mem_cons.1 hb with rfl|hb
  ·exact h.1.2
  ·exact h.2.2 b hb
 ·rintro pre fs x W ⟨⟨hi,hz⟩,⟨hl,hk⟩,hfs⟩ hlen
  have hy:=run_yield (P:=P) (args:=encs x) hl (by rw [hrec];exact hps x)
  rw [hrec] at hy
  refine ⟨fn,_,assign,body,hy,roundIn_of_wpIn hfn (hassign _ pre fs x W _ hi hlen ?_)⟩
  clear hy
  intro a' Wa ga hia hax
  have hla:=(ga.block _ (by omega) (by simp)).trans hl
  have hka:=(ga.block _ (by omega) (by simp)).trans hk
  refine ⟨_,run_beginRound hla (by rw [hrec]),?_⟩
  obtain ⟨Wb,hWb⟩:∃ Wb,Wa.putObj (w.heap.size+1) (.loop { rec .ready none with state:=.busy })=Wb:=⟨_,rfl⟩
  have gb:Wa.grownBy Wb (some (w.heap.size+1)):=by rw [← hWb];exact grownBy_putObj' _ _ _
  have lb':Wb.heap[w.heap.size+1]?=some (.loop { rec .ready none with state:=.busy }):=by rw [← hWb];exact World.putObj_heap_same (Array.getElem?_eq_some_iff.1 hla).1
  have kb:Wb.heap[w.heap.size]?=some (.deferred (some [])):=other_kept gb hka (by omega)
  have za:=ga.size
  have zb:=gb.size
  rw [hWb]
  refine wpIn_mono (hbody _ pre fs x a' Wb (hR _ _ _ _ _ hia (by omega) ⟨_,hla,rfl⟩ gb) (hAx _ _ _ _ _ hax ⟨_,hla,rfl⟩ gb) hlen) ?_
  rintro e a3 W3 ⟨rfl,hk3,hi3,hf3,hb3⟩
  have l3:=hk3.same _ _ (by omega) lb' rfl
  have k3:=hk3.same _ _ (Nat.le_refl _) kb rfl
  have er:=run_endRound (P:=P) none l3
  obtain ⟨W4,hW4⟩:∃ W4,W3.putObj (w.heap.size+1) (.loop { { rec .ready none with state:=.busy } with state:=if (none:Option Code).isNone then .ready else .done,pending:=none })=W4:=⟨_,rfl⟩
  rw [hW4] at er
  have g4:W3.grownBy W4 (some (w.heap.size+1)):=by rw [← hW4];exact grownBy_putObj' _ _ _
  have l4:W4.heap[w.heap.size+1]?=some (.loop (rec .ready none)):=by
   rw [← hW4]
   refine (World.putObj_heap_same (Array.getElem?_eq_some_iff.1 l3).1).trans ?_
   rw [hrec];rfl
  have z3:=hk3.size
  have z4:=g4.size
  refine ⟨_,_,er,rfl,⟨⟨hR _ _ _ _ _ hi3 (by omega) ⟨_,l3,rfl⟩ g4,by omega⟩,⟨l4,other_kept g4 k3 (by omega)⟩,hfs⟩,fun b hb=>?_,?_⟩
  ·have nb:=hfs b hb
   have e4:W4.heap[b]?=W3.heap[b]?:=by rw [← hW4];exact World.putObj_heap_other (by omega)
   have eb:Wb.heap[b]?=Wa.heap[b]?:=by rw [← hWb];exact World.putObj_heap_other (by omega)
   rw [e4,hf3 b hb,eb]
   exact ga.block _ (hI.lt _ _ _ _ hi hb) (by simp)
  ·have e1:Below B W Wa:=(Below.refl B W).grown ga (by omega) (fun k e=>by cases e)
   have e2:Below B W Wb:=e1.grown gb (by omega) (fun k e=>by cases e;omega)
   exact (e2.trans hb3).grown g4 (by omega) (fun k e=>by cases e;omega)
 ·rintro e W2 ⟨⟨v,rfl⟩,fs,⟨hi,hz⟩,⟨hl,hk⟩,hfs⟩
  have ee:=run_endLoop (P:=P) hl (by rw [hrec];simp)
  obtain ⟨W3,hW3⟩:∃ W3,W2.putObj (w.heap.size+1) (.loop { rec .ready none with state:=.exhausted })=W3:=⟨_,rfl⟩
  rw [hW3] at ee
  have g3:W2.grownBy W3 (some (w.heap.size+1)):=by rw [← hW3];exact grownBy_putObj' _ _ _
  have pn:(rec .ready none).pending=none:=by rw [hrec]
  rw [pn] at ee
  exact ⟨none,W3,ee,hdone _ fs _ (Nat.le_refl _) (hR _ _ _ _ _ hi (by omega) ⟨_,hl,rfl⟩ g3) (other_kept g3 hk (by omega))⟩

end Go.Proofs.YtoilomigceijaaaGreatDoor.Ui

namespace Go.Proofs.YtoilomigceijaaaGreatDoor.Rk
open Go.RowKit

def RowOut (w:World)(l:List U3)(e:Ending)(w':World):Prop :=
 ∃ g cap:Nat,e= .returned (.slice (some ⟨g,0,none⟩) l.length cap)∧Urow w' g l∧w.heap.size≤g∧Below w.heap.size w w'∧l.length≤cap
def UnitsTo (w:World)(l:List U3)(e:Ending)(w':World):Prop :=
 ∃ g cap:Nat,e= .returned (.tuple #[.slice (some ⟨g,0,none⟩) l.length cap,.int .i64 0])∧Urow w' g l∧w.heap.size≤g∧Below w.heap.size w w'∧l.length≤cap
theorem own_cap {W:World}{base size n k cap g:Nat}{e:TypeId}{xs:List Value}(h:W.ownsRow base e size (.slice (some ⟨g,0,none⟩) n cap) k xs):k≤cap:=by
 rcases h.2 with ⟨h1,_⟩|⟨g',cap',cur,hv,_,_,hc,_⟩
 ·cases h1
 ·cases hv;exact hc
theorem row_lt {W:World}{base x size k:Nat}{e:TypeId}{v:Value}{xs:List Value}(h:W.ownsRow base e size v k xs)(q:v.ownBlock=some x):base≤x∧x<W.heap.size:=by
 rcases h.2 with ⟨h1,_⟩|⟨g,cap,cur,hv,hb,hg,_⟩
 ·rw [h1] at q;cases q
 ·rw [hv] at q
  have:g=x:=by simpa [Value.ownBlock] using q
  subst this;exact ⟨hb,(Array.getElem?_eq_some_iff.1 hg).1⟩
theorem own_below {W w1:World}{EL:TypeId}{size n base:Nat}{v:Value}{xs:List Value}(h:W.ownsRow base EL size v n xs)(hb:Below W.heap.size W w1):w1.ownsRow base EL size v n xs :=
 h.kept (row:=none) ⟨hb.os,hb.tape,hb.output,hb.size,fun i hi _=>hb.block i hi⟩ (by cases v.ownBlock<;>simp)

structure One3 (EL:TypeId) (w W:World) (v:Value) (l:List U3):Prop where
 below:Below w.heap.size w W
 a:W.ownsRow w.heap.size EL 3 v l.length (ucells l)
section
variable {EL:TypeId} {w W w1:World} {v:Value} {l:List U3}
theorem One3.start (EL:TypeId)(h:Below w.heap.size w W):One3 EL w W (.slice none 0 0) []:=⟨h,World.ownsRow_nil _ _ _ _⟩
theorem One3.kept (x:One3 EL w W v l)(hb:Below W.heap.size W w1):One3 EL w w1 v l:=⟨Pr.bthen x.below hb,own_below x.a hb⟩
theorem One3.alloc (x:One3 EL w W v l)(o:Obj):One3 EL w (W.alloc o) v l:=x.kept ((Below.refl _ _).alloc (Nat.le_refl _) o)
theorem One3.next {W2:World}{o1:Obj}{v':Value}{u:U3}(X:One3 EL w W v l)
  (h1:W2.ownsRow w.heap.size EL 3 v' (l.length+1) (ucells l++[.int .i64 u.1,.int .i64 u.2.1,.int .i64 u.2.2])) (r1:(W.alloc o1).grownBy W2 v.ownBlock):One3 EL w W2 v' (l++[u]) :=
 ⟨below_grown (Pr.balloc X.below o1) r1 (fun x e=>(row_lt X.a e).1) (Nat.le_refl _),by rw [List.length_append,ucells_snoc];exact h1⟩
theorem One3.out {g cap n:Nat}(X:One3 EL w W (.slice (some ⟨g,0,none⟩) n cap) l)(h:l.length=n)(hn:0<n):Urow W g l∧w.heap.size≤g∧l.length≤cap:=by
 subst h
 obtain ⟨g',cap',e,h2,_⟩:=X.a.form hn
 cases e
 exact ⟨Urow.of_owns X.a hn,h2,own_cap X.a⟩
end

def scells:List (Int×Int)→List Value
 | []=>[]
 | s :: l=>[.int .i64 s.1,.int .i64 s.2]++scells l
theorem scells_app (l k:List (Int×Int)):scells (l++k)=scells l++scells k:=by
 induction l with
 | nil=>rfl
 | cons x l ih=>simp [scells,ih]
theorem scells_at {l:List (Int×Int)}{i:Nat}{s:Int×Int}(h:l[i]?=some s):(scells l)[i*2]?=some (.int .i64 s.1)∧(scells l)[i*2+1]?=some (.int .i64 s.2):=by
 induction l generalizing i with
 | nil=>simp at h
 | cons x l ih =>
   cases i with
   | zero=>simp at h;subst h;simp [scells]
   | succ j =>
     have a:=ih (i:=j) (by simpa using h)
     have e:∀ k,(scells (x :: l))[(j+1)*2+k]?=(scells l)[j*2+k]?:=fun k=>by
      show ([Value.int .i64 x.1,Value.int .i64 x.2]++scells l)[(j+1)*2+k]?=_
      rw [List.getElem?_append_right (by simp;omega)]
      congr 1
      simp
      omega
     have e0:=e 0
     rw [Nat.add_zero,Nat.add_zero] at e0
     exact ⟨by rw [e0];exact a.1,by rw [e 1];exact a.2⟩
structure Srow (W:World) (g:Nat) (l:List (Int×Int)):Prop where
 lt:g<W.heap.size
 c:∀ i s,l[i]?=some s→W.cell? ⟨g,i*2,none⟩=some (.int .i64 s.1)∧W.cell? ⟨g,i*2+1,none⟩=some (.int .i64 s.2)
section
variable {W w1:World} {g n:Nat} {l:List (Int×Int)}
theorem Srow.kept (p:Srow W g l)(hb:Below W.heap.size W w1):Srow w1 g l :=
 ⟨Nat.lt_of_lt_of_le p.lt hb.size,fun i s h=>⟨(hb.cell (p:=⟨g,i*2,none⟩) p.lt).trans (p.c i s h).1,(hb.cell (p:=⟨g,i*2+1,none⟩) p.lt).trans (p.c i s h).2⟩⟩
theorem Srow.alloc (p:Srow W g l)(o:Obj):Srow (W.alloc o) g l:=p.kept ((Below.refl _ _).alloc (Nat.le_refl _) o)
theorem Srow.of_owns {base:Nat}{e:TypeId}{cap:Nat}(h:W.ownsRow base e 2 (.slice (some ⟨g,0,none⟩) l.length cap) l.length (scells l))(hn:0<l.length):Srow W g l:=by
 refine ⟨?_,fun i s hs=>?_⟩
 ·obtain ⟨g',cap',e1,_,hlt⟩:=h.form hn
  cases e1;exact hlt
 ·have hi:i<l.length:=(List.getElem?_eq_some_iff.1 hs).1
  have a:=scells_at hs
  exact ⟨by rw [h.cellAt (i*2) (by omega)];exact a.1,by rw [h.cellAt (i*2+1) (by omega)];exact a.2⟩
end
end Go.Proofs.YtoilomigceijaaaGreatDoor.Rk

namespace Go.Proofs.YtoilomigceijaaaGreatDoor.Rk
open Go.RowKit Bx

theorem grow_below {W W':World}(h:Below W.heap.size W W'):W.grownBy W' none:=⟨h.os,h.tape,h.output,h.size,fun i hi _=>h.block i hi⟩
theorem grow_set (W:World)(b i:Nat)(v:Value):W.grownBy (W.setCell ⟨b,i,none⟩ v) (some b) :=
 ⟨rfl,rfl,rfl,by simp [World.setCell],fun k _ hk=>Below.heap_setCell _ _ _ k (fun e=>hk (by rw [e]))⟩
theorem tri_heap {W W':World}{b:Nat}{u v x:Value}(h:Tri W b u v x)(e:W'.heap[b]?=W.heap[b]?):Tri W' b u v x:=by
 have hc:∀ i,W'.cell? ⟨b,i,none⟩=W.cell? ⟨b,i,none⟩:=fun i=>World.cell?_of_block (w:=W) e
 have hf:∀ i,W'.frozen? ⟨b,i,none⟩=W.frozen? ⟨b,i,none⟩:=fun i=>World.frozen?_of_block (w:=W) e
 refine ⟨?_,(hc 0).trans h.c0,(hc 1).trans h.c1,(hc 2).trans h.c2,(hf 0).trans h.f0,(hf 1).trans h.f1,(hf 2).trans h.f2⟩
 have:=Array.getElem?_eq_getElem h.lt
 rw [← e] at this
 exact (Array.getElem?_eq_some_iff.1 this).1
def cellI (W:World)(b i:Nat):Int:=match (W.cell? ⟨b,i,none⟩).getD (.int .i64 0) with
 | .int _ n=>n
 | _=>0
def blkOf:Value→Nat
 | .pointer (some a)=>a.block
 | _=>0
theorem cellI_is {W:World}{b i:Nat}{n:Int}(h:W.cell? ⟨b,i,none⟩=some (.int .i64 n)):cellI W b i=n:=by
 unfold cellI;rw [h];rfl

end Go.Proofs.YtoilomigceijaaaGreatDoor.Rk

namespace Go.Proofs.YtoilomigceijaaaGreatDoor.Am
open Cm Em Rk

def ulist (c:CalZ)(L:Int)(u:Int×Int):Nat→List U3
 | 0=>[]
 | k+1=>ulist c L u k++[(L,(itu c L u k).1,(itu c L u k).2)]
theorem ulist_len (c:CalZ)(L:Int)(u:Int×Int)(k:Nat):(ulist c L u k).length=k:=by
 induction k with
 | zero=>rfl
 | succ n ih=>simp [ulist,ih]
theorem ulist_at (c:CalZ)(L:Int)(u:Int×Int)(N k:Nat)(h:k<N):(ulist c L u N)[k]?=some (L,(itu c L u k).1,(itu c L u k).2):=by
 induction N with
 | zero=>omega
 | succ n ih =>
   by_cases e:k=n
   ·subst e
    simp [ulist,List.getElem?_append_right,ulist_len]
   ·rw [ulist,List.getElem?_append_left (by rw [ulist_len];omega)]
    exact ih (by omega)

structure UWay (c:CalZ) (L y0 i0 y n:Int) (N:Nat):Prop where
 v:UnitOk c L y n
 u:UnitOk c L y0 i0
 le:y0≤y
 at_:itu c L (y0,i0) N=(y,n)
 len:(N:Int)+60*y0+i0≤60*y+n
 ok:∀ k,k≤N→UnitOk c L (itu c L (y0,i0) k).1 (itu c L (y0,i0) k).2∧Till y n (itu c L (y0,i0) k)
 nx:∀ k,k<N→NextA c L (itu c L (y0,i0) k).1 (itu c L (y0,i0) k).2 L (itu c L (y0,i0) (k+1)).1 (itu c L (y0,i0) (k+1)).2 0∧itu c L (y0,i0) k≠(y,n)
theorem way_ex {c:CalZ}{L y0 i0 y n:Int}(v:UnitOk c L y n)(u:UnitOk c L y0 i0)(t:Till y n (y0,i0)):∃ N,UWay c L y0 i0 y n N:=by
 obtain ⟨N,a,b,d,e⟩:=itu_reach v ((60*y+n).toNat) (y0,i0) u t (by
  have:=served_told u.1 u.2.2.1
  have:=u.2.2.2.1
  show 60*y+n≤60*y0+i0+_
  omega)
 refine ⟨N,v,u,?_,a,b,d,e⟩
 unfold Till at t
 simp only at t
 omega
def manyU (c:CalZ)(L y n z:Int):Int:=if z<y then ucount c z L else n
def StandU (c:CalZ)(L y0 i0 y n:Int)(N:Nat)(z i:Int)(k:Nat):Prop :=
 y0≤z∧z≤y∧1≤i∧((i≤manyU c L y n z∧k≤N∧itu c L (y0,i0) k=(z,i))∨(i=manyU c L y n z+1∧z<y∧k≤N∧itu c L (y0,i0) k=(z+1,1))∨(z=y∧i=n+1∧k=N+1))
section
variable {c:CalZ} {L y0 i0 y n z i:Int} {N k:Nat}
theorem UWay.many (h:UWay c L y0 i0 y n N)(z0:y0≤z)(z1:z≤y):1≤manyU c L y n z∧manyU c L y n z≤ucount c z L∧manyU c L y n z≤60∧Served c z:=by
 have s1:=h.u.2.2.1
 have s2:=h.v.2.2.1
 have sz:Served c z:=⟨by have:=s1.1;omega,by have:=s2.2;omega⟩
 have st:=served_told h.u.1 sz
 have cb:=ucount_bd (L:=L) (y:=z) h.u.1.1 (by omega) (by omega)
 have n1:=h.v.2.2.2.1
 have n2:=h.v.2.2.2.2
 unfold manyU
 by_cases q:z<y
 ·rw [if_pos q];exact ⟨cb.1,Int.le_refl _,cb.2,sz⟩
 ·rw [if_neg q]
  obtain rfl:z=y:=by omega
  exact ⟨n1,n2,by omega,sz⟩
theorem stand_start (h:UWay c L y0 i0 y n N):StandU c L y0 i0 y n N y0 i0 0:=by
 refine ⟨Int.le_refl _,h.le,h.u.2.2.2.1,.inl ⟨?_,Nat.zero_le _,rfl⟩⟩
 have t:=(h.ok 0 (Nat.zero_le _)).2
 have i1:=h.u.2.2.2.2
 unfold Till itu at t
 simp only at t
 unfold manyU
 by_cases q:y0<y
 ·rw [if_pos q];exact i1
 ·rw [if_neg q];omega
theorem stand_step (h:UWay c L y0 i0 y n N)(s:StandU c L y0 i0 y n N z i k)(le:i≤manyU c L y n z):k≤N∧itu c L (y0,i0) k=(z,i)∧StandU c L y0 i0 y n N z (i+1) (k+1):=by
 obtain ⟨z0,z1,a,O⟩:=s
 rcases O with ⟨b,d,e⟩|⟨b,_⟩|⟨b,d,_⟩
 ·refine ⟨d,e,z0,z1,by omega,?_⟩
  have sx:itu c L (y0,i0) (k+1)=nxu c L (z,i):=by show nxu c L (itu c L (y0,i0) k)=_;rw [e]
  have last:k<N∨k=N:=by omega
  have m:=h.many z0 z1
  rcases last with q|q
  ·have ne:=(h.nx k q).2
   rw [e] at ne
   have ne':¬ (z=y∧i=n):=fun q=>ne (by rw [q.1,q.2])
   by_cases lt:i<manyU c L y n z
   ·refine .inl ⟨by omega,by omega,?_⟩
    rw [sx]
    unfold nxu
    rw [if_pos (show i<ucount c z L by omega)]
   ·refine .inr (.inl ⟨by omega,?_,by omega,?_⟩)
    ·by_cases q2:z<y
     ·exact q2
     ·exfalso
      obtain rfl:z=y:=by omega
      unfold manyU at lt le
      rw [if_neg (by omega)] at lt le
      omega
    ·by_cases q2:z<y
     ·rw [sx]
      unfold manyU at lt le
      rw [if_pos q2] at lt le
      unfold nxu
      rw [if_neg (show ¬ i<ucount c z L by omega)]
     ·exfalso
      obtain rfl:z=y:=by omega
      unfold manyU at lt le
      rw [if_neg (by omega)] at lt le
      omega
  ·subst q
   have:=h.at_
   rw [e] at this
   obtain ⟨rfl,rfl⟩:=Prod.mk.inj this
   exact .inr (.inr ⟨rfl,rfl,rfl⟩)
 ·omega
 ·subst b
  unfold manyU at le
  rw [if_neg (by omega)] at le
  omega
theorem stand_out (h:UWay c L y0 i0 y n N)(s:StandU c L y0 i0 y n N z i k)(gt:manyU c L y n z<i):(z<y∧StandU c L y0 i0 y n N (z+1) 1 k)∨(z=y∧k=N+1):=by
 obtain ⟨z0,z1,a,O⟩:=s
 rcases O with ⟨b,_⟩|⟨b,q,d,e⟩|⟨b,d,e⟩
 ·omega
 ·have m:=h.many (z:=z+1) (by omega) (by omega)
  exact .inl ⟨q,by omega,by omega,by omega,.inl ⟨m.1,d,e⟩⟩
 ·exact .inr ⟨b,e⟩
end

end Go.Proofs.YtoilomigceijaaaGreatDoor.Am

namespace Go.Proofs.YtoilomigceijaaaGreatDoor.Ui
open Go.RowKit

variable {F:Fence} {n:Nat} {P:Program}
end Go.Proofs.YtoilomigceijaaaGreatDoor.Ui

namespace Go.Proofs.YtoilomigceijaaaGreatDoor.Ui
open Go

variable {F:Fence} {n:Nat} {P:Program} {ops:Array Oper} {md:Region.Mode} {C:World→Prop}

end Go.Proofs.YtoilomigceijaaaGreatDoor.Ui

