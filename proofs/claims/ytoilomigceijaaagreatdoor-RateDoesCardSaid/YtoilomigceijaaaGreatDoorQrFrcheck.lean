/- What Check of the reference of layer 11 comes to. -/
import Derived.Test.YtoilomigceijaaaGreatDoorQrJY
import Derived.Test.YtoilomigceijaaaGreatDoorQrFrk1
import Derived.Test.YtoilomigceijaaaGreatDoorQrFrk2
import Derived.Test.YtoilomigceijaaaGreatDoorQrFrk5
set_option linter.unusedSimpArgs false
set_option linter.unusedVariables false
namespace Go.Proofs.YtoilomigceijaaaGreatDoor.Fr
open Go.RowKit Bn Am Fp
open Zm (name)
open Zr (by_)

set_option maxHeartbeats 4000000

theorem rCheck_any (c:CalZ)(er:Int)(w:World)(R:ChkA c er)(hm:c.nm.size≤maxLen) :
  Calls Tryz.prog 30 #[.agg #[.string c.nm,.int .i64 c.k,.int .i64 c.d,.int .i64 c.m,.int .i64 c.s,.int .i64 c.sh,.int .i64 c.p0,.int .i64 c.p1,.int .i64 c.p2,.int .i64 c.cy,.int .i64 c.ex,.int .i64 c.fi,.int .i64 c.la,.int .i64 c.po]] w fun e w'=>e= .returned (.int .i64 er)∧Below w.heap.size w w':=by
 have cN:=fun w=>Zr.rName c.nm w hm
 have no:¬ CalOk c→er=1:=fun h=>by rcases R with ⟨ok,_⟩|⟨_,h2⟩;exact absurd ok h;exact h2
 have yes:CalOk c→er=0:=fun h=>by rcases R with ⟨_,h2⟩|⟨h1,_⟩;exact h2;exact absurd h h1
 cases hn:name (by_ c.nm) with
 | false =>
   rw [hn] at cN
   obtain rfl:=no (fun h=>by have:=h.2.1;rw [show c.nm.data.toList=by_ c.nm from rfl,hn] at this;cases this)
   exact rbad_name c w cN
 | true =>
 rw [hn] at cN
 by_cases h1:1602≤c.fi
 case neg=>obtain rfl:=no (fun h=>h1 h.2.2.1.1);exact rbad_y1 c w (by omega) cN
 by_cases h2:c.la≤9996
 case neg=>obtain rfl:=no (fun h=>h2 h.2.2.1.2.1);exact rbad_y2 c w h1 (by omega) cN
 by_cases h3:c.fi≤c.la
 case neg=>obtain rfl:=no (fun h=>h3 h.2.2.1.2.2.1);exact rbad_y3 c w h1 h2 (by omega) cN
 by_cases h4:c.la - c.fi<400
 case neg=>obtain rfl:=no (fun h=>h4 h.2.2.1.2.2.2);exact rbad_y4 c w h1 h2 h3 (decide_eq_true (by omega)) cN
 have h4d:decide (400≤c.la - c.fi)=false:=decide_eq_false (by omega)
 by_cases g1:1≤c.po
 case neg=>obtain rfl:=no (fun h=>g1 h.2.2.2.1);exact rbad_p1 c w h1 h2 h3 h4d (by omega) cN
 by_cases g2:c.po≤4
 case neg=>obtain rfl:=no (fun h=>g2 h.2.2.2.2.1);exact rbad_p2 c w h1 h2 h3 h4d g1 (by omega) cN
 by_cases g3:c.po=4
 case pos =>
  have g3d:(c.po==4)=true:=by rw [g3];rfl
  by_cases k6:c.k=6
  case neg=>obtain rfl:=no (fun h=>k6 (h.2.2.2.2.2.1 g3));exact rbad_p3 c w h1 h2 h3 h4d g1 g2 g3d (beq_eq_false_iff_ne.2 k6) cN
  have fin:∀ b:Bool,(KindOk c↔b=true)→er=if b=true then 0 else 1:=fun b h=>by
   by_cases k:KindOk c
   ·rw [if_pos (h.1 k)];exact yes ⟨k,hn,⟨h1,h2,h3,h4⟩,g1,g2,⟨fun _=>k6,fun _=>g3⟩⟩
   ·rw [if_neg (fun x=>k (h.2 x))];exact no (fun x=>k x.1)
  refine rkind_k6 c er w (beq_eq_false_iff_ne.2 (by omega)) (beq_eq_false_iff_ne.2 (by omega)) (beq_eq_false_iff_ne.2 (by omega)) (beq_eq_false_iff_ne.2 (by omega)) (beq_eq_false_iff_ne.2 (by omega)) (by rw [k6];rfl) h1 h2 h3 h4d g1 g2 g3d (fin _ ?_) cN
  simp [KindOk,CalSame,k6];omega
 have g3d:(c.po==4)=false:=beq_eq_false_iff_ne.2 g3
 by_cases k6:c.k=6
 case pos=>obtain rfl:=no (fun h=>g3 (h.2.2.2.2.2.2 k6));exact rbad_p4 c w h1 h2 h3 h4d g1 g2 g3d (by rw [k6];rfl) cN
 have k6d:(c.k==6)=false:=beq_eq_false_iff_ne.2 k6
 have fin:∀ b:Bool,(KindOk c↔b=true)→er=if b=true then 0 else 1:=fun b h=>by
  by_cases k:KindOk c
  ·rw [if_pos (h.1 k)];exact yes ⟨k,hn,⟨h1,h2,h3,h4⟩,g1,g2,⟨fun x=>absurd x g3,fun x=>absurd x k6⟩⟩
  ·rw [if_neg (fun x=>k (h.2 x))];exact no (fun x=>k x.1)
 by_cases k1:c.k=1
 ·refine rkind_k1 c (decide (ShapeR c)) (manyR c) er w (by rw [k1];rfl) h1 h2 h3 h4d g1 g2 g3d k6d (fun w=>shaped_any c _ w rfl) (fun w=>many_any c _ w rfl) (fin _ ?_) cN
  by_cases hS:ShapeR c<;>simp [KindOk,k1,cut_shape,hS]<;>omega
 have k1d:(c.k==1)=false:=beq_eq_false_iff_ne.2 k1
 by_cases k2:c.k=2
 ·refine rkind_k2 c (decide (ShapeR c)) (manyR c) er w k1d (by rw [k2];rfl) h1 h2 h3 h4d g1 g2 g3d k6d (fun w=>shaped_any c _ w rfl) (fun w=>many_any c _ w rfl) (fin _ ?_) cN
  by_cases hS:ShapeR c<;>simp [KindOk,k2,cut_shape,hS]<;>omega
 have k2d:(c.k==2)=false:=beq_eq_false_iff_ne.2 k2
 by_cases k5:c.k=5
 ·refine rkind_k5 c (decide (ShapeR c)) (manyR c) er w k1d k2d (by rw [k5];rfl) h1 h2 h3 h4d g1 g2 g3d k6d (fun w=>shaped_any c _ w rfl) (fun w=>many_any c _ w rfl) (fin _ ?_) cN
  by_cases hS:ShapeR c<;>simp [KindOk,k5,cut_shape,hS]
 have k5d:(c.k==5)=false:=beq_eq_false_iff_ne.2 k5
 by_cases k3:c.k=3
 ·refine rkind_k3 c er w k1d k2d k5d (by rw [k3];rfl) h1 h2 h3 h4d g1 g2 g3d k6d (fin _ ?_) cN
  simp [KindOk,CalSame,k3]
 have k3d:(c.k==3)=false:=beq_eq_false_iff_ne.2 k3
 by_cases k4:c.k=4
 ·refine rkind_k4 c er w k1d k2d k5d k3d (by rw [k4];rfl) h1 h2 h3 h4d g1 g2 g3d k6d (fin _ ?_) cN
  simp [KindOk,CalSame,k4]
 have k4d:(c.k==4)=false:=beq_eq_false_iff_ne.2 k4
 have e1:er=1:=no (fun h=>by have:=kind_bd h.1;omega)
 exact rkind_no c er w k1d k2d k5d k3d k4d k6d h1 h2 h3 h4d g1 g2 g3d e1 cN

end Go.Proofs.YtoilomigceijaaaGreatDoor.Fr

