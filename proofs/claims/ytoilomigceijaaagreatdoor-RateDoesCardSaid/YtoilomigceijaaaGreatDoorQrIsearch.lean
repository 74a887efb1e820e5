/- sort.Search, whatever closure it asks, if that tells from a place on 'yes'. -/
import Derived.Test.YtoilomigceijaaaGreatDoorQrJK
import Derived.Test.YtoilomigceijaaaGreatDoorProg
set_option linter.unusedSimpArgs false
set_option linter.unusedVariables false
namespace Go.Proofs.YtoilomigceijaaaGreatDoor.Ip
open Go.RowKit Pr

set_option maxHeartbeats 1000000

set_option maxRecDepth 100000 in
theorem search_any (n r:Nat)(K:FuncId)(caps:Array Value)(w:World)(hn:n≤1000000)(hr:r≤n)(hE:∀ az w1,Sem.run Tryz.prog (callFunc K az) w1= .ok (.enter K az) w1)
  (hC:∀ (W:World) (i:Nat),Below w.heap.size w W→i<n→Calls Tryz.prog K (#[.int .i64 (i:Int)]++caps) W fun e w'=>e= .returned (.bool (decide (r≤i)))∧Below W.heap.size W w') :
  Calls Tryz.prog 102 #[.int .i64 (n:Int),.func (.func K) #[] caps] w fun e w'=>e= .returned (.int .i64 (r:Int))∧Below w.heap.size w w':=by
 have HC:=Lib.hid hC
 clear hC
 go_enter Tryz.func102,Tryz.ntmps102
 go_wp2
 go_loopw [5,6] (fun x y wr=>∃ i j:Nat,i≤r∧r≤j∧j≤n∧x= .int .i64 (i:Int)∧y= .int .i64 (j:Int)∧Below w.heap.size w wr) (fun x y _=>(intOf y).toNat - (intOf x).toNat)
 case atStart=>exact ⟨0,n,by omega,hr,by omega,by simp,rfl,Below.refl _ w⟩
 case round =>
  obtain ⟨i,j,i0,j0,j1,rfl,rfl,B⟩:=hrel
  by_cases hlt:i<j
  ·obtain ⟨h,hh⟩:∃ h:Nat,h=(i+j) / 2:=⟨_,rfl⟩
   have h2:((i:Int)+(j:Int)) / 2=(h:Int):=by omega
   have h0:i≤h:=by omega
   have h1:h<j:=by omega
   have c1:=HC.out wr h B (by omega)
   have dl:decide ((i:Int)<(j:Int))=true:=decide_eq_true (by omega)
   clear hh
   by_cases q:r≤h
   ·rw [decide_eq_true q] at c1
    go_wp2_with fail
    refine c1.mono ?_
    rintro e w2 ⟨rfl,hb⟩
    replace B:=bthen B hb
    clear hb c1
    go_wp2
    go_roundw
    case rel=>exact ⟨i,h,i0,q,by omega,rfl,rfl,B⟩
    case measure=>simp [intOf];omega
   ·rw [decide_eq_false q] at c1
    go_wp2_with fail
    refine c1.mono ?_
    rintro e w2 ⟨rfl,hb⟩
    replace B:=bthen B hb
    clear hb c1
    go_wp2
    go_roundw
    case rel=>exact ⟨h+1,j,by omega,j0,j1,by go_num,rfl,B⟩
    case measure=>simp [intOf];omega
  ·obtain rfl:i=r:=by omega
   have dl:decide ((i:Int)<(j:Int))=false:=decide_eq_false (by omega)
   go_wp2
   go_ret
   exact ⟨rfl,B⟩

end Go.Proofs.YtoilomigceijaaaGreatDoor.Ip

