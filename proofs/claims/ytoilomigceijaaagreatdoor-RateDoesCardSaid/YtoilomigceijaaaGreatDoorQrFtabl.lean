/- From what a row lists of the tables of field and civil to what the walks ask for. -/
import Derived.Test.YtoilomigceijaaaGreatDoorRows
import Derived.Test.YtoilomigceijaaaGreatDoorQrFtab
import Derived.Test.YtoilomigceijaaaGreatDoorQrFcal
import Derived.Lib.LaidTab
import Derived.Lib.LaidU8
import Derived.LaidMore
import Derived.Stop.LaidErr
import Derived.OpenShut
set_option linter.unusedSimpArgs false
set_option linter.unusedVariables false
namespace Go.Proofs.YtoilomigceijaaaGreatDoor.Fp
open Go.RowKit Cp

theorem held_of_reads {P:Program}{W:World}{name:String}{g:Nat}{t e:TypeId}{n:Nat}{l:List (DataW Unit)}(hn:P.globalNamed name=some g)(hy:(P.globals[g]?).map (·.type)=some t)
  (ht:P.underlying t=some (.slice e)) (hl:l.length=n) (h:Lib.VarReads P W name (.slice l [])):Held g n W:=by
 obtain ⟨g',t',cs,fuel,p,hg,hty,hvar,hd⟩:=h
 obtain rfl:=Option.some.inj (hn.symm.trans hg)
 obtain rfl:=Option.some.inj (hy.symm.trans hty)
 rcases DataW.trod_slice ht hd with ⟨_,hx⟩|⟨a,len,cap,el,rs,m,rfl,hcs,hx,_,hlc,_,hel,helem,hsp,_⟩
 ·cases hx
 have e0:=congrArg Prod.fst hx
 simp only [DataW.slice.injEq] at e0
 have hlen:len=n:=by
  have:=congrArg List.length e0.1
  simp at this
  omega
 subst hlen
 have hc:=World.var?_cell hn hvar 0
 rw [← Array.getElem?_toList,hcs] at hc
 have hc':W.cell? ⟨g,0,none⟩=some (.slice (some a) len cap):=by simpa using hc
 exact ⟨a,cap,World.block_lt_of_cell? W ⟨g,0,none⟩ hc',hc'⟩

theorem ints_of_reads {P:Program}{W:World}{name:String}{g:Nat}{t e:TypeId}{n:Nat}{l:List Int}(hn:P.globalNamed name=some g)(hy:(P.globals[g]?).map (·.type)=some t)
  (ht:P.underlying t=some (.slice e)) (he:P.underlying e=some (.int .i64)) (hc:P.cellsOf e=1) (hl:l.length=n) (h0:0<n) (h:Lib.VarReads P W name (.slice (l.map fun z=>.lit (.int .i64 z)) [])):HeldInts g n l W:=by
 obtain ⟨g',t',cs,fuel,p,hg,hty,hvar,hd⟩:=h
 obtain rfl:=Option.some.inj (hn.symm.trans hg)
 obtain rfl:=Option.some.inj (hy.symm.trans hty)
 rcases DataW.trod_slice ht hd with ⟨_,hx⟩|⟨a,len,cap,el,rs,m,rfl,hcs,hx,_,hlc,_,hel,helem,hsp,_⟩
 ·cases hx
 have e0:=congrArg Prod.fst hx
 simp only [DataW.slice.injEq] at e0
 obtain ⟨eE,eR⟩:=e0
 have hlen:len=n:=by
  have:=congrArg List.length eE
  simp at this
  omega
 subst hlen
 have hcell:∀ i,i<l.length→W.cell? (a.add i)=some (.int .i64 (l.getD i 0)):=by
  intro i hi
  have h1:=helem i (by omega)
  rw [hc] at h1
  obtain ⟨b,hb⟩:∃ b,el[i]?=some b:=⟨el[i]'(by omega),List.getElem?_eq_getElem (by omega)⟩
  rw [hb] at h1
  obtain ⟨ce,hce,hte⟩:=Option.bind_eq_some_iff.1 h1
  obtain ⟨z,hz,hbz,_⟩:=DataW.trod_int he hte
  have hb1:b.1= .lit (.int .i64 (l.getD i 0)):=by
   have:=congrArg (·[i]?) eE
   simp [hb,hi,List.getD] at this
   have e2:l.getD i 0=l[i]:=by simp [List.getD,List.getElem?_eq_getElem hi]
   rw [e2]
   exact this.symm
  rw [hbz] at hb1
  simp only [DataW.lit.injEq,Lit.int.injEq,true_and] at hb1
  obtain ⟨_,_,hcc⟩:=World.cells?_some hce
  have h3:=hcc 0 (by omega)
  rw [hz] at h3
  rw [← hb1]
  simpa [Addr.add] using h3
 have hv:=World.var?_cell hn hvar 0
 rw [← Array.getElem?_toList,hcs] at hv
 have hv':W.cell? ⟨g,0,none⟩=some (.slice (some a) len cap):=by simpa using hv
 obtain ⟨b,off,rfl,hc2⟩:=ints_at hcell (by omega)
 refine ⟨b,off,cap,World.block_lt_of_cell? W ⟨g,0,none⟩ hv',World.block_lt_of_cell? W ⟨b,off+0,none⟩ (hc2 0 (by omega)),hv',fun i v e=>?_⟩
 have hi:i<l.length:=(List.getElem?_eq_some_iff.1 e).1
 rw [hc2 i hi]
 simp [List.getD,e]

theorem threes_of_reads {P:Program}{W:World}{name:String}{g:Nat}{t e ei:TypeId}{n:Nat}{l:List (Int×Int×Int)}(hn:P.globalNamed name=some g)(hy:(P.globals[g]?).map (·.type)=some t)
  (ht:P.underlying t=some (.slice e)) (he:P.underlying e=some (.array 3 ei)) (hei:P.underlying ei=some (.int .i64)) (hc:P.cellsOf e=3) (hci:P.cellsOf ei=1) (hl:l.length=n) (h0:0<n)
  (h:Lib.VarReads P W name (.slice (l.map fun z=>.agg [.lit (.int .i64 z.1),.lit (.int .i64 z.2.1),.lit (.int .i64 z.2.2)]) [])) :
  ∃ b o cap,g<W.heap.size∧b<W.heap.size∧W.cell? ⟨g,0,none⟩=some (.slice (some ⟨b,o,none⟩) n cap)∧
   ∀ i z,l[i]?=some z→W.cell? ⟨b,o+i*3,none⟩=some (.int .i64 z.1)∧W.cell? ⟨b,o+(i*3+1),none⟩=some (.int .i64 z.2.1)∧W.cell? ⟨b,o+(i*3+2),none⟩=some (.int .i64 z.2.2):=by
 obtain ⟨g',t',cs,fuel,p,hg,hty,hvar,hd⟩:=h
 obtain rfl:=Option.some.inj (hn.symm.trans hg)
 obtain rfl:=Option.some.inj (hy.symm.trans hty)
 rcases DataW.trod_slice ht hd with ⟨_,hx⟩|⟨a,len,cap,el,rs,m,rfl,hcs,hx,_,hlc,_,hel,helem,hsp,_⟩
 ·cases hx
 have e0:=congrArg Prod.fst hx
 simp only [DataW.slice.injEq] at e0
 obtain ⟨eE,eR⟩:=e0
 have hlen:len=n:=by
  have:=congrArg List.length eE
  simp at this
  omega
 subst hlen
 have hcell:∀ i z,l[i]?=some z→W.cell? ((a.add (i*3)).add 0)=some (.int .i64 z.1)∧W.cell? ((a.add (i*3)).add 1)=some (.int .i64 z.2.1)∧W.cell? ((a.add (i*3)).add 2)=some (.int .i64 z.2.2):=by
  intro i z hz
  have hi:i<l.length:=(List.getElem?_eq_some_iff.1 hz).1
  have h1:=helem i (by omega)
  rw [hc] at h1
  obtain ⟨b,hb⟩:∃ b,el[i]?=some b:=⟨el[i]'(by omega),List.getElem?_eq_getElem (by omega)⟩
  rw [hb] at h1
  obtain ⟨ce,hce,hte⟩:=Option.bind_eq_some_iff.1 h1
  obtain ⟨_,hcl,hat⟩:=World.cells?_some hce
  obtain ⟨xs,k,_,hbx,_,hxl,hxs⟩:=DataW.trod_array he hte
  have hb1:b.1= .agg [.lit (.int .i64 z.1),.lit (.int .i64 z.2.1),.lit (.int .i64 z.2.2)]:=by
   have:=congrArg (·[i]?) eE
   simp [hb,hz] at this
   exact this.symm
  match ce,hcl,xs,hxl with
  | [c0,c1,c2],_,[y0,y1,y2],_ =>
    have g0:DataW.trod (fun _=>()) P W 0 (fun _=>true) false k ei [c0]=some y0:=by simpa [hci] using hxs 0 (by omega)
    have g1:DataW.trod (fun _=>()) P W 0 (fun _=>true) false k ei [c1]=some y1:=by simpa [hci] using hxs 1 (by omega)
    have g2:DataW.trod (fun _=>()) P W 0 (fun _=>true) false k ei [c2]=some y2:=by simpa [hci] using hxs 2 (by omega)
    obtain ⟨z0,q0,r0,_⟩:=DataW.trod_int hei g0
    obtain ⟨z1,q1,r1,_⟩:=DataW.trod_int hei g1
    obtain ⟨z2,q2,r2,_⟩:=DataW.trod_int hei g2
    rw [hbx] at hb1
    simp [r0,r1,r2] at hb1
    simp only [List.cons.injEq,and_true] at q0 q1 q2
    subst q0 q1 q2
    obtain ⟨rfl,rfl,rfl⟩:=hb1
    exact ⟨hat 0 (by omega),hat 1 (by omega),hat 2 (by omega)⟩
 have hv:=World.var?_cell hn hvar 0
 rw [← Array.getElem?_toList,hcs] at hv
 have hv':W.cell? ⟨g,0,none⟩=some (.slice (some a) len cap):=by simpa using hv
 obtain ⟨ab,ao,asp⟩:=a
 obtain ⟨z,hz⟩:∃ z,l[0]?=some z:=⟨l[0]'(by omega),List.getElem?_eq_getElem (by omega)⟩
 have hspot:asp=none:=by simpa [Addr.add] using World.cell?_spot (hcell 0 z hz).1
 subst hspot
 have hc2:∀ i z,l[i]?=some z→W.cell? ⟨ab,ao+i*3,none⟩=some (.int .i64 z.1)∧W.cell? ⟨ab,ao+(i*3+1),none⟩=some (.int .i64 z.2.1)∧W.cell? ⟨ab,ao+(i*3+2),none⟩=some (.int .i64 z.2.2):=by
  intro i z hz
  obtain ⟨k0,k1,k2⟩:=hcell i z hz
  simp only [Go.WideShapes.add_plain,Nat.add_zero,Nat.add_assoc] at k0 k1 k2
  exact ⟨k0,k1,k2⟩
 exact ⟨ab,ao,cap,World.block_lt_of_cell? W ⟨g,0,none⟩ hv',World.block_lt_of_cell? W ⟨ab,ao+0*3,none⟩ (hc2 0 z hz).1,hv',hc2⟩

theorem gCiv:Tryz.prog.globalNamed "quarterday/civil.beforeMonth" =some 5:=by kernel_rfl
theorem gCivType:(Tryz.prog.globals[5]?).map (·.type)=some 207:=by kernel_rfl
theorem cellsCiv:Tryz.prog.cellsOf 207=13:=by kernel_rfl
theorem lt_of_cell {W:World}{g n:Nat}{v:Value}(h:W.cell? ⟨g,n,none⟩=some v):g<W.heap.size:=World.block_lt_of_cell? W ⟨g,n,none⟩ h

abbrev laidList:List (String×DataW Unit) :=
 [("quarterday/civil.beforeMonth",Rows.laid_quarterday_civil_beforeMonth),("quarterday/field.dayNames",Rows.laid_quarterday_field_dayNames),("quarterday/field.monthNames",Rows.laid_quarterday_field_monthNames),("quarterday/field.policyNames",Rows.laid_quarterday_field_policyNames),("quarterday/field.patterns",Rows.laid_quarterday_field_patterns),("quarterday/field.cycles",Rows.laid_quarterday_field_cycles)]

theorem ftab_of_laid {W:World}(h:laidMetH Tryz.prog laidList W):FTab W:=by
 rw [MakeChecks.laidMetH_plain _ _ _ (by kernel_rfl)] at h
 have h':laidMet Tryz.prog (("quarterday/civil.beforeMonth",Lib.tabData .i64 [0,31,59,90,120,151,181,212,243,273,304,334,365]) :: laidList.tail) W:=h
 have hT:=Lib.tabIs_of_head gCiv gCivType Tryz.underlying207 Tryz.underlying3 cellsIntC cellsCiv h'
 have c:∀ i,(hi:i<13)→W.cell? ⟨5,i,none⟩=some (.int .i64 ([0,31,59,90,120,151,181,212,243,273,304,334,365].getD i 0)):=fun i hi=>hT.cell gCiv i hi
 refine ⟨⟨lt_of_cell (c 0 (by omega)),c 0 (by omega),c 1 (by omega),c 2 (by omega),c 3 (by omega),c 4 (by omega),c 5 (by omega),c 6 (by omega),c 7 (by omega),c 8 (by omega),c 9 (by omega),c 10 (by omega),c 11 (by omega),c 12 (by omega)⟩,?_,?_,?_,?_,?_⟩
 ·exact held_of_reads (P:=Tryz.prog) (by kernel_rfl) (by kernel_rfl) Tryz.underlying186 (by rfl) (Lib.laidMet.reads h (n:= "quarterday/field.dayNames") (d:=Rows.laid_quarterday_field_dayNames) (by simp [laidList]))
 ·exact held_of_reads (P:=Tryz.prog) (by kernel_rfl) (by kernel_rfl) Tryz.underlying186 (by rfl) (Lib.laidMet.reads h (n:= "quarterday/field.monthNames") (d:=Rows.laid_quarterday_field_monthNames) (by simp [laidList]))
 ·exact held_of_reads (P:=Tryz.prog) (by kernel_rfl) (by kernel_rfl) Tryz.underlying186 (by rfl) (Lib.laidMet.reads h (n:= "quarterday/field.policyNames") (d:=Rows.laid_quarterday_field_policyNames) (by simp [laidList]))
 ·obtain ⟨b,o,cap,h1,h2,h3,h4⟩:=threes_of_reads (P:=Tryz.prog) (l:=[(5,4,4),(4,5,4),(4,4,5)]) (by kernel_rfl) (by kernel_rfl) Tryz.underlying194 Tryz.underlying22 Tryz.underlying3 cellsPat cellsIntC (by rfl) (by decide)
   (Lib.laidMet.reads h (n:= "quarterday/field.patterns") (d:=Rows.laid_quarterday_field_patterns) (by simp [laidList]))
  refine ⟨b,o,cap,h1,h2,h3,fun i v e=>?_⟩
  have a0:=h4 0 (5,4,4) rfl
  have a1:=h4 1 (4,5,4) rfl
  have a2:=h4 2 (4,4,5) rfl
  have hi:i<9:=(List.getElem?_eq_some_iff.1 e).1
  have hh:i=0∨i=1∨i=2∨i=3∨i=4∨i=5∨i=6∨i=7∨i=8:=by omega
  rcases hh with rfl|rfl|rfl|rfl|rfl|rfl|rfl|rfl|rfl<;>(cases e;first|exact a0.1|exact a0.2.1|exact a0.2.2|exact a1.1|exact a1.2.1|exact a1.2.2|exact a2.1|exact a2.2.1|exact a2.2.2)
 ·exact ints_of_reads (P:=Tryz.prog) (l:=[1,2,4]) (by kernel_rfl) (by kernel_rfl) Tryz.underlying74 Tryz.underlying3 cellsIntC (by rfl) (by decide) (Lib.laidMet.reads h (n:= "quarterday/field.cycles") (d:=Rows.laid_quarterday_field_cycles) (by simp [laidList]))

end Go.Proofs.YtoilomigceijaaaGreatDoor.Fp

