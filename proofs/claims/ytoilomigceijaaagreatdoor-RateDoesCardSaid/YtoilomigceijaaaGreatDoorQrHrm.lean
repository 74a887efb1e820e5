/- The steps of the document's own Ends of layer 15; plain mathematics, nothing of the program. -/
import Derived.Test.YtoilomigceijaaaGreatDoorQrJP
set_option linter.unusedSimpArgs false
set_option linter.unusedVariables false
namespace Go.Proofs.YtoilomigceijaaaGreatDoor.Am
open Cm Em

section
variable {c:CalZ} {y p:Int}
theorem sh_cases (h:KindOk c):(c.sh=4∧per c=12)∨(c.sh=5∧per c=12∧c.k=6)∨(c.sh≠4∧c.sh≠5∧c.k≠6∧CutOk c):=by
 rcases shape_cases h with ⟨_,s,_,_,_,_,e⟩|⟨k,s,_,e⟩|⟨k4,k6,cut⟩
 ·exact .inl ⟨s,e⟩
 ·exact .inr (.inl ⟨s,e,k⟩)
 ·refine .inr (.inr ⟨?_,?_,k6,cut⟩)
  ·unfold CutOk at cut;omega
  ·unfold CutOk at cut;omega
theorem broad_last (h:KindOk c)(sh:c.sh=4)(y0:1601≤y)(y1:y≤9997)(p0:1≤p)(p1:p≤12):LastRes y p 7 (pend c y p) 0 :=
 .inl ⟨⟨by omega,by omega,p0,p1⟩,by omega,by omega,by unfold pend;rw [if_neg (by omega),if_pos sh],rfl⟩
theorem month_step (h:KindOk c)(sh:c.sh=5)(y0:1601≤y)(y1:y≤9997)(p0:1≤p)(p1:p≤12):∃ Y M d n:Int,OfRes (pend c y (p - 1)+1) Y M d 0∧LenRes Y M n 0∧pend c y p=pend c y (p - 1)+n∧28≤n∧n≤31:=by
 have pb:per c=12:=by
  rcases sh_cases h with ⟨s,_⟩|⟨_,e,_⟩|⟨_,s,_⟩
  ·omega
  ·exact e
  ·exact absurd sh s
 have kb:=kind_bd h
 have b0:=pend_bd h y0 y1 (p:=p - 1) (by omega) (by omega)
 have b1:=pend_bd h y0 y1 (p:=p) (by omega) (by omega)
 rcases pend_step h y0 y1 p0 (by omega) with ⟨s,_⟩|⟨_,e,f⟩|⟨_,s,_⟩
 ·omega
 ·have ml:=mlen_bd (mon c y p / 12) (mon c y p%12+1)
  have mo:MonthOk (mon c y p / 12) (mon c y p%12+1):=by
   unfold MonthOk mon
   omega
  exact ⟨_,_,1,_,.inl ⟨by omega,by omega,⟨mo,by omega,by omega⟩,f.symm,rfl⟩,.inl ⟨mo,rfl,rfl⟩,e,ml.1,ml.2⟩
 ·exact absurd sh s
theorem cut_step (h:KindOk c)(s4:c.sh≠4)(s5:c.sh≠5)(y0:1601≤y)(y1:y≤9997)(p0:1≤p)(p1:p≤per c):pend c y p=pend c y (p - 1)+7*wkp c y p∧1≤pat c p∧pat c p≤5:=by
 rcases pend_step h y0 y1 p0 p1 with ⟨s,_⟩|⟨s,_⟩|⟨_,_,_,e,b0,b1⟩
 ·exact absurd s s4
 ·exact absurd s s5
 ·exact ⟨e,b0,b1⟩
end

end Go.Proofs.YtoilomigceijaaaGreatDoor.Am

