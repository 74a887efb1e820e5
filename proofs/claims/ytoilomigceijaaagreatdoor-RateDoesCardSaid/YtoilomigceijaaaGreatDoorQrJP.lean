/- Texts that are joined: Cmath, Claw, Emath, Elaw, Zmath, Zlaw, Zlaw2, Zlaw3, Zlaw4, Amath, Jmath, Alaw, Hmath, Hlaw, Imath, Ilaw, Jlaw, Dmath, Mmath, Mlaw, Mlaw2, Mlaw3, Umath. -/
import Derived.WalkKit
import Derived.Lib.ItoaNum
set_option linter.unusedSimpArgs false
set_option linter.unusedVariables false
namespace Go.Proofs.YtoilomigceijaaaGreatDoor.Cm

def lpB (y:Int):Bool:=decide (y%4=0)&&(!decide (y%100=0)||decide (y%400=0))
def lp (y:Int):Int:=if y%4=0∧(y%100≠0∨y%400=0) then 1 else 0
def dby (y:Int):Int:=365*(y - 1600)+((y - 1) / 4 - 399) - ((y - 1) / 100 - 15)+((y - 1) / 400 - 3)
def mlen (y m:Int):Int :=
 if m=2 then 28+lp y else if m=4∨m=6∨m=9∨m=11 then 30 else 31
def cum (y m:Int):Int :=
 if m=1 then 0 else if m=2 then 31 else if m=3 then 59+lp y else if m=4 then 90+lp y else if m=5 then 120+lp y else if m=6 then 151+lp y
 else if m=7 then 181+lp y else if m=8 then 212+lp y else if m=9 then 243+lp y else if m=10 then 273+lp y else if m=11 then 304+lp y else if m=12 then 334+lp y else 365+lp y
def MonthOk (y m:Int):Prop:=1600≤y∧y≤9999∧1≤m∧m≤12
def DateOk (y m d:Int):Prop:=MonthOk y m∧1≤d∧d≤mlen y m
def num (y m d:Int):Int:=dby y+cum y m+d - 1

theorem lp_01 (y:Int):0≤lp y∧lp y≤1:=by unfold lp;split<;>omega
theorem lp_of {y:Int}:lp y=if lpB y=true then 1 else 0:=by
 unfold lp lpB;simp
theorem dby_succ (y:Int):dby (y+1)=dby y+365+lp y:=by unfold dby lp;split<;>omega
theorem dby_400 (y:Int):dby (y+400)=dby y+146097:=by unfold dby;omega
theorem dby_first:dby 1600=0:=by decide
theorem dby_last:dby 10000=3068037:=by decide
theorem dby_mono {a b:Int}(h:a≤b):dby a≤dby b:=by unfold dby;omega
theorem dby_bd {t:Int}(h0:1600≤t)(h1:t≤10000):0≤dby t∧dby t≤3068037:=by
 have b:=dby_mono (a:=1600) (b:=t) h0
 have c:=dby_mono (a:=t) (b:=10000) h1
 rw [dby_first] at b;rw [dby_last] at c
 exact ⟨b,c⟩
theorem dby_lt {a b n:Int}(h:dby a≤n)(k:n<dby (b+1)):a≤b:=by
 by_cases c:a≤b
 ·exact c
 ·have:=dby_mono (a:=b+1) (b:=a) (by omega);omega
theorem mlen_bd (y m:Int):28≤mlen y m∧mlen y m≤31:=by
 have:=lp_01 y
 unfold mlen;repeat' split<;>omega
theorem cum_succ (y m:Int)(h1:1≤m)(h2:m≤12):cum y (m+1)=cum y m+mlen y m:=by
 have h:m=1∨m=2∨m=3∨m=4∨m=5∨m=6∨m=7∨m=8∨m=9∨m=10∨m=11∨m=12:=by omega
 rcases h with rfl|rfl|rfl|rfl|rfl|rfl|rfl|rfl|rfl|rfl|rfl|rfl<;>simp [cum,mlen]<;>omega
theorem cum_one (y:Int):cum y 1=0:=by simp [cum]
theorem cum_end (y:Int):cum y 13=365+lp y:=by simp [cum]
theorem cum_bd (y m:Int)(_:1≤m)(_:m≤13):0≤cum y m∧cum y m≤365+lp y:=by
 have:=lp_01 y
 unfold cum;repeat' split<;>omega
theorem cum_mono (y:Int){a b:Int}(h1:1≤a)(h:a≤b)(h2:b≤13):cum y a≤cum y b:=by
 have e:∀ k:Nat,a+k≤13→cum y a≤cum y (a+k):=by
  intro k
  induction k with
  | zero=>intro _;simp
  | succ n ih =>
    intro hk
    have:=ih (by omega)
    have h3:=cum_succ y (a+n) (by omega) (by omega)
    have:=mlen_bd y (a+n)
    have e1:a+((n+1:Nat):Int)=a+n+1:=by omega
    rw [e1];omega
 have:=e (b - a).toNat (by omega)
 have e2:a+((b - a).toNat:Int)=b:=by omega
 rwa [e2] at this
theorem cum_step (y:Int){a b:Int}(h1:1≤a)(h:a<b)(h2:b≤13):cum y a+mlen y a≤cum y b:=by
 have:=cum_succ y a h1 (by omega)
 have:=cum_mono y (a:=a+1) (b:=b) (by omega) (by omega) h2
 omega

theorem num_bd {y m d:Int}(h:DateOk y m d):dby y≤num y m d∧num y m d<dby (y+1):=by
 obtain ⟨⟨h1,h2,h3,h4⟩,h5,h6⟩:=h
 have a:=dby_succ y
 have b:=cum_bd y m h3 (by omega)
 have c:=cum_step y h3 (b:=13) (by omega) (by omega)
 rw [cum_end] at c
 unfold num;omega
theorem num_range {y m d:Int}(h:DateOk y m d):0≤num y m d∧num y m d≤3068036:=by
 have a:=num_bd h
 have b:=dby_mono (a:=1600) (b:=y) h.1.1
 have c:=dby_mono (a:=y+1) (b:=10000) (by have:=h.1.2.1;omega)
 rw [dby_first] at b;rw [dby_last] at c
 omega
theorem num_ex {n:Int}(h0:0≤n)(h1:n≤3068036):∃ y m d,DateOk y m d∧num y m d=n:=by
 have year:∀ k:Nat,k≤8400→n<dby (1600+k)→∃ y:Int,1600≤y∧y<1600+k∧dby y≤n∧n<dby (y+1):=by
  intro k
  induction k with
  | zero=>intro _ h;rw [show (1600:Int)+(0:Nat)=1600 by omega,dby_first] at h;omega
  | succ j ih =>
    intro hk h
    by_cases c:n<dby (1600+j)
    ·obtain ⟨y,a,b,c1,d⟩:=ih (by omega) c
     exact ⟨y,a,by omega,c1,d⟩
    ·exact ⟨1600+j,by omega,by omega,by omega,by rw [show (1600:Int)+j+1=1600+((j+1:Nat):Int) by omega];exact h⟩
 obtain ⟨y,y0,y1,ya,yb⟩:=year 8400 (by omega) (by rw [show (1600:Int)+(8400:Nat)=10000 by omega,dby_last];omega)
 have ys:=dby_succ y
 have month:∀ k:Nat,k≤12→n - dby y<cum y (1+k)→∃ m:Int,1≤m∧m<1+k∧cum y m≤n - dby y∧n - dby y<cum y (m+1):=by
  intro k
  induction k with
  | zero=>intro _ h;rw [show (1:Int)+(0:Nat)=1 by omega,cum_one] at h;omega
  | succ j ih =>
    intro hk h
    by_cases c:n - dby y<cum y (1+j)
    ·obtain ⟨m,a,b,c1,d⟩:=ih (by omega) c
     exact ⟨m,a,by omega,c1,d⟩
    ·exact ⟨1+j,by omega,by omega,by omega,by rw [show (1:Int)+j+1=1+((j+1:Nat):Int) by omega];exact h⟩
 obtain ⟨m,m0,m1,ma,mb⟩:=month 12 (by omega) (by rw [show (1:Int)+(12:Nat)=13 by omega,cum_end];omega)
 have ms:=cum_succ y m m0 (by omega)
 exact ⟨y,m,n - dby y - cum y m+1,⟨⟨y0,by omega,m0,by omega⟩,by omega,by omega⟩,by unfold num;omega⟩

def wday (n:Int):Int:=(n+5)%7+1

def LenRes (y m v er:Int):Prop:=(MonthOk y m∧v=mlen y m∧er=0)∨(¬ MonthOk y m∧v=0∧er=4)
def ChkRes (y m d er:Int):Prop:=(DateOk y m d∧er=0)∨(¬ DateOk y m d∧er=4)
def DayRes (y m d v er:Int):Prop:=(DateOk y m d∧v=num y m d∧er=0)∨(¬ DateOk y m d∧v=0∧er=4)
def OfRes (n y m d er:Int):Prop:=(0≤n∧n≤3068036∧DateOk y m d∧num y m d=n∧er=0)∨(¬ (0≤n∧n≤3068036)∧y=0∧m=0∧d=0∧er=4)
def WkdRes (n v er:Int):Prop:=(0≤n∧n≤3068036∧v=wday n∧er=0)∨(¬ (0≤n∧n≤3068036)∧v=0∧er=4)
def AddRes (a n v er:Int):Prop:=(0≤a∧a≤3068036∧0≤a+n∧a+n≤3068036∧v=a+n∧er=0)∨(¬ (0≤a∧a≤3068036∧0≤a+n∧a+n≤3068036)∧v=0∧er=4)

theorem ofres_ex (n:Int):∃ y m d er,OfRes n y m d er:=by
 by_cases h:0≤n∧n≤3068036
 ·obtain ⟨y,m,d,h1,h2⟩:=num_ex h.1 h.2
  exact ⟨y,m,d,0,.inl ⟨h.1,h.2,h1,h2,rfl⟩⟩
 ·exact ⟨0,0,0,4,.inr ⟨h,rfl,rfl,rfl,rfl⟩⟩
end Go.Proofs.YtoilomigceijaaaGreatDoor.Cm

namespace Go.Proofs.YtoilomigceijaaaGreatDoor.Cm

end Go.Proofs.YtoilomigceijaaaGreatDoor.Cm

namespace Go.Proofs.YtoilomigceijaaaGreatDoor.Em
open Cm

def fm (y:Int):Int:=dby y+3 - (dby y+8)%7
def many (y:Int):Int:=(fm (y+1) - fm y) / 7
def mend (y m:Int):Int:=num y m (mlen y m)
def mback (y m wd:Int):Int:=(wday (mend y m) - wd)%7
def LastRes (y m wd v er:Int):Prop :=
 (MonthOk y m∧1≤wd∧wd≤7∧v=mend y m - mback y m wd∧er=0)∨(MonthOk y m∧¬ (1≤wd∧wd≤7)∧v=0∧er=1)∨(¬ MonthOk y m∧v=0∧er=4)
def nearv (y m wd:Int):Int:=if 3<mback y m wd then mend y m - (mback y m wd - 7) else mend y m - mback y m wd
def NearRes (y m wd v er:Int):Prop :=
 (MonthOk y m∧1≤wd∧wd≤7∧nearv y m wd≤3068036∧v=nearv y m wd∧er=0)∨(MonthOk y m∧1≤wd∧wd≤7∧3068036<nearv y m wd∧v=0∧er=4)∨
 (MonthOk y m∧¬ (1≤wd∧wd≤7)∧v=0∧er=1)∨(¬ MonthOk y m∧v=0∧er=4)

theorem end_ok {y m:Int}(h:MonthOk y m):DateOk y m (mlen y m):=⟨h,by have:=mlen_bd y m;omega,by omega⟩
theorem end_range {y m:Int}(h:MonthOk y m):30≤mend y m∧mend y m≤3068036:=by
 have a:=num_range (end_ok h)
 refine ⟨?_,a.2⟩
 have:=cum_step y h.2.2.1 (b:=m+1) (by omega) (by have:=h.2.2.2;omega)
 have b:=cum_succ y m h.2.2.1 h.2.2.2
 have c:=dby_mono (a:=1600) (b:=y) h.1
 rw [dby_first] at c
 have d:=cum_mono y (a:=2) (b:=m+1) (by omega) (by have:=h.2.2.1;omega) (by have:=h.2.2.2;omega)
 have e:cum y 2=31:=by simp [cum]
 unfold mend num;omega
theorem back_bd (y m wd:Int):0≤mback y m wd∧mback y m wd≤6:=by unfold mback;omega
theorem near_low {y m wd:Int}(h:MonthOk y m):0≤nearv y m wd∧nearv y m wd≤3068039:=by
 have a:=end_range h
 have b:=back_bd y m wd
 unfold nearv;split<;>omega
theorem wday_bd (n:Int):1≤wday n∧wday n≤7:=by unfold wday;omega
theorem back_wday {y m wd:Int}(h0:1≤wd)(h1:wd≤7):wday (mend y m - mback y m wd)=wd:=by
 unfold mback wday;omega

def EndRes (y m wd v b er:Int):Prop :=
 (MonthOk y m∧1≤wd∧wd≤7∧v=mend y m∧b=mback y m wd∧er=0)∨(MonthOk y m∧¬ (1≤wd∧wd≤7)∧v=0∧b=0∧er=1)∨(¬ MonthOk y m∧v=0∧b=0∧er=4)

end Go.Proofs.YtoilomigceijaaaGreatDoor.Em

namespace Go.Proofs.YtoilomigceijaaaGreatDoor.Em
open Cm

theorem ends_year {y m:Int}(h:MonthOk y m):mend (y+1) m=mend y m+365∨mend (y+1) m=mend y m+366:=by
 have c:=cum_succ y m h.2.2.1 h.2.2.2
 have c':=cum_succ (y+1) m h.2.2.1 h.2.2.2
 have d:=dby_succ y
 have l:=lp_01 y
 have l':=lp_01 (y+1)
 have hm:m=1∨(2≤m):=by have:=h.2.2.1;omega
 have e:cum y (m+1)=cum 1601 (m+1)+(if m=1 then 0 else lp y)∧cum (y+1) (m+1)=cum 1601 (m+1)+(if m=1 then 0 else lp (y+1)):=by
  have z:lp 1601=0:=by decide
  have hm:m=1∨m=2∨m=3∨m=4∨m=5∨m=6∨m=7∨m=8∨m=9∨m=10∨m=11∨m=12:=by have:=h.2.2;omega
  rcases hm with rfl|rfl|rfl|rfl|rfl|rfl|rfl|rfl|rfl|rfl|rfl|rfl<;>simp [cum,z]
 obtain ⟨e1,e2⟩:=e
 unfold mend num
 split at e1<;>split at e2<;>omega
theorem lasts_year {y m wd:Int}(h:MonthOk y m):mend (y+1) m - mback (y+1) m wd - (mend y m - mback y m wd)=364∨mend (y+1) m - mback (y+1) m wd - (mend y m - mback y m wd)=371:=by
 have e:=ends_year h
 unfold mback wday
 omega
theorem nears_year {y m wd:Int}(h:MonthOk y m):nearv (y+1) m wd - nearv y m wd=364∨nearv (y+1) m wd - nearv y m wd=371:=by
 have e:=ends_year h
 have a:(mend (y+1) m - mback (y+1) m wd - (mend y m - mback y m wd))%7=0:=by unfold mback wday;omega
 have b:=back_bd y m wd
 have b':=back_bd (y+1) m wd
 unfold nearv
 split<;>split<;>omega
theorem near_early {y m wd:Int}(h:MonthOk y m)(h1:y≤9998):nearv y m wd≤3068036:=by
 have e:=ends_year h
 have r:=near_low (wd:=wd) (⟨by have:=h.1;omega,by omega,h.2.2⟩:MonthOk (y+1) m)
 have q:=nears_year (wd:=wd) h
 omega

end Go.Proofs.YtoilomigceijaaaGreatDoor.Em

namespace Go.Proofs.YtoilomigceijaaaGreatDoor.Zm

def letter (c:UInt8):Bool:=decide (97≤c.toNat)&&decide (c.toNat≤122)
def digit (c:UInt8):Bool:=decide (48≤c.toNat)&&decide (c.toNat≤57)
def inner (c:UInt8):Bool:=letter c||digit c||decide (c.toNat=45)
def blank (c:UInt8):Bool:=decide (c.toNat=32)||decide (c.toNat=9)||decide (c.toNat=10)
def onLine (c:UInt8):Bool:=!decide (c.toNat=10)
def val (l:List UInt8):Nat:=l.foldl (fun n c=>10*n+(c.toNat - 48)) 0

structure Tk where
 k:Nat
 a:Nat
 n:Nat
 s:List UInt8

inductive Step where
 | skip (n:Nat)
 | wrong
 | err (e off:Nat)
 | tok (k n:Nat) (s:List UInt8) (len:Nat)

def startsInner:List UInt8→Bool
 | []=>false
 | c :: _=>inner c

def step (c:UInt8)(r:List UInt8):Step :=
 if blank c then .skip 1
 else if c.toNat=35 then .skip ((r.takeWhile onLine).length+1)
 else if letter c then
  if 16<(r.takeWhile inner).length+1 then .err 6 0 else .tok 1 0 (c :: r.takeWhile inner) ((r.takeWhile inner).length+1)
 else if digit c then
  if 9<(r.takeWhile digit).length+1 then .err 6 0
  else if c.toNat=48∧1<(r.takeWhile digit).length+1 then .err 5 0
  else if startsInner (r.drop (r.takeWhile digit).length) then .err 5 ((r.takeWhile digit).length+1)
  else .tok 2 (val (c :: r.takeWhile digit)) [] ((r.takeWhile digit).length+1)
 else if c.toNat=123 then .tok 3 0 [] 1
 else if c.toNat=125 then .tok 4 0 [] 1
 else if c.toNat=59 then .tok 5 0 [] 1
 else .wrong

theorem takeWhile_le {p:UInt8→Bool}(r:List UInt8):(r.takeWhile p).length≤r.length:=by
 induction r with
 | nil=>simp
 | cons c r ih=>by_cases h:p c<;>simp [List.takeWhile_cons,h]<;>omega

def cut (l:List UInt8)(cnt p:Nat):Except (Nat×Nat) (List Tk) :=
 match l with
 | []=>.ok []
 | c :: r =>
   match step c r with
   | .skip n=>cut (r.drop (n - 1)) cnt (p+n)
   | .wrong=>.error (5,p)
   | .err e o=>if cnt=8192 then .error (6,p) else .error (e,p+o)
   | .tok k n s len =>
     if cnt=8192 then .error (6,p)
     else match cut (r.drop (len - 1)) (cnt+1) (p+len) with
      | .ok a=>.ok (⟨k,p,n,s⟩ :: a)
      | .error x=>.error x
 termination_by l.length
 decreasing_by all_goals (simp;omega)

def tot (l:List UInt8)(p:Nat)(acc:List Tk):Except (Nat×Nat) (List Tk):=(cut l acc.length p).map (acc++·)

end Go.Proofs.YtoilomigceijaaaGreatDoor.Zm

namespace Go.Proofs.YtoilomigceijaaaGreatDoor.Zm
open Go.Lib (decDigits)

def name:List UInt8→Bool
 | []=>false
 | c :: r=>letter c&&r.all inner&&decide (r.length+1≤16)

end Go.Proofs.YtoilomigceijaaaGreatDoor.Zm

namespace Go.Proofs.YtoilomigceijaaaGreatDoor.Zm
open Go.Lib (decDigits)

theorem drop_takeWhile {p:UInt8→Bool}(r:List UInt8):∀ c m,r.drop (r.takeWhile p).length=c :: m→p c=false:=by
 induction r with
 | nil=>intro c m h;simp at h
 | cons d r ih =>
   intro c m h
   by_cases hd:p d
   ·simp [List.takeWhile_cons,hd] at h;exact ih c m h
   ·simp [List.takeWhile_cons,hd] at h;obtain ⟨rfl,_⟩:=h;simpa using hd

end Go.Proofs.YtoilomigceijaaaGreatDoor.Zm

namespace Go.Proofs.YtoilomigceijaaaGreatDoor.Zm
open Go.Lib (decDigits)

end Go.Proofs.YtoilomigceijaaaGreatDoor.Zm

namespace Go.Proofs.YtoilomigceijaaaGreatDoor.Zm
open Go.Lib (decDigits)

section
variable {c:UInt8} {r:List UInt8}
end

end Go.Proofs.YtoilomigceijaaaGreatDoor.Zm

namespace Go.Proofs.YtoilomigceijaaaGreatDoor.Am
open Cm Em
open Zm (name)

structure CalZ where
 nm:ByteArray
 k:Int
 d:Int
 m:Int
 s:Int
 sh:Int
 p0:Int
 p1:Int
 p2:Int
 cy:Int
 ex:Int
 fi:Int
 la:Int
 po:Int

def per (c:CalZ):Int:=if c.sh=2 then 13 else if c.sh=3 then 52 / c.cy else 12
def CutOk (c:CalZ):Prop :=
 (c.sh=1∧((c.p0=5∧c.p1=4∧c.p2=4)∨(c.p0=4∧c.p1=5∧c.p2=4)∨(c.p0=4∧c.p1=4∧c.p2=5))∧c.cy=0∧1≤c.ex∧c.ex≤12)∨
 (c.sh=2∧c.p0=0∧c.p1=0∧c.p2=0∧c.cy=0∧1≤c.ex∧c.ex≤13)∨
 (c.sh=3∧c.p0=0∧c.p1=0∧c.p2=0∧((c.cy=1∧1≤c.ex∧c.ex≤52)∨(c.cy=2∧1≤c.ex∧c.ex≤26)∨(c.cy=4∧1≤c.ex∧c.ex≤13)))
def KindOk (c:CalZ):Prop :=
 ((c.k=1∨c.k=2)∧1≤c.d∧c.d≤7∧1≤c.m∧c.m≤12∧0≤c.s∧c.s≤1∧CutOk c)∨
 (c.k=3∧c.d=6∧c.m=1∧c.s=1∧c.sh=1∧c.p0=4∧c.p1=5∧c.p2=4∧c.cy=0∧c.ex=12)∨
 (c.k=4∧c.d=7∧c.m=12∧c.s=0∧c.sh=4∧c.p0=0∧c.p1=0∧c.p2=0∧c.cy=0∧c.ex=12)∨
 (c.k=5∧c.d=7∧c.m=12∧c.s=0∧CutOk c)∨
 (c.k=6∧c.d=0∧1≤c.m∧c.m≤12∧0≤c.s∧c.s≤1∧c.sh=5∧c.p0=0∧c.p1=0∧c.p2=0∧c.cy=0∧c.ex=0)
def YearsOk (c:CalZ):Prop:=1602≤c.fi∧c.la≤9996∧c.fi≤c.la∧c.la - c.fi<400
def PolOk (c:CalZ):Prop:=1≤c.po∧c.po≤4∧(c.po=4↔c.k=6)
def CalOk (c:CalZ):Prop:=KindOk c∧name c.nm.data.toList=true∧YearsOk c∧PolOk c
def ChkA (c:CalZ)(er:Int):Prop:=(CalOk c∧er=0)∨(¬ CalOk c∧er=1)

theorem kind_bd {c:CalZ}(h:KindOk c):1≤c.m∧c.m≤12∧0≤c.s∧c.s≤1∧1≤c.k∧c.k≤6∧(c.k≠6→1≤c.d∧c.d≤7)∧(c.k=4→c.m=12∧c.d=7∧c.s=0)∧(c.k=5→c.m=12∧c.d=7∧c.s=0)∧(c.k=3→c.m=1∧c.d=6∧c.s=1):=by
 rcases h with h|h|h|h|h<;>(refine ⟨?_,?_,?_,?_,?_,?_,?_,?_,?_,?_⟩<;>omega)

def yend (c:CalZ)(y:Int):Int :=
 if c.k=1∨c.k=4 then mend (y+c.s) c.m - mback (y+c.s) c.m c.d else if c.k=6 then mend (y+c.s) c.m else nearv (y+c.s) c.m c.d

theorem near_bd (y m wd:Int):mend y m - 3≤nearv y m wd∧nearv y m wd≤mend y m+3:=by
 have b:=back_bd y m wd
 unfold nearv;split<;>omega
theorem near_wday {y m wd:Int}(h0:1≤wd)(h1:wd≤7):wday (nearv y m wd)=wd:=by
 have a:=back_wday (y:=y) (m:=m) h0 h1
 unfold nearv
 split
 ·unfold wday at *;omega
 ·exact a
theorem mon_ok {c:CalZ}{y:Int}(h:KindOk c)(y0:1600≤y)(y1:y≤9998):MonthOk (y+c.s) c.m:=by
 have b:=kind_bd h
 exact ⟨by omega,by omega,b.1,b.2.1⟩

theorem yend_bd {c:CalZ}{y:Int}(h:KindOk c)(y0:1600≤y)(y1:y≤9997):0≤yend c y∧yend c y≤3068036:=by
 have ok:=mon_ok h y0 (by omega)
 have b:=kind_bd h
 have e:=end_range ok
 have k:=back_bd (y+c.s) c.m c.d
 have n:=near_low (wd:=c.d) ok
 have n1:=near_early (wd:=c.d) ok (by omega)
 unfold yend
 split
 ·omega
 ·split<;>omega
theorem yend_step {c:CalZ}{y:Int}(h:KindOk c)(y0:1600≤y)(y1:y≤9998) :
  (c.k≠6∧(yend c (y+1)=yend c y+364∨yend c (y+1)=yend c y+371))∨(c.k=6∧(yend c (y+1)=yend c y+365∨yend c (y+1)=yend c y+366)):=by
 have ok:=mon_ok h y0 y1
 have a:=ends_year ok
 have l:=lasts_year (wd:=c.d) ok
 have n:=nears_year (wd:=c.d) ok
 have e:y+1+c.s=y+c.s+1:=by omega
 unfold yend
 rw [e]
 by_cases k1:c.k=1∨c.k=4
 ·rw [if_pos k1,if_pos k1];omega
 ·rw [if_neg k1,if_neg k1]
  by_cases k6:c.k=6
  ·rw [if_pos k6,if_pos k6];omega
  ·rw [if_neg k6,if_neg k6];omega
theorem yend_lt {c:CalZ}{a b:Int}(h:KindOk c)(a0:1600≤a)(l:a<b)(b1:b≤9998):yend c a+364*(b - a)≤yend c b∧yend c b≤yend c a+371*(b - a):=by
 have e:∀ k:Nat,a+k≤9998→yend c a+364*k≤yend c (a+k)∧yend c (a+k)≤yend c a+371*k:=by
  intro k
  induction k with
  | zero=>intro _;simp
  | succ n ih =>
    intro hk
    have:=ih (by omega)
    have s:=yend_step h (y:=a+n) (by omega) (by omega)
    have e1:a+((n+1:Nat):Int)=a+n+1:=by omega
    rw [e1];omega
 have:=e (b - a).toNat (by omega)
 have e2:a+((b - a).toNat:Int)=b:=by omega
 rw [e2] at this
 omega
def EndA (c:CalZ)(y v er:Int):Prop :=
 (CalOk c∧1600≤y∧y≤9997∧v=yend c y∧er=0)∨(CalOk c∧¬ (1600≤y∧y≤9997)∧v=0∧er=11)∨(¬ CalOk c∧v=0∧er=1)
def StartA (c:CalZ)(y v er:Int):Prop :=
 (CalOk c∧1601≤y∧y≤9997∧v=yend c (y - 1)+1∧er=0)∨(CalOk c∧¬ (1601≤y∧y≤9997)∧v=0∧er=11)∨(¬ CalOk c∧v=0∧er=1)
def DaysA (c:CalZ)(y v er:Int):Prop :=
 (CalOk c∧1601≤y∧y≤9997∧v=yend c y - yend c (y - 1)∧er=0)∨(CalOk c∧¬ (1601≤y∧y≤9997)∧v=0∧er=11)∨(¬ CalOk c∧v=0∧er=1)
def WeeksA (c:CalZ)(y v er:Int):Prop :=
 (CalOk c∧c.k≠6∧1601≤y∧y≤9997∧v=(yend c y - yend c (y - 1)) / 7∧er=0)∨(CalOk c∧c.k≠6∧¬ (1601≤y∧y≤9997)∧v=0∧er=11)∨((¬ CalOk c∨c.k=6)∧v=0∧er=1)
theorem enda_ex (c:CalZ)(y:Int):∃ v er,EndA c y v er:=by
 by_cases h:CalOk c
 ·by_cases k:1600≤y∧y≤9997
  ·exact ⟨_,0,.inl ⟨h,k.1,k.2,rfl,rfl⟩⟩
  ·exact ⟨0,11,.inr (.inl ⟨h,k,rfl,rfl⟩)⟩
 ·exact ⟨0,1,.inr (.inr ⟨h,rfl,rfl⟩)⟩
theorem starta_ex (c:CalZ)(y:Int):∃ v er,StartA c y v er:=by
 by_cases h:CalOk c
 ·by_cases k:1601≤y∧y≤9997
  ·exact ⟨_,0,.inl ⟨h,k.1,k.2,rfl,rfl⟩⟩
  ·exact ⟨0,11,.inr (.inl ⟨h,k,rfl,rfl⟩)⟩
 ·exact ⟨0,1,.inr (.inr ⟨h,rfl,rfl⟩)⟩
theorem year_from {c:CalZ}{n Y s:Int}(h:KindOk c)(Y0:1600≤Y)(Y1:Y≤9999)(a:dby Y≤n)(b:n<dby (Y+1))(hs:s=max (Y - 1 - c.s) 1600) :
  (1600<s→s≤9998∧yend c (s - 1)<n)∧1600≤s∧s≤9998:=by
 have k:=kind_bd h
 have hm:1600≤s∧(1600<s→s=Y - 1 - c.s):=by omega
 refine ⟨fun g=>⟨by omega,?_⟩,hm.1,by omega⟩
 have e:=hm.2 g
 have ok:=mon_ok h (y:=s - 1) (by omega) (by omega)
 have t:s - 1+c.s=Y - 2:=by omega
 rw [t] at ok
 have nb:=near_bd (Y - 2) c.m c.d
 have bb:=back_bd (Y - 2) c.m c.d
 have u:=num_bd (end_ok ok)
 have d:=dby_succ (Y - 1)
 have l:=lp_01 (Y - 1)
 have e2:Y - 2+1=Y - 1:=by omega
 have e3:Y - 1+1=Y:=by omega
 rw [e2] at u
 rw [e3] at d
 have z:yend c (s - 1)≤mend (Y - 2) c.m+3:=by
  unfold yend;rw [t];split
  ·omega
  ·split<;>omega
 unfold mend at z
 omega

end Go.Proofs.YtoilomigceijaaaGreatDoor.Am

namespace Go.Proofs.YtoilomigceijaaaGreatDoor.Am
open Cm Em

def OfA (c:CalZ)(n y er:Int):Prop :=
 (CalOk c∧0≤n∧n≤3068036∧1601≤y∧y≤9997∧yend c (y - 1)<n∧n≤yend c y∧er=0)∨
 (CalOk c∧0≤n∧n≤3068036∧(n≤yend c 1600∨yend c 9997<n)∧y=0∧er=11)∨
 (CalOk c∧¬ (0≤n∧n≤3068036)∧y=0∧er=4)∨(¬ CalOk c∧y=0∧er=1)
theorem year_ex {c:CalZ}{n:Int}(h:KindOk c)(a:yend c 1600<n)(b:n≤yend c 9997):∃ y,1601≤y∧y≤9997∧yend c (y - 1)<n∧n≤yend c y:=by
 have e:∀ k:Nat,k≤8397→n≤yend c (1600+k)→∃ y:Int,1601≤y∧y≤1600+k∧yend c (y - 1)<n∧n≤yend c y:=by
  intro k
  induction k with
  | zero=>intro _ h;simp at h;omega
  | succ j ih =>
    intro hk h
    by_cases q:n≤yend c (1600+j)
    ·obtain ⟨y,a,b,c1,d⟩:=ih (by omega) q
     exact ⟨y,a,by omega,c1,d⟩
    ·refine ⟨1600+((j+1:Nat):Int),by omega,by omega,?_,h⟩
     have t:1600+((j+1:Nat):Int) - 1=1600+j:=by omega
     rw [t];omega
 obtain ⟨y,y0,y1,y2,y3⟩:=e 8397 (by omega) b
 exact ⟨y,y0,by omega,y2,y3⟩
theorem year_uniq {c:CalZ}{n y z:Int}(h:KindOk c)(y0:1601≤y)(y1:y≤9997)(ya:yend c (y - 1)<n)(yb:n≤yend c y)(z0:1601≤z)(z1:z≤9997)(za:yend c (z - 1)<n)(zb:n≤yend c z):y=z:=by
 rcases Int.lt_trichotomy y z with l|l|l
 ·by_cases e:y=z - 1
  ·subst e;omega
  ·have:=yend_lt h (a:=y) (b:=z - 1) (by omega) (by omega) (by omega);omega
 ·exact l
 ·by_cases e:z=y - 1
  ·subst e;omega
  ·have:=yend_lt h (a:=z) (b:=y - 1) (by omega) (by omega) (by omega);omega
theorem ofa_ex (c:CalZ)(n:Int):∃ y er,OfA c n y er:=by
 by_cases h:CalOk c
 ·by_cases k:0≤n∧n≤3068036
  ·by_cases a:yend c 1600<n∧n≤yend c 9997
   ·obtain ⟨y,q⟩:=year_ex h.1 a.1 a.2
    exact ⟨y,0,.inl ⟨h,k.1,k.2,q.1,q.2.1,q.2.2.1,q.2.2.2,rfl⟩⟩
   ·exact ⟨0,11,.inr (.inl ⟨h,k.1,k.2,by omega,rfl,rfl⟩)⟩
  ·exact ⟨0,4,.inr (.inr (.inl ⟨h,k,rfl,rfl⟩))⟩
 ·exact ⟨0,1,.inr (.inr (.inr ⟨h,rfl,rfl⟩))⟩
theorem year_near {c:CalZ}{n Y y:Int}(h:KindOk c)(a:dby Y≤n)(b:n<dby (Y+1))(y0:1601≤y)(y1:y≤9997)(ya:yend c (y - 1)<n)(yb:n≤yend c y):Y - 1≤y+c.s∧y+c.s≤Y+1:=by
 have k:=kind_bd h
 have ok:=mon_ok h (y:=y) (by omega) (by omega)
 have ok1:=mon_ok h (y:=y - 1) (by omega) (by omega)
 have z0:=near_bd (y+c.s) c.m c.d
 have z1:=back_bd (y+c.s) c.m c.d
 have z2:=near_bd (y - 1+c.s) c.m c.d
 have z3:=back_bd (y - 1+c.s) c.m c.d
 have u:=num_bd (end_ok ok)
 have u1:=num_bd (end_ok ok1)
 have e0:yend c y≤mend (y+c.s) c.m+3:=by
  unfold yend;split
  ·omega
  ·split<;>omega
 have e1:mend (y - 1+c.s) c.m - 6≤yend c (y - 1):=by
  unfold yend;split
  ·omega
  ·split<;>omega
 have m1:dby (y - 1+c.s)+27≤mend (y - 1+c.s) c.m:=by
  have:=cum_bd (y - 1+c.s) c.m k.1 (by omega)
  have:=mlen_bd (y - 1+c.s) c.m
  unfold mend num;omega
 unfold mend at e0
 constructor
 ·by_cases q:Y - 1≤y+c.s
  ·exact q
  ·have:=dby_mono (a:=y+c.s+1) (b:=Y - 1) (by omega)
   have d5:=dby_succ (Y - 1)
   have:=lp_01 (Y - 1)
   have t:Y - 1+1=Y:=by omega
   rw [t] at d5
   omega
 ·by_cases q:y+c.s≤Y+1
  ·exact q
  ·have:=dby_mono (a:=Y+1) (b:=y - 1+c.s) (by omega)
   omega
def BoundsA (c:CalZ)(a b er:Int):Prop:=(CalOk c∧a=yend c (c.fi - 1)+1∧b=yend c c.la∧er=0)∨(¬ CalOk c∧a=0∧b=0∧er=1)
def ServedA (c:CalZ)(n v er:Int):Prop:=∃ y e0,OfA c n y e0∧((e0≠0∧v=0∧er=e0)∨(e0=0∧c.fi≤y∧y≤c.la∧v=y∧er=0)∨(e0=0∧¬ (c.fi≤y∧y≤c.la)∧v=0∧er=11))
theorem serveda_ex (c:CalZ)(n:Int):∃ v er,ServedA c n v er:=by
 obtain ⟨y,e0,h⟩:=ofa_ex c n
 by_cases e:e0=0
 ·by_cases k:c.fi≤y∧y≤c.la
  ·exact ⟨y,0,y,e0,h,.inr (.inl ⟨e,k.1,k.2,rfl,rfl⟩)⟩
  ·exact ⟨0,11,y,e0,h,.inr (.inr ⟨e,k,rfl,rfl⟩)⟩
 ·exact ⟨0,e0,y,e0,h,.inl ⟨e,rfl,rfl⟩⟩

end Go.Proofs.YtoilomigceijaaaGreatDoor.Am

namespace Go.Proofs.YtoilomigceijaaaGreatDoor.Am
open Cm Em

end Go.Proofs.YtoilomigceijaaaGreatDoor.Am

namespace Go.Proofs.YtoilomigceijaaaGreatDoor.Am
open Cm Em

def wcum (c:CalZ)(p:Int):Int:=if c.sh=1 then 13*(p / 3)+(if p%3=0 then 0 else if p%3=1 then c.p0 else c.p0+c.p1) else if c.sh=2 then 4*p else c.cy*p
def pat (c:CalZ)(p:Int):Int:=if c.sh=1 then (if (p - 1)%3=0 then c.p0 else if (p - 1)%3=1 then c.p1 else c.p2) else if c.sh=2 then 4 else c.cy
def nweeks (c:CalZ)(y:Int):Int:=(yend c y - yend c (y - 1)) / 7
def wkp (c:CalZ)(y p:Int):Int:=pat c p+(if p=c.ex then nweeks c y - 52 else 0)
def mon (c:CalZ)(y p:Int):Int:=12*(y+c.s - 1)+c.m - 1+p
def mendt (t:Int):Int:=mend (t / 12) (t%12+1)
def pend (c:CalZ)(y p:Int):Int :=
 if p≤0 then yend c (y - 1) else if c.sh=4 then mend y p - mback y p 7 else if c.sh=5 then mendt (mon c y p)
 else yend c (y - 1)+7*(wcum c p+(if c.ex≤p then nweeks c y - 52 else 0))
def wks (c:CalZ)(y p:Int):Int:=(pend c y p - pend c y (p - 1)+6) / 7

theorem shape_cases {c:CalZ}(h:KindOk c):(c.k=4∧c.sh=4∧c.m=12∧c.d=7∧c.s=0∧c.ex=12∧per c=12)∨(c.k=6∧c.sh=5∧c.ex=0∧per c=12)∨(c.k≠4∧c.k≠6∧CutOk c):=by
 rcases h with ⟨hk,h⟩|⟨hk,h⟩|⟨hk,h⟩|⟨hk,h⟩|⟨hk,h⟩
 ·exact .inr (.inr ⟨by omega,by omega,h.2.2.2.2.2.2⟩)
 ·exact .inr (.inr ⟨by omega,by omega,.inl ⟨h.2.2.2.1,by omega,h.2.2.2.2.2.2.2.1,by omega,by omega⟩⟩)
 ·exact .inl ⟨hk,h.2.2.2.1,h.2.1,h.1,h.2.2.1,by omega,by unfold per;simp [h.2.2.2.1]⟩
 ·exact .inr (.inr ⟨by omega,by omega,h.2.2.2⟩)
 ·exact .inr (.inl ⟨hk,h.2.2.2.2.2.1,by omega,by unfold per;simp [h.2.2.2.2.2.1]⟩)
theorem cut_cases {c:CalZ}(h:CutOk c) :
  (c.sh=1∧per c=12∧4≤c.p0∧c.p0≤5∧4≤c.p1∧c.p1≤5∧4≤c.p2∧c.p2≤5∧c.p0+c.p1+c.p2=13∧1≤c.ex∧c.ex≤12)∨(c.sh=2∧per c=13∧1≤c.ex∧c.ex≤13)∨
  (c.sh=3∧c.cy=1∧per c=52∧1≤c.ex∧c.ex≤52)∨(c.sh=3∧c.cy=2∧per c=26∧1≤c.ex∧c.ex≤26)∨(c.sh=3∧c.cy=4∧per c=13∧1≤c.ex∧c.ex≤13):=by
 rcases h with ⟨h1,h2,h3,h4⟩|⟨h1,h2⟩|⟨h1,_,_,_,h|h|h⟩
 ·exact .inl ⟨h1,by unfold per;simp [h1],by omega,by omega,by omega,by omega,by omega,by omega,by omega,h4⟩
 ·exact .inr (.inl ⟨h1,by unfold per;simp [h1],h2.2.2.2.2⟩)
 ·exact .inr (.inr (.inl ⟨h1,h.1,by unfold per;simp [h1,h.1],h.2⟩))
 ·exact .inr (.inr (.inr (.inl ⟨h1,h.1,by unfold per;simp [h1,h.1],h.2⟩)))
 ·exact .inr (.inr (.inr (.inr ⟨h1,h.1,by unfold per;simp [h1,h.1],h.2⟩)))
theorem per_bd {c:CalZ}(h:KindOk c):12≤per c∧per c≤52∧(c.k≠6→1≤c.ex∧c.ex≤per c):=by
 rcases shape_cases h with h|h|⟨_,_,h⟩
 ·omega
 ·omega
 ·rcases cut_cases h with h|h|h|h|h<;>omega
theorem nweeks_01 {c:CalZ}{y:Int}(h:KindOk c)(k:c.k≠6)(y0:1601≤y)(y1:y≤9998):(nweeks c y=52∨nweeks c y=53)∧yend c y=yend c (y - 1)+7*nweeks c y:=by
 have s:=yend_step h (y:=y - 1) (by omega) (by omega)
 rw [show y - 1+1=y by omega] at s
 unfold nweeks;omega
theorem pend_zero (c:CalZ)(y:Int):pend c y 0=yend c (y - 1):=by unfold pend;simp

theorem mendt_succ (t:Int):mendt t+1=num ((t+1) / 12) ((t+1)%12+1) 1∧mendt (t+1)=mendt t+mlen ((t+1) / 12) ((t+1)%12+1):=by
 have cs:=cum_succ (t / 12) (t%12+1) (by omega) (by omega)
 have m0:(t%12+1<12∧(t+1) / 12=t / 12∧(t+1)%12+1=t%12+1+1)∨(t%12+1=12∧(t+1) / 12=t / 12+1∧(t+1)%12+1=1):=by omega
 unfold mendt mend num
 rcases m0 with ⟨a,e1,e2⟩|⟨a,e1,e2⟩
 ·rw [e1,e2];omega
 ·have cs':cum (t / 12) (12+1)=cum (t / 12) 12+mlen (t / 12) 12:=by rw [a] at cs;exact cs
  have ce:=cum_end (t / 12)
  have ds:=dby_succ (t / 12)
  rw [e1,e2,a,cum_one]
  have ce':cum (t / 12) (12+1)=365+lp (t / 12):=ce
  omega

theorem broad_step {y p:Int}(p0:1≤p)(p1:p≤11) :
  mend y (p+1) - mback y (p+1) 7=mend y p - mback y p 7+28∨mend y (p+1) - mback y (p+1) 7=mend y p - mback y p 7+35:=by
 have a:=back_wday (y:=y) (m:=p) (wd:=7) (by omega) (by omega)
 have b:=back_wday (y:=y) (m:=p+1) (wd:=7) (by omega) (by omega)
 have c:=back_bd y p 7
 have d:=back_bd y (p+1) 7
 have e:=cum_succ y p p0 (by omega)
 have f:=mlen_bd y (p+1)
 have g:mend y (p+1)=mend y p+mlen y (p+1):=by unfold mend num;omega
 unfold wday at a b
 omega
theorem broad_first {y:Int}:mend y 1 - mback y 1 7=mend (y - 1) 12 - mback (y - 1) 12 7+28∨mend y 1 - mback y 1 7=mend (y - 1) 12 - mback (y - 1) 12 7+35:=by
 have a:=back_wday (y:=y) (m:=1) (wd:=7) (by omega) (by omega)
 have b:=back_wday (y:=y - 1) (m:=12) (wd:=7) (by omega) (by omega)
 have c:=back_bd y 1 7
 have d:=back_bd (y - 1) 12 7
 have g:mend y 1=mend (y - 1) 12+mlen y 1:=by
  have:=(mendt_succ (12*(y - 1)+11)).2
  unfold mendt at this
  rw [show 12*(y - 1)+11+1=12*y by omega,show (12*y) / 12=y by omega,show (12*y)%12+1=1 by omega,show (12*(y - 1)+11) / 12=y - 1 by omega,show (12*(y - 1)+11)%12+1=12 by omega] at this
  exact this
 have f:=mlen_bd y 1
 unfold wday at a b
 omega
def StepOk (c:CalZ)(y p:Int):Prop :=
 (c.sh=4∧(pend c y p=pend c y (p - 1)+28∨pend c y p=pend c y (p - 1)+35)∧pend c y p=mend y p - mback y p 7)∨
 (c.sh=5∧pend c y p=pend c y (p - 1)+mlen (mon c y p / 12) (mon c y p%12+1)∧pend c y (p - 1)+1=num (mon c y p / 12) (mon c y p%12+1) 1)∨
 (c.sh≠4∧c.sh≠5∧c.k≠6∧pend c y p=pend c y (p - 1)+7*wkp c y p∧1≤pat c p∧pat c p≤5)
theorem pend_step {c:CalZ}{y p:Int}(h:KindOk c)(y0:1601≤y)(y1:y≤9997)(p0:1≤p)(p1:p≤per c):StepOk c y p:=by
 rcases shape_cases h with ⟨k4,s4,m12,d7,s0,e12,e⟩|⟨k6,s5,e0,e⟩|⟨k4,k6,cut⟩
 ·refine .inl ⟨s4,?_,by unfold pend;rw [if_neg (by omega),if_pos s4]⟩
  by_cases q:p=1
  ·subst q
   have b:=broad_first (y:=y)
   rw [show (1:Int) - 1=0 by omega,pend_zero]
   unfold pend yend
   rw [if_neg (by omega),if_pos s4,if_pos (.inr k4),s0,m12,d7,show y - 1+0=y - 1 by omega]
   exact b
  ·have b:=broad_step (y:=y) (p:=p - 1) (by omega) (by omega)
   rw [show p - 1+1=p by omega] at b
   unfold pend
   rw [if_neg (by omega),if_pos s4,if_neg (by omega),if_pos s4]
   exact b
 ·refine .inr (.inl ⟨s5,?_⟩)
  have b:=mendt_succ (mon c y (p - 1))
  have em:mon c y (p - 1)+1=mon c y p:=by unfold mon;omega
  rw [em] at b
  have e1:pend c y p=mendt (mon c y p):=by unfold pend;rw [if_neg (by omega),if_neg (by omega),if_pos s5]
  have e2:pend c y (p - 1)=mendt (mon c y (p - 1)):=by
   by_cases q:p=1
   ·subst q
    rw [show (1:Int) - 1=0 by omega,pend_zero]
    have kb:=kind_bd h
    unfold yend mendt mon
    rw [if_neg (by omega),if_pos k6,show (12*(y+c.s - 1)+c.m - 1+0) / 12=y - 1+c.s by omega,show (12*(y+c.s - 1)+c.m - 1+0)%12+1=c.m by omega]
   ·unfold pend;rw [if_neg (by omega),if_neg (by omega),if_pos s5]
  rw [e1,e2]
  exact ⟨b.2,b.1⟩
 ·have cs:=cut_cases cut
  have sh:c.sh≠4∧c.sh≠5:=by omega
  have e1:∀ q:Int,1≤q→pend c y q=yend c (y - 1)+7*(wcum c q+(if c.ex≤q then nweeks c y - 52 else 0)):=fun q hq=>by
   unfold pend;rw [if_neg (by omega),if_neg sh.1,if_neg sh.2]
  have z:wcum c 0=0:=by unfold wcum;simp
  have ex0:1≤c.ex:=by omega
  have e2:pend c y (p - 1)=yend c (y - 1)+7*(wcum c (p - 1)+(if c.ex≤p - 1 then nweeks c y - 52 else 0)):=by
   by_cases q:p=1
   ·subst q;rw [show (1:Int) - 1=0 by omega,pend_zero,z,if_neg (by omega)];omega
   ·exact e1 _ (by omega)
  have e3:wcum c p=wcum c (p - 1)+pat c p:=by
   unfold wcum pat
   rcases cs with h|h|h|h|h
   ·rw [if_pos h.1,if_pos h.1,if_pos h.1]
    obtain ⟨_,_,a⟩:=h
    have m3:p%3=0∨p%3=1∨p%3=2:=by omega
    rcases m3 with m|m|m
    ·rw [if_pos m,if_neg (by omega),if_neg (by omega),if_neg (by omega),if_neg (by omega)];omega
    ·rw [if_neg (by omega),if_pos m,if_pos (by omega),if_pos (by omega)];omega
    ·rw [if_neg (by omega),if_neg (by omega),if_neg (by omega),if_pos (by omega),if_neg (by omega),if_pos (by omega)];omega
   ·have n1:¬ c.sh=1:=by omega
    simp only [if_neg n1,if_pos h.1];omega
   all_goals
    have n1:¬ c.sh=1:=by omega
    have n2:¬ c.sh=2:=by omega
    simp only [if_neg n1,if_neg n2,h.2.1];omega
  refine .inr (.inr ⟨sh.1,sh.2,k6,?_,?_⟩)
  ·rw [e1 p p0,e2,e3]
   unfold wkp
   by_cases q:c.ex≤p - 1
   ·rw [if_pos q,if_pos (by omega),if_neg (by omega)];omega
   ·by_cases q2:p=c.ex
    ·rw [if_neg q,if_pos (by omega),if_pos q2];omega
    ·rw [if_neg q,if_neg (by omega),if_neg q2];omega
  ·unfold pat
   rcases cs with h|h|h|h|h
   ·rw [if_pos h.1]
    obtain ⟨_,_,a⟩:=h
    split
    ·omega
    ·split<;>omega
   ·rw [if_neg (by omega),if_pos h.1];omega
   all_goals rw [if_neg (by omega),if_neg (by omega)];omega
theorem step_bd {c:CalZ}{y p:Int}(h:KindOk c)(y0:1601≤y)(y1:y≤9997)(p0:1≤p)(p1:p≤per c) :
  pend c y (p - 1)+7≤pend c y p∧pend c y p≤pend c y (p - 1)+42∧(c.k≠6→pend c y p=pend c y (p - 1)+7*wks c y p):=by
 rcases shape_cases h with ⟨k4,s4,_⟩|⟨k6,s5,e0,e⟩|⟨k4,k6,cut⟩
 all_goals
  rcases pend_step h y0 y1 p0 p1 with ⟨a,b,_⟩|⟨a,b,_⟩|⟨a1,a2,a3,b,b1,b2⟩
  all_goals first|(exfalso;omega)|skip
 ·unfold wks;omega
 ·have:=mlen_bd (mon c y p / 12) (mon c y p%12+1)
  refine ⟨by omega,by omega,fun q=>absurd k6 q⟩
 ·exfalso
  rcases cut_cases cut with h|h|h|h|h<;>omega
 ·exfalso
  rcases cut_cases cut with h|h|h|h|h<;>omega
 ·have n:=nweeks_01 h k6 y0 (by omega)
  have w:wkp c y p=pat c p∨wkp c y p=pat c p+(nweeks c y - 52):=by unfold wkp;split<;>omega
  unfold wks
  omega
theorem pend_mono {c:CalZ}{y:Int}(h:KindOk c)(y0:1601≤y)(y1:y≤9997){a b:Int}(a0:0≤a)(l:a≤b)(b1:b≤per c):pend c y a+7*(b - a)≤pend c y b:=by
 have e:∀ k:Nat,a+k≤per c→pend c y a+7*k≤pend c y (a+k):=by
  intro k
  induction k with
  | zero=>intro _;simp
  | succ n ih =>
    intro hk
    have:=ih (by omega)
    have s:=(step_bd h y0 y1 (p:=a+n+1) (by omega) (by omega)).1
    rw [show a+(n:Int)+1 - 1=a+n by omega] at s
    have e1:a+((n+1:Nat):Int)=a+n+1:=by omega
    rw [e1];omega
 have:=e (b - a).toNat (by omega)
 have e2:a+((b - a).toNat:Int)=b:=by omega
 rw [e2] at this
 omega
theorem pend_last {c:CalZ}{y:Int}(h:KindOk c)(y0:1601≤y)(y1:y≤9997):pend c y (per c)=yend c y:=by
 rcases shape_cases h with ⟨k4,s4,m12,d7,s0,e12,e⟩|⟨k6,s5,e0,e⟩|⟨k4,k6,cut⟩
 ·unfold pend yend
  rw [if_neg (by omega),if_pos s4,if_pos (.inr k4),e,s0,m12,d7,show y+0=y by omega]
 ·have kb:=kind_bd h
  unfold pend yend mendt mon
  rw [if_neg (by omega),if_neg (by omega),if_pos s5,if_neg (by omega),if_pos k6,e,show (12*(y+c.s - 1)+c.m - 1+12) / 12=y+c.s by omega,show (12*(y+c.s - 1)+c.m - 1+12)%12+1=c.m by omega]
 ·have n:=nweeks_01 h k6 y0 (by omega)
  have cs:=cut_cases cut
  unfold pend
  rw [if_neg (by omega),if_neg (by omega),if_neg (by omega),if_pos (by omega),n.2]
  have w:wcum c (per c)=52:=by
   unfold wcum
   rcases cs with h|h|h|h|h
   ·rw [if_pos h.1,h.2.1];simp
   ·rw [if_neg (by omega),if_pos h.1,h.2.1];decide
   all_goals rw [if_neg (by omega),if_neg (by omega),h.2.1,h.2.2.1];decide
  omega
theorem pend_bd {c:CalZ}{y p:Int}(h:KindOk c)(y0:1601≤y)(y1:y≤9997)(p0:0≤p)(p1:p≤per c):0≤pend c y p∧pend c y p≤3068036:=by
 have a:=pend_mono h y0 y1 (a:=0) (b:=p) (by omega) p0 p1
 have b:=pend_mono h y0 y1 (a:=p) (b:=per c) p0 p1 (by omega)
 have d:=yend_bd h (y:=y - 1) (by omega) (by omega)
 have e:=yend_bd h (y:=y) (by omega) (by omega)
 rw [pend_zero] at a
 rw [pend_last h y0 y1] at b
 omega

end Go.Proofs.YtoilomigceijaaaGreatDoor.Am

namespace Go.Proofs.YtoilomigceijaaaGreatDoor.Am
open Cm Em

theorem per_is {c:CalZ}(h:KindOk c):per c=12∨per c=13∨per c=26∨per c=52:=by
 rcases shape_cases h with h|h|⟨_,_,h⟩
 ·omega
 ·omega
 ·rcases cut_cases h with h|h|h|h|h<;>omega
def quar (n p:Int):Int:=if p≤n / 4 then 1 else if p≤n*2 / 4 then 2 else if p≤n*3 / 4 then 3 else 4
def PersA (c:CalZ)(v er:Int):Prop:=(CalOk c∧v=per c∧er=0)∨(¬ CalOk c∧v=0∧er=1)
def QuarA (c:CalZ)(p v er:Int):Prop:=(CalOk c∧1≤p∧p≤per c∧v=quar (per c) p∧er=0)∨(CalOk c∧¬ (1≤p∧p≤per c)∧v=0∧er=1)∨(¬ CalOk c∧v=0∧er=1)
def wsum (c:CalZ)(y:Int):Nat→Int
 | 0=>0
 | p+1=>wsum c y p+wks c y ((p:Int)+1)
theorem wsum_end {c:CalZ}{y:Int}(h:KindOk c)(k:c.k≠6)(y0:1601≤y)(y1:y≤9997)(p:Nat)(hp:(p:Int)≤per c):7*wsum c y p=pend c y p - pend c y 0:=by
 induction p with
 | zero=>simp [wsum]
 | succ n ih =>
   have a:=ih (by omega)
   have s:=(step_bd h y0 y1 (p:=(n:Int)+1) (by omega) (by omega)).2.2 k
   rw [show (n:Int)+1 - 1=n by omega] at s
   rw [show ((n+1:Nat):Int)=(n:Int)+1 by omega]
   show 7*(wsum c y n+wks c y ((n:Int)+1))=_
   omega
theorem wsum_all {c:CalZ}{y:Int}(h:KindOk c)(k:c.k≠6)(y0:1601≤y)(y1:y≤9997)(p:Nat)(hp:(p:Int)=per c):wsum c y p=nweeks c y:=by
 have a:=wsum_end h k y0 y1 p (by omega)
 rw [hp,pend_last h y0 y1,pend_zero] at a
 have n:=nweeks_01 h k y0 (by omega)
 omega
end Go.Proofs.YtoilomigceijaaaGreatDoor.Am

namespace Go.Proofs.YtoilomigceijaaaGreatDoor.Am
open Cm Em

def wgo (c:CalZ)(y:Int):Nat→Int→Int
 | 0,_=>pend c y 0
 | p+1,i=>if wsum c y p<i then min (pend c y p+7*(i - wsum c y p)) (pend c y ((p:Int)+1)) else wgo c y p i
def perN (c:CalZ):Nat:=(per c).toNat
def wend (c:CalZ)(y i:Int):Int:=wgo c y (perN c) i
def nwk (c:CalZ)(y:Int):Int:=wsum c y (perN c)
def ucount (c:CalZ)(y L:Int):Int:=if L=1 then 1 else if L=2 then 2 else if L=3 then 4 else if L=4 then per c else nwk c y
def uend (c:CalZ)(y L i:Int):Int :=
 if L=1 then (if i≤0 then pend c y 0 else pend c y (per c)) else if L=2 then pend c y (per c*(2*i) / 4) else if L=3 then pend c y (per c*i / 4) else if L=4 then pend c y i else wend c y i
def LevOk (L:Int):Prop:=1≤L∧L≤5

theorem perN_is {c:CalZ}(h:KindOk c):((perN c:Nat):Int)=per c∧12≤perN c∧perN c≤52:=by
 have:=per_bd h
 unfold perN;omega
theorem wks_bd {c:CalZ}{y p:Int}(h:KindOk c)(y0:1601≤y)(y1:y≤9997)(p0:1≤p)(p1:p≤per c) :
  1≤wks c y p∧wks c y p≤6∧pend c y (p - 1)+7*(wks c y p - 1)<pend c y p∧pend c y p≤pend c y (p - 1)+7*wks c y p∧(c.k=6→4≤wks c y p∧wks c y p≤5):=by
 have s:=step_bd h y0 y1 p0 p1
 have e:c.k=6→pend c y (p - 1)+28≤pend c y p∧pend c y p≤pend c y (p - 1)+31:=fun k6=>by
  rcases pend_step h y0 y1 p0 p1 with ⟨a,_⟩|⟨a,b,_⟩|⟨_,_,k,_⟩
  ·exfalso
   rcases shape_cases h with h|h|h
   ·omega
   ·omega
   ·exact h.2.1 k6
  ·have:=mlen_bd (mon c y p / 12) (mon c y p%12+1);omega
  ·exact absurd k6 k
 unfold wks
 refine ⟨by omega,by omega,by omega,by omega,fun k6=>by have:=e k6;omega⟩
theorem wsum_step {c:CalZ}{y:Int}(h:KindOk c)(y0:1601≤y)(y1:y≤9997){a b:Nat}(l:a≤b)(b1:b≤perN c):wsum c y a+(b - a:Nat)≤wsum c y b:=by
 induction b with
 | zero=>obtain rfl:a=0:=by omega
         simp
 | succ n ih =>
   have pe:=perN_is h
   by_cases e:a=n+1
   ·subst e;simp
   ·have:=ih (by omega) (by omega)
    have w:=wks_bd h y0 y1 (p:=(n:Int)+1) (by omega) (by omega)
    have e2:wsum c y (n+1)=wsum c y n+wks c y ((n:Int)+1):=rfl
    omega
theorem week_in {c:CalZ}{y i:Int}(i0:1≤i)(n:Nat)(i1:i≤wsum c y n):∃ p:Nat,p+1≤n∧wsum c y p<i∧i≤wsum c y (p+1):=by
 induction n with
 | zero=>simp [wsum] at i1;omega
 | succ k ih =>
   by_cases q:i≤wsum c y k
   ·obtain ⟨p,a,b,d⟩:=ih q
    exact ⟨p,by omega,b,d⟩
   ·exact ⟨k,by omega,by omega,i1⟩
theorem wgo_at {c:CalZ}{y i:Int}(h:KindOk c)(y0:1601≤y)(y1:y≤9997){p:Nat}(n:Nat)(hp:p+1≤n)(hn:n≤perN c)(a:wsum c y p<i)(b:i≤wsum c y (p+1)) :
  wgo c y n i=min (pend c y p+7*(i - wsum c y p)) (pend c y ((p:Int)+1)):=by
 induction n with
 | zero=>omega
 | succ k ih =>
   unfold wgo
   by_cases e:p=k
   ·subst e;rw [if_pos a]
   ·have:=wsum_step h y0 y1 (a:=p+1) (b:=k) (by omega) (by omega)
    rw [if_neg (by omega)]
    exact ih (by omega) (by omega)
theorem wend_at {c:CalZ}{y i:Int}(h:KindOk c)(y0:1601≤y)(y1:y≤9997){p:Nat}(hp:p+1≤perN c)(a:wsum c y p<i)(b:i≤wsum c y (p+1)) :
  wend c y i=min (pend c y p+7*(i - wsum c y p)) (pend c y ((p:Int)+1)):=wgo_at h y0 y1 _ hp (Nat.le_refl _) a b
theorem wend_zero {c:CalZ}{y:Int}(h:KindOk c)(y0:1601≤y)(y1:y≤9997):wend c y 0=pend c y 0:=by
 have e:∀ n,n≤perN c→wgo c y n 0=pend c y 0:=by
  intro n
  induction n with
  | zero=>intro _;rfl
  | succ k ih =>
    intro hn
    unfold wgo
    have:=wsum_step h y0 y1 (a:=0) (b:=k) (by omega) (by omega)
    have z:wsum c y 0=0:=rfl
    rw [if_neg (by omega)]
    exact ih (by omega)
 exact e _ (Nat.le_refl _)
theorem wend_step {c:CalZ}{y i:Int}(h:KindOk c)(y0:1601≤y)(y1:y≤9997)(i0:1≤i)(i1:i≤nwk c y) :
  ∃ p:Nat,p+1≤perN c∧wsum c y p<i∧i≤wsum c y (p+1)∧wend c y (i - 1)=pend c y p+7*(i - 1 - wsum c y p)∧
   wend c y i=min (wend c y (i - 1)+7) (pend c y ((p:Int)+1))∧wend c y (i - 1)<pend c y ((p:Int)+1)∧(i=wsum c y (p+1)↔wend c y i=pend c y ((p:Int)+1)):=by
 obtain ⟨p,hp,a,b⟩:=week_in i0 (perN c) i1
 have pe:=perN_is h
 have e:=wend_at h y0 y1 hp a b
 have w:=wks_bd h y0 y1 (p:=(p:Int)+1) (by omega) (by omega)
 rw [show (p:Int)+1 - 1=p by omega] at w
 have ws:wsum c y (p+1)=wsum c y p+wks c y ((p:Int)+1):=rfl
 have e1:wend c y (i - 1)=pend c y p+7*(i - 1 - wsum c y p):=by
  by_cases q:wsum c y p<i - 1
  ·rw [wend_at h y0 y1 hp q (by omega)]
   omega
  ·have q2:i - 1=wsum c y p:=by omega
   rw [q2]
   cases p with
   | zero=>rw [show wsum c y 0=0 from rfl,wend_zero h y0 y1];simp
   | succ j =>
     have w2:=wks_bd h y0 y1 (p:=(j:Int)+1) (by omega) (by omega)
     rw [show (j:Int)+1 - 1=j by omega] at w2
     have ws2:wsum c y (j+1)=wsum c y j+wks c y ((j:Int)+1):=rfl
     rw [wend_at h y0 y1 (p:=j) (by omega) (by omega) (Int.le_refl _),show ((j+1:Nat):Int)=(j:Int)+1 by omega]
     omega
 exact ⟨p,hp,a,b,e1,by omega,by omega,by constructor<;>intro q<;>omega⟩
theorem wend_last {c:CalZ}{y:Int}(h:KindOk c)(y0:1601≤y)(y1:y≤9997):wend c y (nwk c y)=pend c y (per c):=by
 have pe:=perN_is h
 obtain ⟨n,hn⟩:∃ n,perN c=n+1:=⟨perN c - 1,by omega⟩
 have w:=wks_bd h y0 y1 (p:=(n:Int)+1) (by omega) (by omega)
 rw [show (n:Int)+1 - 1=n by omega] at w
 have ws:wsum c y (n+1)=wsum c y n+wks c y ((n:Int)+1):=rfl
 have e:nwk c y=wsum c y (n+1):=by unfold nwk;rw [hn]
 rw [e,wend_at h y0 y1 (p:=n) (by omega) (by omega) (Int.le_refl _),show per c=(n:Int)+1 by omega]
 omega
theorem wend_weeks {c:CalZ}{y i:Int}(h:KindOk c)(k:c.k≠6)(y0:1601≤y)(y1:y≤9997)(i0:0≤i)(i1:i≤nwk c y):wend c y i=pend c y 0+7*i:=by
 by_cases q:i=0
 ·subst q;rw [wend_zero h y0 y1];simp
 ·obtain ⟨p,hp,a,b⟩:=week_in (y:=y) (c:=c) (i:=i) (by omega) (perN c) i1
  have pe:=perN_is h
  have w1:=wsum_end h k y0 y1 p (by omega)
  have w2:=wsum_end h k y0 y1 (p+1) (by omega)
  rw [show ((p+1:Nat):Int)=(p:Int)+1 by omega] at w2
  rw [wend_at h y0 y1 hp a b]
  omega
theorem nwk_weeks {c:CalZ}{y:Int}(h:KindOk c)(k:c.k≠6)(y0:1601≤y)(y1:y≤9997):nwk c y=nweeks c y:=wsum_all h k y0 y1 _ (perN_is h).1

theorem quarter_at {c:CalZ}(h:KindOk c)(i:Int)(i0:0≤i)(i1:i≤4):0≤per c*i / 4∧per c*i / 4≤per c∧(i=4→per c*i / 4=per c)∧(i=0→per c*i / 4=0)∧(i<4→per c*i / 4+3≤per c*(i+1) / 4):=by
 rcases per_is h with e|e|e|e<;>rw [e]<;>(refine ⟨by omega,by omega,fun q=>by omega,fun q=>by omega,fun q=>by omega⟩)
theorem half_at {c:CalZ}(h:KindOk c)(i:Int)(i0:0≤i)(i1:i≤2):0≤per c*(2*i) / 4∧per c*(2*i) / 4≤per c∧(i=2→per c*(2*i) / 4=per c)∧(i=0→per c*(2*i) / 4=0)∧(i<2→per c*(2*i) / 4+3≤per c*(2*(i+1)) / 4):=by
 rcases per_is h with e|e|e|e<;>rw [e]<;>(refine ⟨by omega,by omega,fun q=>by omega,fun q=>by omega,fun q=>by omega⟩)
theorem uend_zero {c:CalZ}{y L:Int}(h:KindOk c)(y0:1601≤y)(y1:y≤9997)(hL:LevOk L):uend c y L 0=pend c y 0:=by
 unfold uend
 split
 ·simp
 ·split
  ·simp
  ·split
   ·simp
   ·split
    ·rfl
    ·exact wend_zero h y0 y1
theorem uend_last {c:CalZ}{y L:Int}(h:KindOk c)(y0:1601≤y)(y1:y≤9997)(hL:LevOk L):uend c y L (ucount c y L)=pend c y (per c):=by
 unfold uend ucount
 split
 ·simp
 ·split
  ·rw [(half_at h 2 (by omega) (by omega)).2.2.1 rfl]
  ·split
   ·rw [(quarter_at h 4 (by omega) (by omega)).2.2.1 rfl]
   ·split
    ·rfl
    ·exact wend_last h y0 y1
theorem uend_step {c:CalZ}{y L i:Int}(h:KindOk c)(y0:1601≤y)(y1:y≤9997)(hL:LevOk L)(i0:0≤i)(i1:i<ucount c y L):uend c y L i<uend c y L (i+1):=by
 have pb:=per_bd h
 unfold uend
 unfold ucount at i1
 split
 ·rename_i e
  rw [if_pos e] at i1
  obtain rfl:i=0:=by omega
  simp
  have:=pend_mono h y0 y1 (a:=0) (b:=per c) (by omega) (by omega) (by omega)
  omega
 ·rename_i e1
  rw [if_neg e1] at i1
  split
  ·rename_i e
   rw [if_pos e] at i1
   have a:=half_at h i i0 (by omega)
   have b:=half_at h (i+1) (by omega) (by omega)
   have:=pend_mono h y0 y1 (a:=per c*(2*i) / 4) (b:=per c*(2*(i+1)) / 4) a.1 (by have:=a.2.2.2.2 (by omega);omega) b.2.1
   have:=a.2.2.2.2 (by omega)
   omega
  ·rename_i e2
   rw [if_neg e2] at i1
   split
   ·rename_i e
    rw [if_pos e] at i1
    have a:=quarter_at h i i0 (by omega)
    have b:=quarter_at h (i+1) (by omega) (by omega)
    have:=pend_mono h y0 y1 (a:=per c*i / 4) (b:=per c*(i+1) / 4) a.1 (by have:=a.2.2.2.2 (by omega);omega) b.2.1
    have:=a.2.2.2.2 (by omega)
    omega
   ·rename_i e3
    rw [if_neg e3] at i1
    split
    ·rename_i e
     rw [if_pos e] at i1
     have:=pend_mono h y0 y1 (a:=i) (b:=i+1) i0 (by omega) (by omega)
     omega
    ·rename_i e4
     rw [if_neg e4] at i1
     obtain ⟨p,_,_,_,_,q,r,_⟩:=wend_step h y0 y1 (i:=i+1) (by omega) (by omega)
     rw [show i+1 - 1=i by omega] at q r
     omega
theorem uend_mono {c:CalZ}{y L:Int}(h:KindOk c)(y0:1601≤y)(y1:y≤9997)(hL:LevOk L){a b:Int}(a0:0≤a)(l:a≤b)(b1:b≤ucount c y L):uend c y L a+(b - a)≤uend c y L b:=by
 have e:∀ k:Nat,a+k≤ucount c y L→uend c y L a+k≤uend c y L (a+k):=by
  intro k
  induction k with
  | zero=>intro _;simp
  | succ n ih =>
    intro hk
    have:=ih (by omega)
    have s:=uend_step h y0 y1 hL (i:=a+n) (by omega) (by omega)
    have e1:a+((n+1:Nat):Int)=a+n+1:=by omega
    rw [e1];omega
 have:=e (b - a).toNat (by omega)
 have e2:a+((b - a).toNat:Int)=b:=by omega
 rw [e2] at this
 omega
theorem nwk_bd {c:CalZ}{y:Int}(h:KindOk c)(y0:1601≤y)(y1:y≤9997):48≤nwk c y∧nwk c y≤60:=by
 by_cases k:c.k=6
 ·rcases shape_cases h with q|q|q
  ·omega
  ·have e:perN c=12:=by unfold perN;rw [q.2.2.2];rfl
   have f:=fun (p:Nat) (hp:p<12)=>(wks_bd h y0 y1 (p:=(p:Int)+1) (by omega) (by omega)).2.2.2.2 k
   unfold nwk;rw [e]
   have f0:=f 0 (by omega);have f1:=f 1 (by omega);have f2:=f 2 (by omega);have f3:=f 3 (by omega);have f4:=f 4 (by omega);have f5:=f 5 (by omega)
   have f6:=f 6 (by omega);have f7:=f 7 (by omega);have f8:=f 8 (by omega);have f9:=f 9 (by omega);have f10:=f 10 (by omega);have f11:=f 11 (by omega)
   simp only [wsum]
   omega
  ·exact absurd k q.2.1
 ·rw [nwk_weeks h k y0 y1]
  have:=(nweeks_01 h k y0 (by omega)).1
  omega
theorem ucount_bd {c:CalZ}{y L:Int}(h:KindOk c)(y0:1601≤y)(y1:y≤9997):1≤ucount c y L∧ucount c y L≤60:=by
 have a:=nwk_bd h y0 y1
 have b:=per_bd h
 unfold ucount
 repeat' split
 all_goals omega

end Go.Proofs.YtoilomigceijaaaGreatDoor.Am

namespace Go.Proofs.YtoilomigceijaaaGreatDoor.Am
open Cm Em

def InU (c:CalZ)(y L d i:Int):Prop:=1≤i∧i≤ucount c y L∧uend c y L (i - 1)<d∧d≤uend c y L i
section
variable {c:CalZ} {y L M d i j:Int}
theorem inu_ex (h:KindOk c)(y0:1601≤y)(y1:y≤9997)(hL:LevOk L)(d0:pend c y 0<d)(d1:d≤pend c y (per c)):∃ i,InU c y L d i:=by
 have e:∀ k:Nat,(k:Int)≤ucount c y L→d≤uend c y L k→∃ i,InU c y L d i:=by
  intro k
  induction k with
  | zero=>intro _ q;rw [show ((0:Nat):Int)=0 from rfl,uend_zero h y0 y1 hL] at q;omega
  | succ n ih =>
    intro hk q
    by_cases r:d≤uend c y L n
    ·exact ih (by omega) r
    ·rw [show ((n+1:Nat):Int)=(n:Int)+1 by omega] at q
     exact ⟨(n:Int)+1,by omega,by omega,by rw [show (n:Int)+1 - 1=n by omega];omega,q⟩
 have b:=ucount_bd (L:=L) h y0 y1
 have l:=uend_last h y0 y1 hL
 refine e (ucount c y L).toNat (by omega) ?_
 rw [show (((ucount c y L).toNat:Nat):Int)=ucount c y L by omega,l]
 exact d1
theorem inu_lt (h:KindOk c)(y0:1601≤y)(y1:y≤9997)(hL:LevOk L)(a:InU c y L d i)(j0:1≤j)(j1:j≤ucount c y L):uend c y L j<d↔j<i:=by
 obtain ⟨a0,a1,a2,a3⟩:=a
 constructor
 ·intro q
  by_cases r:j<i
  ·exact r
  ·have:=uend_mono h y0 y1 hL (a:=i) (b:=j) (by omega) (by omega) j1;omega
 ·intro q
  have:=uend_mono h y0 y1 hL (a:=j) (b:=i - 1) (by omega) (by omega) (by omega);omega
theorem uend_bd (h:KindOk c)(y0:1601≤y)(y1:y≤9997)(hL:LevOk L)(i0:0≤i)(i1:i≤ucount c y L):pend c y 0≤uend c y L i∧uend c y L i≤pend c y (per c)∧0≤uend c y L i∧uend c y L i≤3068036:=by
 have a:=uend_mono h y0 y1 hL (a:=0) (b:=i) (by omega) i0 i1
 have b:=uend_mono h y0 y1 hL (a:=i) (b:=ucount c y L) i0 i1 (by omega)
 rw [uend_zero h y0 y1 hL] at a
 rw [uend_last h y0 y1 hL] at b
 have pb:=per_bd h
 have e:=pend_bd h y0 y1 (p:=0) (by omega) (by omega)
 have f:=pend_bd h y0 y1 (p:=per c) (by omega) (by omega)
 omega
end

def Served (c:CalZ)(y:Int):Prop:=c.fi≤y∧y≤c.la
def CountA (c:CalZ)(L y v er:Int):Prop :=
 (CalOk c∧LevOk L∧Served c y∧v=ucount c y L∧er=0)∨(CalOk c∧LevOk L∧¬ Served c y∧v=0∧er=11)∨(CalOk c∧¬ LevOk L∧v=0∧er=1)∨(¬ CalOk c∧v=0∧er=1)
def UnitOk (c:CalZ)(L y i:Int):Prop:=CalOk c∧LevOk L∧Served c y∧1≤i∧i≤ucount c y L
def UChkA (c:CalZ)(L y i er:Int):Prop:=∃ v e,CountA c L y v e∧((e≠0∧er=e)∨(e=0∧¬ (1≤i∧i≤v)∧er=13)∨(e=0∧1≤i∧i≤v∧er=0))
def SpanA (c:CalZ)(L y i a b er:Int):Prop:=(UnitOk c L y i∧a=uend c y L (i - 1)+1∧b=uend c y L i∧er=0)∨(¬ UnitOk c L y i∧UChkA c L y i er∧a=0∧b=0)
theorem served_told {c:CalZ}{y:Int}(h:CalOk c)(s:Served c y):1602≤y∧y≤9996:=by
 obtain ⟨_,_,⟨a,b,_⟩,_⟩:=h
 obtain ⟨s0,s1⟩:=s
 omega
theorem uchka_ok {c:CalZ}{L y i er:Int}(h:UChkA c L y i er):er=0↔UnitOk c L y i:=by
 obtain ⟨v,e,h,k⟩:=h
 unfold UnitOk
 rcases h with ⟨a,b,s,rfl,rfl⟩|⟨a,b,s,rfl,rfl⟩|⟨a,b,rfl,rfl⟩|⟨a,rfl,rfl⟩
 ·constructor
  ·intro q;exact ⟨a,b,s,by omega⟩
  ·rintro ⟨_,_,_,q⟩;omega
 ·constructor
  ·intro q;omega
  ·rintro ⟨_,_,q,_⟩;exact absurd q s
 ·constructor
  ·intro q;omega
  ·rintro ⟨_,q,_⟩;exact absurd q b
 ·constructor
  ·intro q;omega
  ·rintro ⟨q,_⟩;exact absurd q a
end Go.Proofs.YtoilomigceijaaaGreatDoor.Am

namespace Go.Proofs.YtoilomigceijaaaGreatDoor.Am
open Cm Em

theorem yend_le {c:CalZ}{a b:Int}(h:KindOk c)(a0:1600≤a)(l:a≤b)(b1:b≤9998):yend c a≤yend c b:=by
 by_cases e:a=b
 ·subst e;omega
 ·have:=yend_lt h a0 (by omega:a<b) b1;omega
end Go.Proofs.YtoilomigceijaaaGreatDoor.Am

namespace Go.Proofs.YtoilomigceijaaaGreatDoor.Am
open Cm Em

def DayA (c:CalZ)(n L p q r er:Int):Prop :=
 (CalOk c∧LevOk L∧ServedA c n q 0∧InU c q L n r∧p=L∧er=0)∨(CalOk c∧LevOk L∧ServedA c n 0 er∧er≠0∧p=0∧q=0∧r=0)∨(CalOk c∧¬ LevOk L∧p=0∧q=0∧r=0∧er=1)∨(¬ CalOk c∧p=0∧q=0∧r=0∧er=1)
def NextA (c:CalZ)(L y i p q r er:Int):Prop:=(UnitOk c L y i∧DayA c (uend c y L i+1) L p q r er)∨(¬ UnitOk c L y i∧UChkA c L y i er∧p=0∧q=0∧r=0)
theorem served_of {c:CalZ}{n y:Int}(ok:CalOk c)(s:Served c y)(a:yend c (y - 1)<n)(b:n≤yend c y):ServedA c n y 0:=by
 have st:=served_told ok s
 have b0:=yend_bd ok.1 (y:=y - 1) (by omega) (by omega)
 have b1:=yend_bd ok.1 (y:=y) (by omega) (by omega)
 exact ⟨y,0,.inl ⟨ok,by omega,by omega,by omega,by omega,a,b,rfl⟩,.inr (.inl ⟨rfl,s.1,s.2,rfl,rfl⟩)⟩
theorem served_to {c:CalZ}{n y:Int}(h:ServedA c n y 0):CalOk c∧Served c y∧yend c (y - 1)<n∧n≤yend c y:=by
 obtain ⟨z,e,R,O⟩:=h
 rcases O with ⟨h1,_,h2⟩|⟨h1,h2,h3,rfl,_⟩|⟨_,_,_,h⟩
 ·omega
 ·rcases R with ⟨ok,_,_,_,_,a,b,_⟩|⟨_,_,_,_,_,h⟩|⟨_,_,_,h⟩|⟨_,_,h⟩
  ·exact ⟨ok,⟨h2,h3⟩,a,b⟩
  all_goals omega
 ·omega
theorem served_er {c:CalZ}{n y er:Int}(h:ServedA c n y er)(k:er≠0):y=0∧(er=1∨er=4∨er=11)∧(CalOk c→er≠1):=by
 obtain ⟨z,e,R,O⟩:=h
 rcases O with ⟨h1,h3,h2⟩|⟨_,_,_,_,h⟩|⟨_,_,h3,h⟩
 ·refine ⟨h3,?_⟩
  rcases R with ⟨_,_,_,_,_,_,_,h⟩|⟨_,_,_,_,_,h⟩|⟨_,_,_,h⟩|⟨q,_,h⟩
  ·omega
  ·exact ⟨by omega,fun _=>by omega⟩
  ·exact ⟨by omega,fun _=>by omega⟩
  ·exact ⟨by omega,fun x=>absurd x q⟩
 ·omega
 ·exact ⟨h3,by omega,fun _=>by omega⟩
theorem daya_ex (c:CalZ)(n L:Int):∃ p q r er,DayA c n L p q r er:=by
 by_cases ok:CalOk c
 ·by_cases l:LevOk L
  ·obtain ⟨v,er,S⟩:=serveda_ex c n
   by_cases e:er=0
   ·subst e
    have t:=served_to S
    have st:=served_told ok t.2.1
    have z:=pend_zero c v
    have z2:=pend_last ok.1 (y:=v) (by omega) (by omega)
    obtain ⟨r,hr⟩:=inu_ex (y:=v) (L:=L) (d:=n) ok.1 (by omega) (by omega) l (by omega) (by omega)
    exact ⟨L,v,r,0,.inl ⟨ok,l,S,hr,rfl,rfl⟩⟩
   ·have t:=served_er S e
    obtain rfl:=t.1
    exact ⟨0,0,0,er,.inr (.inl ⟨ok,l,S,e,rfl,rfl,rfl⟩)⟩
  ·exact ⟨0,0,0,1,.inr (.inr (.inl ⟨ok,l,rfl,rfl,rfl,rfl⟩))⟩
 ·exact ⟨0,0,0,1,.inr (.inr (.inr ⟨ok,rfl,rfl,rfl,rfl⟩))⟩
theorem daya_to {c:CalZ}{n L p q r:Int}(h:DayA c n L p q r 0):UnitOk c L q r∧uend c q L (r - 1)<n∧n≤uend c q L r∧p=L∧ServedA c n q 0:=by
 rcases h with ⟨ok,l,s,u,e,_⟩|⟨_,_,_,h,_⟩|⟨_,_,_,_,_,h⟩|⟨_,_,_,_,h⟩
 ·exact ⟨⟨ok,l,(served_to s).2.1,u.1,u.2.1⟩,u.2.2.1,u.2.2.2,e,s⟩
 all_goals omega
theorem daya_er {c:CalZ}{n L p q r er:Int}(h:DayA c n L p q r er)(k:er≠0):p=0∧q=0∧r=0∧(er=1∨er=4∨er=11):=by
 rcases h with ⟨_,_,_,_,_,h⟩|⟨_,_,s,h,e1,e2,e3⟩|⟨_,_,e1,e2,e3,h⟩|⟨_,e1,e2,e3,h⟩
 ·omega
 ·exact ⟨e1,e2,e3,(served_er s h).2.1⟩
 ·exact ⟨e1,e2,e3,.inl h⟩
 ·exact ⟨e1,e2,e3,.inl h⟩
theorem unit_year {c:CalZ}{L y i n:Int}(h:UnitOk c L y i)(a:uend c y L (i - 1)<n)(b:n≤uend c y L i):yend c (y - 1)<n∧n≤yend c y∧1602≤y∧y≤9996:=by
 obtain ⟨ok,l,s,i0,i1⟩:=h
 have st:=served_told ok s
 have z:=pend_zero c y
 have z2:=pend_last ok.1 (y:=y) (by omega) (by omega)
 have b0:=uend_bd (y:=y) (i:=i - 1) ok.1 (by omega) (by omega) l (by omega) (by omega)
 have b1:=uend_bd (y:=y) (i:=i) ok.1 (by omega) (by omega) l (by omega) (by omega)
 omega
theorem daya_of {c:CalZ}{L y i n:Int}(h:UnitOk c L y i)(a:uend c y L (i - 1)<n)(b:n≤uend c y L i):DayA c n L L y i 0:=by
 have u:=unit_year h a b
 exact .inl ⟨h.1,h.2.1,served_of h.1 h.2.2.1 u.1 u.2.1,⟨h.2.2.2.1,h.2.2.2.2,a,b⟩,rfl,rfl⟩
theorem next_ex {c:CalZ}{L y i:Int}(h:UnitOk c L y i):(i<ucount c y L∧NextA c L y i L y (i+1) 0∧UnitOk c L y (i+1)∧uend c y L (i+1 - 1)=uend c y L i)∨
  (i=ucount c y L∧y<c.la∧NextA c L y i L (y+1) 1 0∧UnitOk c L (y+1) 1∧uend c (y+1) L (1 - 1)=uend c y L i)∨(i=ucount c y L∧y=c.la∧NextA c L y i 0 0 0 11):=by
 have h0:=h
 obtain ⟨ok,l,s,i0,i1⟩:=h
 have st:=served_told ok s
 by_cases q:i<ucount c y L
 ·have v:UnitOk c L y (i+1):=⟨ok,l,s,by omega,by omega⟩
  have e:uend c y L (i+1 - 1)=uend c y L i:=by rw [show i+1 - 1=i by omega]
  have t:=uend_step (y:=y) (i:=i) ok.1 (by omega) (by omega) l (by omega) (by omega)
  exact .inl ⟨q,.inl ⟨h0,daya_of v (by omega) (by omega)⟩,v,e⟩
 ·have e:i=ucount c y L:=by omega
  have z2:=pend_last ok.1 (y:=y) (by omega) (by omega)
  have z3:=uend_last (y:=y) (L:=L) ok.1 (by omega) (by omega) l
  rw [← e] at z3
  by_cases k:y<c.la
  ·have s2:Served c (y+1):=⟨by have:=s.1;omega,by omega⟩
   have st2:=served_told ok s2
   have cb:=ucount_bd (L:=L) (y:=y+1) ok.1 (by omega) (by omega)
   have v:UnitOk c L (y+1) 1:=⟨ok,l,s2,by omega,by omega⟩
   have z:=pend_zero c (y+1)
   rw [show y+1 - 1=y by omega] at z
   have z4:=uend_zero (y:=y+1) (L:=L) ok.1 (by omega) (by omega) l
   have e2:uend c (y+1) L (1 - 1)=uend c y L i:=by rw [show (1:Int) - 1=0 by omega];omega
   have t:=uend_step (y:=y+1) (i:=0) ok.1 (by omega) (by omega) l (by omega) (by omega)
   rw [show (0:Int)+1=1 by omega] at t
   rw [show (1:Int) - 1=0 by omega] at e2
   exact .inr (.inl ⟨e,k,.inl ⟨h0,daya_of v (by rw [show (1:Int) - 1=0 by omega];omega) (by omega)⟩,v,e2⟩)
  ·have e3:y=c.la:=by have:=s.2;omega
   have b1:=yend_step ok.1 (y:=y) (by omega) (by omega)
   have b2:=yend_bd ok.1 (y:=y+1) (by omega) (by omega)
   have b3:=yend_bd ok.1 (y:=y) (by omega) (by omega)
   refine .inr (.inr ⟨e,e3,.inl ⟨h0,.inr (.inl ⟨ok,l,⟨y+1,0,.inl ⟨ok,by omega,by omega,by omega,by omega,by rw [show y+1 - 1=y by omega];omega,by omega,rfl⟩,.inr (.inr ⟨rfl,by omega,rfl,rfl⟩)⟩,by decide,rfl,rfl,rfl⟩)⟩⟩)
end Go.Proofs.YtoilomigceijaaaGreatDoor.Am

namespace Go.Proofs.YtoilomigceijaaaGreatDoor.Am
open Cm Em

section
variable {c:CalZ} {y t n k v w er a b i:Int}
end

end Go.Proofs.YtoilomigceijaaaGreatDoor.Am

namespace Go.Proofs.YtoilomigceijaaaGreatDoor.Am
open Cm Em

section
variable {c:CalZ} {y t n k v w er a b i j x:Int}
end

end Go.Proofs.YtoilomigceijaaaGreatDoor.Am

namespace Go.Proofs.YtoilomigceijaaaGreatDoor.Am
open Cm Em

end Go.Proofs.YtoilomigceijaaaGreatDoor.Am

namespace Go.Proofs.YtoilomigceijaaaGreatDoor.Am
open Cm Em

end Go.Proofs.YtoilomigceijaaaGreatDoor.Am

namespace Go.Proofs.YtoilomigceijaaaGreatDoor.Am
open Cm Em

def nxu (c:CalZ)(L:Int)(u:Int×Int):Int×Int:=if u.2<ucount c u.1 L then (u.1,u.2+1) else (u.1+1,1)
def itu (c:CalZ)(L:Int)(u:Int×Int):Nat→Int×Int
 | 0=>u
 | k+1=>nxu c L (itu c L u k)
def Till (y n:Int)(u:Int×Int):Prop:=u.1<y∨(u.1=y∧u.2≤n)

theorem nxu_next {c:CalZ}{L y i:Int}(h:UnitOk c L y i)(t:i<ucount c y L∨y<c.la):NextA c L y i L (nxu c L (y,i)).1 (nxu c L (y,i)).2 0∧UnitOk c L (nxu c L (y,i)).1 (nxu c L (y,i)).2:=by
 rcases next_ex h with ⟨q,N,v,_⟩|⟨q,k,N,v,_⟩|⟨q,k,N⟩
 ·unfold nxu
  rw [if_pos q]
  exact ⟨N,v⟩
 ·unfold nxu
  rw [if_neg (show ¬ i<ucount c y L by omega)]
  exact ⟨N,v⟩
 ·omega
theorem nxu_till {c:CalZ}{L y n:Int}{u:Int×Int}(v:UnitOk c L y n)(h:UnitOk c L u.1 u.2)(t:Till y n u)(ne:u≠(y,n)):UnitOk c L (nxu c L u).1 (nxu c L u).2∧Till y n (nxu c L u)∧NextA c L u.1 u.2 L (nxu c L u).1 (nxu c L u).2 0∧60*u.1+u.2+1≤60*(nxu c L u).1+(nxu c L u).2:=by
 obtain ⟨a,i⟩:=u
 have hs:=h.2.2.1
 have st:=served_told h.1 hs
 have cb:=ucount_bd (L:=L) (y:=a) h.1.1 (by show 1601≤a;have:=st.1;exact Int.le_trans (by decide) this) (by have:=st.2;exact Int.le_trans this (by decide))
 have vs:=v.2.2.1
 have vn:=v.2.2.2.2
 have ne':¬ (a=y∧i=n):=fun q=>ne (by rw [q.1,q.2])
 unfold Till at t
 simp only at t h hs st
 have la:i<ucount c a L∨a<c.la:=by
  by_cases q:i<ucount c a L
  ·exact .inl q
  ·right
   have:=vs.2
   have hi:=h.2.2.2.2
   rcases t with t|⟨t,t2⟩
   ·omega
   ·subst t
    omega
 have N:=nxu_next h la
 refine ⟨N.2,?_,N.1,?_⟩
 ·unfold Till nxu
  by_cases q:i<ucount c a L
  ·rw [if_pos q]
   simp only
   omega
  ·rw [if_neg q]
   simp only
   have v1:=v.2.2.2.1
   have hi:=h.2.2.2.2
   rcases t with t|⟨t,t2⟩
   ·omega
   ·subst t
    omega
 ·unfold nxu
  by_cases q:i<ucount c a L
  ·rw [if_pos q];simp only;omega
  ·rw [if_neg q];simp only
   have hi:=h.2.2.2.2
   omega
theorem itu_zero {c:CalZ}{L y n:Int}{u:Int×Int}(v:UnitOk c L y n)(h:UnitOk c L u.1 u.2)(t:Till y n u)(e:u=(y,n)) :
  ∃ N:Nat,itu c L u N=(y,n)∧(N:Int)+60*u.1+u.2≤60*y+n∧(∀ k,k≤N→UnitOk c L (itu c L u k).1 (itu c L u k).2∧Till y n (itu c L u k))∧∀ k,k<N→NextA c L (itu c L u k).1 (itu c L u k).2 L (itu c L u (k+1)).1 (itu c L u (k+1)).2 0∧itu c L u k≠(y,n):=by
 refine ⟨0,e,?_,?_,?_⟩
 ·rw [e];simp
 ·intro k hk
  have k0:k=0:=by omega
  subst k0
  exact ⟨h,t⟩
 ·intro k hk
  omega
theorem itu_reach {c:CalZ}{L y n:Int}(v:UnitOk c L y n)(m:Nat):∀ u:Int×Int,UnitOk c L u.1 u.2→Till y n u→60*y+n≤60*u.1+u.2+m→
  ∃ N:Nat,itu c L u N=(y,n)∧(N:Int)+60*u.1+u.2≤60*y+n∧(∀ k,k≤N→UnitOk c L (itu c L u k).1 (itu c L u k).2∧Till y n (itu c L u k))∧∀ k,k<N→NextA c L (itu c L u k).1 (itu c L u k).2 L (itu c L u (k+1)).1 (itu c L u (k+1)).2 0∧itu c L u k≠(y,n):=by
 induction m with
 | zero =>
   intro u h t b
   by_cases e:u=(y,n)
   ·exact itu_zero v h t e
   ·obtain ⟨h1,t1,_,p⟩:=nxu_till v h t e
    have n1:=h1.2.2.2.2
    have s1:=served_told h1.1 h1.2.2.1
    have cb:=ucount_bd (L:=L) (y:=(nxu c L u).1) h1.1.1 (by omega) (by omega)
    have n0:=v.2.2.2.1
    unfold Till at t1
    simp at b
    omega
 | succ m ih =>
   intro u h t b
   by_cases e:u=(y,n)
   ·exact itu_zero v h t e
   ·obtain ⟨h1,t1,nx,p⟩:=nxu_till v h t e
    obtain ⟨N,a1,a2,a3,a4⟩:=ih (nxu c L u) h1 t1 (by omega)
    have sh:∀ k,itu c L u (k+1)=itu c L (nxu c L u) k:=by
     intro k
     induction k with
     | zero=>rfl
     | succ j hj=>show nxu c L (itu c L u (j+1))=nxu c L (itu c L (nxu c L u) j);rw [hj]
    refine ⟨N+1,by rw [sh];exact a1,by omega,fun k hk=>?_,fun k hk=>?_⟩
    ·cases k with
     | zero=>exact ⟨h,t⟩
     | succ j=>rw [sh];exact a3 j (by omega)
    ·cases k with
     | zero=>exact ⟨by rw [sh];exact nx,e⟩
     | succ j=>rw [sh,sh];exact a4 j (by omega)

end Go.Proofs.YtoilomigceijaaaGreatDoor.Am

