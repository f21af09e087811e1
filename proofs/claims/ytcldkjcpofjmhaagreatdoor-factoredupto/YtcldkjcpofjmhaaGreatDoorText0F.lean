import Derived.Test.YtcldkjcpofjmhaaGreatDoorBase0F
import Derived.Lib.ValidLaws
import Derived.Lib.RuneCount
import Derived.Lib.IndexAny
import Derived.Laws.BytesArg
import Derived.Laws.Rows
import Derived.OneCell
import Derived.Handy
import Derived.RegionTactic
import Derived.ChangeAlike
open List renaming length_drop→zz,getElem_drop→zy,length_singleton→zx,length_append→zw,drop_eq_nil_of_le→zu,mem_iff_getElem→zt
open Nat renaming le_refl→zs
namespace Go.Proofs.YtcldkjcpofjmhaaGreatDoor
open Utf8 renaming decode→zv
set_option maxHeartbeats 1000000
set_option maxRecDepth 100000
variable{s:ByteArray}{k p:Nat}
section
open Go.RowKit
theorem lL(x:ByteArray):x.size=x.data.toList.length:=rfl
theorem aUf(s:ByteArray)(p:Nat):bC s p<=4:=by
 have hz:cJ (aD s p)<=4:=by unfold cJ;split <;> (try split) <;> (try split) <;> (try split) <;> (try split) <;> omega
 simp only [bC];split
 ·omega
 ·split
  ·omega
  ·split <;> omega
theorem aUg(s:ByteArray):∀f p m,s.size-p<=f->m<=20->gN s f p m=true->s.size<=p+4*(20-m):=by
 intro f;induction f with
 | zero=>intro p m hf hm h;omega
 | succ f ih=>
  intro p m hf hm h;by_cases hp:p<s.size
  ·by_cases hb:bC s p=0\/aD s p=10
   ·rw [wJ s (f+1) p m hp hf hb] at h;simp at h
   ·have hc:=aUf s p;simp only [gN,if_pos hp,if_neg hb] at h;by_cases hm20:m=20
    ·exfalso;subst hm20;have:∀f p m,20<m->gN s f p m=false:=by
      intro f;induction f with
      | zero=>intro p m hm;simp [gN];omega
      | succ f ih=>
       intro p m hm;simp only [gN];split
       ·split
        ·rfl
        ·exact ih _ _ (by omega)
       ·simp;omega
     rw [this _ _ _ (by omega)] at h;simp at h
    ·have:=ih (p+bC s p) (m+1) (by omega) (by omega) h;omega
  ·omega
theorem aIu(s:ByteArray)(h:gE s=true):0<s.size/\s.size<=80:=by
 refine ⟨?_,?_⟩
 ·rcases Nat.eq_zero_or_pos s.size with h0 | h0
  ·unfold gE at h;rw [h0] at h;simp [gN] at h
  ·exact h0
 ·have:=aUg s s.size 0 0 (by omega) (by omega) h;omega
end
section
open Go.RowKit
theorem kU(s:ByteArray)(i:Nat):aD s i=(s.data.toList.getD i 0).toNat:=by
 unfold aD;split
 ·next h=>
  obtain ⟨⟨l⟩⟩:=s;have hl:i<l.length:=h;simp [List.getD,hl];rfl
 ·next h=>
  obtain ⟨⟨l⟩⟩:=s;have hl:¬i<l.length:=h;simp [List.getD,List.getElem?_eq_none (show l.length<=i by omega)]
theorem sL(s:ByteArray)(i:Nat):aD s i<256:=by rw [kU];exact UInt8.toNat_lt _
def qV(d:Nat×Nat):Nat:=if d.1=65533/\d.2=1 then 0 else d.2
theorem tX(n b0 b1 b2 b3 sz lo hi:Nat)(h2:2<=sz)(h4:sz<=4):qV (Lib.slowN n b0 b1 b2 b3 sz lo hi)=if n<sz\/b1<lo\/hi<b1\/(3<=sz/\(b2<128\/191<b2))\/(4<=sz/\(b3<128\/191<b3)) then 0 else sz:=by
 unfold qV Lib.slowN;repeat' split
 all_goals first | rfl | omega | (exfalso;omega) | (simp only at *;omega)
theorem qW(s:ByteArray)(p z:Nat)(hz:cJ (aD s p)=z)(h2:2<=z)(h4:z<=4) :
  bC s p=if s.size<p+z\/(aD s (p+1)<128\/191<aD s (p+1))\/(3<=z/\(aD s (p+2)<128\/191<aD s (p+2)))\/(4<=z/\(aD s (p+3)<128\/191<aD s (p+3)))\/pA (aD s p) (aD s (p+1))=true then 0 else z:=by
 by_cases hsh:s.size<p+z
 ·rw [yM s p z hz (by omega) hsh,if_pos (Or.inl hsh)]
 ·by_cases hall:∀i,0<i->i<z->gM (aD s (p+i))=true
  ·rw [yN s p z hz (by omega) hsh hall];have c1:=hall 1 (by omega) (by omega);have c2:3<=z->gM (aD s (p+2))=true:=λh=>hall 2 (by omega) (by omega)
   have c3:4<=z->gM (aD s (p+3))=true:=λh=>hall 3 (by omega) (by omega)
   simp only [gM,Bool.and_eq_true,decide_eq_true_eq] at c1 c2 c3;by_cases hb:pA (aD s p) (aD s (p+1))=true
   ·rw [if_pos hb,if_pos (by simp [hb])]
   ·rw [if_neg hb,if_neg];intro h;rcases h with h | h | h | h | h
    ·omega
    ·omega
    ·have:=c2 h.1;omega
    ·have:=c3 h.1;omega
    ·exact hb h
  ·obtain ⟨i,hi⟩:=Classical.not_forall.1 hall;obtain ⟨hi0,hi⟩:=Classical.not_imp.1 hi;obtain ⟨hiz,hi⟩:=Classical.not_imp.1 hi;have hi':gM (aD s (p+i))=false:=by simpa using hi
   rw [wI s p z i hz (by omega) hi0 hiz hi',if_pos];simp only [gM,Bool.and_eq_false_iff,decide_eq_false_iff_not] at hi';rcases (show i=1\/i=2\/i=3 by omega) with rfl | rfl | rfl
   ·right;left;omega
   ·right;right;left;omega
   ·right;right;right;left;omega
theorem zT(s:ByteArray)(p:Nat)(hp:p<s.size):bC s p=qV (zv s p):=by
 rw [Lib.decode_N,<-kU,<-kU,<-kU,<-kU,<-lL];have h0:=sL s p;have h1:=sL s (p+1);have h2:=sL s (p+2);have h3:=sL s (p+3);have hn:1<=s.size-p:=by omega
 have hbad:=tL (aD s p) (aD s (p+1));rcases (show aD s p<128\/((128<=aD s p/\aD s p<194)\/245<=aD s p)\/(194<=aD s p/\aD s p<224)\/aD s p=224\/((225<=aD s p/\aD s p<237)\/(238<=aD s p/\aD s p<240))\/aD s p=237\/aD s p=240\/(241<=aD s p/\aD s p<244)\/aD s p=244 by omega) with h | h | h | h | h | h | h | h | h
 ·rw [rU s p (by unfold cJ;rw [if_pos h];omega)];unfold cJ Lib.decodeN qV;rw [if_pos h,if_pos h,if_neg (by simp only;omega)]
 ·have hz:cJ (aD s p)=0:=by unfold cJ;split <;> (try split) <;> (try split) <;> (try split) <;> (try split) <;> omega
  have hf:Lib.firstT (aD s p)=241:=by unfold Lib.firstT;(repeat' split) <;> omega
  rw [rU s p (by omega),hz,Lib.bad_eq _ _ _ _ _ h0 hf];rfl
 ·have hz:cJ (aD s p)=2:=by unfold cJ;split <;> (try split) <;> (try split) <;> (try split) <;> (try split) <;> omega
  rw [qW s p 2 hz (by omega) (by omega),<-Lib.slow_C2 _ _ _ _ _ hn h1 h2 h3 h,tX _ _ _ _ _ 2 _ _ (by omega) (by omega)];simp only [hbad];split <;> split <;> omega
 ·have hz:cJ (aD s p)=3:=by unfold cJ;split <;> (try split) <;> (try split) <;> (try split) <;> (try split) <;> omega
  rw [qW s p 3 hz (by omega) (by omega),<-Lib.slow_E0 _ _ _ _ _ hn h1 h2 h3 h,tX _ _ _ _ _ 3 _ _ (by omega) (by omega)];simp only [hbad];split <;> split <;> omega
 ·have hz:cJ (aD s p)=3:=by unfold cJ;split <;> (try split) <;> (try split) <;> (try split) <;> (try split) <;> omega
  rw [qW s p 3 hz (by omega) (by omega),<-Lib.slow_E1 _ _ _ _ _ hn h1 h2 h3 h,tX _ _ _ _ _ 3 _ _ (by omega) (by omega)];simp only [hbad];split <;> split <;> omega
 ·have hz:cJ (aD s p)=3:=by unfold cJ;split <;> (try split) <;> (try split) <;> (try split) <;> (try split) <;> omega
  rw [qW s p 3 hz (by omega) (by omega),<-Lib.slow_ED _ _ _ _ _ hn h1 h2 h3 h,tX _ _ _ _ _ 3 _ _ (by omega) (by omega)];simp only [hbad];split <;> split <;> omega
 ·have hz:cJ (aD s p)=4:=by unfold cJ;split <;> (try split) <;> (try split) <;> (try split) <;> (try split) <;> omega
  rw [qW s p 4 hz (by omega) (by omega),<-Lib.slow_F0 _ _ _ _ _ hn h1 h2 h3 h,tX _ _ _ _ _ 4 _ _ (by omega) (by omega)];simp only [hbad];split <;> split <;> omega
 ·have hz:cJ (aD s p)=4:=by unfold cJ;split <;> (try split) <;> (try split) <;> (try split) <;> (try split) <;> omega
  rw [qW s p 4 hz (by omega) (by omega),<-Lib.slow_F1 _ _ _ _ _ hn h1 h2 h3 h,tX _ _ _ _ _ 4 _ _ (by omega) (by omega)];simp only [hbad];split <;> split <;> omega
 ·have hz:cJ (aD s p)=4:=by unfold cJ;split <;> (try split) <;> (try split) <;> (try split) <;> (try split) <;> omega
  rw [qW s p 4 hz (by omega) (by omega),<-Lib.slow_F4 _ _ _ _ _ hn h1 h2 h3 h,tX _ _ _ _ _ 4 _ _ (by omega) (by omega)];simp only [hbad];split <;> split <;> omega
theorem aIv(s:ByteArray)(p i:Nat)(hc:bC s p≠0)(h0:0<i)(hi:i<bC s p):128<=aD s (p+i):=by
 by_cases h1:cJ (aD s p)<=1
 ·rw [rU s p h1] at hi;omega
 ·have h4:cJ (aD s p)<=4:=by unfold cJ;split <;> (try split) <;> (try split) <;> (try split) <;> (try split) <;> omega
  cases hco:gM (aD s (p+i))
  ·have hle:bC s p<=cJ (aD s p):=by
    simp only [bC,if_neg h1];split
    ·omega
    ·split <;> omega
   exact absurd (wI s p _ i rfl h1 h0 (by omega) hco) hc
  ·simp only [gM,Bool.and_eq_true,decide_eq_true_eq] at hco;exact hco.1
theorem aUh(s:ByteArray)(p:Nat)(hp:p<s.size)(hc:bC s p≠0):(10∈s.data.toList.drop p)↔aD s p=10\/10∈s.data.toList.drop (p+bC s p):=by
 have hle:=yO s p hp;rw [zt,zt];constructor
 ·rintro ⟨i,hi,he⟩;simp only [zz,<-lL,zy] at hi he;have hbi:aD s (p+i)=10:=by rw [gJ s (p+i) (by omega)];show (s.data.toList[p+i]'_).toNat=10;rw [he];rfl
  by_cases hic:i<bC s p
  ·by_cases hi0:i=0
   ·subst hi0;exact Or.inl hbi
   ·have:=aIv s p i hc (by omega) hic;omega
  ·refine Or.inr ⟨i-bC s p,by simp only [zz,<-lL];omega,?_⟩;simp only [zy];have:p+bC s p+(i-bC s p)=p+i:=by omega
   simp only [this];exact he
 ·rintro (h | ⟨i,hi,he⟩)
  ·refine ⟨0,by simp only [zz,<-lL];omega,?_⟩;simp only [zy,Nat.add_zero];rw [gJ s p hp] at h;have h':(s.data.toList[p]'(by rw [<-lL];exact hp)).toNat=10:=h;exact UInt8.toNat_inj.1 h'
  ·simp only [zz,<-lL,zy] at hi he;refine ⟨bC s p+i,by simp only [zz,<-lL];omega,?_⟩;simp only [zy];have:p+(bC s p+i)=p+bC s p+i:=by omega
   simp only [this];exact he
theorem aUi(s:ByteArray):∀f p m,s.size-p<=f->
  (gN s f p m=true↔Lib.validD (s.data.toList.drop p)=true/\¬10∈s.data.toList.drop p/\1<=m+Lib.runeCountFrom s f p/\m+Lib.runeCountFrom s f p<=20):=by
 intro f;induction f with
 | zero=>
  intro p m hf;have hd:s.data.toList.drop p=[]:=zu (by rw [<-lL];omega);rw [hd];simp [gN,Lib.validD_nil,Lib.runeCountFrom]
 | succ f ih=>
  intro p m hf;by_cases hp:p<s.size
  ·have hne:s.data.toList.drop p≠[]:=by
    intro h;have:=congrArg List.length h;simp only [zz,<-lL,List.length_nil] at this;omega
   have hch:=zT s p hp;rw [Lib.validD_step _ hne,Lib.decodeL_drop,List.drop_drop];by_cases hbad:(zv s p).1=65533/\(zv s p).2=1
   ·have h0:bC s p=0:=by rw [hch];unfold qV;rw [if_pos hbad]
    rw [if_pos hbad,wJ s (f+1) p m hp hf (Or.inl h0)];simp
   ·have hw:=Lib.decode_width_pos s p hp;have hc:bC s p=(zv s p).2:=by rw [hch];unfold qV;rw [if_neg hbad]
    rw [if_neg hbad,aUh s p hp (by omega)];have hrc:Lib.runeCountFrom s (f+1) p=1+Lib.runeCountFrom s f (p+(zv s p).2):=by simp [Lib.runeCountFrom,hp]
    rw [hrc];by_cases h10:aD s p=10
    ·rw [wJ s (f+1) p m hp hf (Or.inr h10)];simp [h10]
    ·have hstep:gN s (f+1) p m=gN s f (p+bC s p) (m+1):=by
      simp only [gN,if_pos hp];rw [if_neg (by omega)]
     rw [hstep,ih (p+bC s p) (m+1) (by omega),hc];simp only [h10,false_or];constructor
     ·rintro ⟨a,b,c,d⟩;exact ⟨a,b,by omega,by omega⟩
     ·rintro ⟨a,b,c,d⟩;exact ⟨a,b,by omega,by omega⟩
  ·have hd:s.data.toList.drop p=[]:=zu (by rw [<-lL];omega);rw [yP s (f+1) p m hp,hd,Lib.runeCountFrom_end s (f+1) p hp];simp [Lib.validD_nil]
theorem aUj(s:ByteArray):gE s=(Lib.validD s.data.toList && !decide (0<=Lib.indexByte s.data.toList 10) && (decide (1<=Lib.runeCount s) && decide (Lib.runeCount s<=20))):=by rw [Bool.eq_iff_iff];unfold gE;rw [aUi s s.size 0 0 (by omega),<-Lib.contains_iff_indexByte];have hr:Lib.runeCountFrom s s.size 0=Lib.runeCount s:=rfl;rw [hr];simp [and_assoc]
def fR(c:Int):Bool:=decide (97<=c) && decide (c<=122)
def eU(c:Int):Bool:=decide (65<=c) && decide (c<=90)
def tY(c:Int):Bool:=decide (48<=c) && decide (c<=57)
def hH(c:Int):Bool:=fR c || eU c || tY c || c == 95
def tZ(s:ByteArray):Nat->Nat->Nat
 | 0,p=>p
 | f+1,p=>if p<s.size/\hH (aD s p)=true then tZ s f (p+1) else p
def eT(s:ByteArray)(p:Nat):Nat:=tZ s (s.size-p) p
theorem aCr(h:p<s.size)(hi:hH (aD s p)=true):eT s p=eT s (p+1):=by unfold eT;obtain ⟨f,hf⟩ : ∃f,s.size-p=f+1:=⟨s.size-p-1,by omega⟩;rw [hf,show s.size-(p+1)=f by omega];simp only [tZ];rw [if_pos ⟨h,hi⟩]
theorem aUk(h:¬(p<s.size/\hH (aD s p)=true)):eT s p=p:=by
 unfold eT;cases hf:s.size-p with
 | zero=>rfl
 | succ f=>simp only [tZ];rw [if_neg h]
theorem aCs(s:ByteArray):∀f p,p<=tZ s f p/\(p<=s.size->tZ s f p<=s.size):=by
 intro f;induction f with
 | zero=>intro p;exact ⟨zs _,λh=>h⟩
 | succ f ih=>
  intro p;simp only [tZ];split
  ·rename_i h;have:=ih (p+1);exact ⟨by omega,λ_=>this.2 (by omega)⟩
  ·exact ⟨zs _,λh=>h⟩
theorem aUl(s:ByteArray)(p:Nat):p<=eT s p:=(aCs s _ p).1
theorem aUm(h:p<=s.size):eT s p<=s.size:=(aCs s _ p).2 h
def gH(s:ByteArray):Nat->ByteArray->Nat->Option (ByteArray×Nat)
 | 0,_,_=>none
 | f+1,name,p=>
  if p<s.size then
   if aD s p=39 then (if gE name then some (name,p+1) else none)
   else
    if aD s p=92 then
     (if p+1<s.size/\(aD s (p+1)=39\/aD s (p+1)=92) then gH s f (name++s.extract (p+1) (p+2)) (p+2) else none)
    else if bC s p=0\/aD s p=10 then none else gH s f (name++s.extract p (p+bC s p)) (p+bC s p)
  else none
def nO(s:ByteArray)(p:Nat):Option (ByteArray×Nat):=gH s s.size ⟨#[]⟩ (p+1)
def uA(s:ByteArray):Nat->Nat->Nat
 | 0,p=>p
 | f+1,p=>if p<s.size/\aD s p≠10 then uA s f (p+1) else p
def gT(s:ByteArray)(p:Nat):Nat:=uA s (s.size-p) p
theorem aCt(h:p<s.size)(hi:aD s p≠10):gT s p=gT s (p+1):=by unfold gT;obtain ⟨f,hf⟩ : ∃f,s.size-p=f+1:=⟨s.size-p-1,by omega⟩;rw [hf,show s.size-(p+1)=f by omega];simp only [uA];rw [if_pos ⟨h,hi⟩]
theorem aIw(h:¬(p<s.size/\aD s p≠10)):gT s p=p:=by
 unfold gT;cases hf:s.size-p with
 | zero=>rfl
 | succ f=>simp only [uA];rw [if_neg h]
theorem aIx(s:ByteArray):∀f p,p<=uA s f p/\(p<=s.size->uA s f p<=s.size):=by
 intro f;induction f with
 | zero=>intro p;exact ⟨zs _,λh=>h⟩
 | succ f ih=>
  intro p;simp only [uA];split
  ·rename_i h;have:=ih (p+1);exact ⟨by omega,λ_=>this.2 (by omega)⟩
  ·exact ⟨zs _,λh=>h⟩
structure Tk where
 kind:Nat
 txt:ByteArray
 pos:Nat
inductive Nx where
 | tok (t:Tk) (next:Nat)
 | bad (p:Nat)
 | stop (p:Nat)
def pK(c:Nat):Bool:=decide (c=124) || decide (c=126) || decide (c=40) || decide (c=41) || decide (c=44) || decide (c=46)
def eV(s:ByteArray)(p:Nat):Nx:=
 if fR (aD s p) || eU (aD s p) then
  (if eT s p-p > 20 then .bad p else .tok ⟨if eU (aD s p) then 118 else 110,s.extract p (eT s p),p⟩ (eT s p))
 else if aD s p=39 then (match nO s p with | some (n,e)=>.tok ⟨110,n,p⟩ e | none=>.bad p)
 else if aD s p=36 then (if p+6<=s.size/\s.extract p (p+6)=⟨#[36,102,97,108,115,101]⟩ then .tok ⟨102,⟨#[]⟩,p⟩ (p+6) else .bad p)
 else if pK (aD s p) then .tok ⟨aD s p,⟨#[]⟩,p⟩ (p+1)
 else .bad p
def nP(c:Nat):Bool:=decide (c=32) || decide (c=9) || decide (c=10)
def qX(s:ByteArray):Nat->Nat->Nx
 | 0,p=>.stop p
 | f+1,p=>
  if p<s.size then
   if nP (aD s p) then qX s f (p+1)
   else if aD s p=37 then qX s f (gT s p)
   else eV s p
  else .stop p
def cW(s:ByteArray):Nat->Nat->List Tk×Option Nat
 | 0,p=>([],some p)
 | f+1,p=>
  if p<s.size then
   if nP (aD s p) then cW s f (p+1)
   else if aD s p=37 then cW s f (gT s p)
   else match eV s p with
    | .tok t e=>(t :: (cW s f e).1,(cW s f e).2)
    | _=>([],some p)
  else ([⟨101,⟨#[]⟩,p⟩],none)
theorem zU(h:p<s.size)(h37:aD s p=37):p<gT s p:=by rw [aCt h (by omega)];have:=(aIx s (s.size-(p+1)) (p+1)).1;unfold gT;omega
theorem aCu(h:p<=s.size):gT s p<=s.size:=(aIx s _ p).2 h
theorem aUn(s:ByteArray):∀f nm p n e,gH s f nm p=some (n,e)->p<e/\e<=s.size/\gE n=true:=by
 intro f;induction f with
 | zero=>intro nm p n e h;simp [gH] at h
 | succ f ih=>
  intro nm p n e h;simp only [gH] at h;split at h
  ·rename_i hp;split at h
   ·split at h
    ·rename_i hn;simp at h;obtain ⟨rfl,rfl⟩:=h;exact ⟨by omega,by omega,hn⟩
    ·simp at h
   ·split at h
    ·split at h
     ·obtain ⟨i1,i2,i3⟩:=ih _ _ _ _ h;exact ⟨by omega,i2,i3⟩
     ·simp at h
    ·split at h
     ·simp at h
     ·obtain ⟨i1,i2,i3⟩:=ih _ _ _ _ h;exact ⟨by omega,i2,i3⟩
  ·simp at h
theorem aUo{n:ByteArray}{e:Nat}(h:nO s p=some (n,e)):p+1<e/\e<=s.size/\gE n=true:=aUn s _ _ _ _ _ h
theorem aUp(h:p<s.size)(hl:(fR (aD s p) || eU (aD s p))=true):p<eT s p:=by rw [aCr h (by unfold hH;simp at hl ⊢;rcases hl with h | h <;> simp [h])];have:=aUl s (p+1);omega
def aIy:Option Nat->Int
 | none=>-1
 | some p=>p
theorem aUq(hl:(fR (aD s k) || eU (aD s k))=true):eV s k=if eT s k-k > 20 then .bad k else .tok ⟨if eU (aD s k) then 118 else 110,s.extract k (eT s k),k⟩ (eT s k):=by unfold eV;rw [if_pos hl]
theorem aUr(hl:(fR (aD s k) || eU (aD s k))=false)(h39:aD s k=39):eV s k=match nO s k with | some (n,e)=>.tok ⟨110,n,k⟩ e | none=>.bad k:=by unfold eV;refine (if_neg (by rw [hl];decide)).trans ((if_pos h39).trans ?_);cases nO s k <;> rfl
theorem aUs(hl:(fR (aD s k) || eU (aD s k))=false)(h39:aD s k≠39)(h36:aD s k=36) :
  eV s k=if k+6<=s.size/\s.extract k (k+6)=⟨#[36,102,97,108,115,101]⟩ then .tok ⟨102,⟨#[]⟩,k⟩ (k+6) else .bad k:=by
 unfold eV;rw [if_neg (by rw [hl];decide),if_neg h39,if_pos h36]
theorem aUt(hl:(fR (aD s k) || eU (aD s k))=false)(h39:aD s k≠39)(h36:aD s k≠36) :
  eV s k=if pK (aD s k) then .tok ⟨aD s k,⟨#[]⟩,k⟩ (k+1) else .bad k:=by
 unfold eV;rw [if_neg (by rw [hl];decide),if_neg h39,if_neg h36]
abbrev Pl:=ByteArray×Bool×Int×Int
def xB(x y:Pl):Prop:=x.1=y.1/\(x.2.1≠y.2.1\/x.2.2.1≠y.2.2.1)
def nQ(l:List Pl)(i:Nat)(h:i<l.length):Prop:=5<l[i].2.2.1\/∃k,∃hk:k<i,xB (l[k]'(by omega)) l[i]
def xC(l:List Pl)(r:Int):Prop:=(r=-1/\∀i h,¬nQ l i h)\/∃i h,nQ l i h/\(∀j hj,j<i->¬nQ l j hj)/\r=l[i].2.2.2
def vK:Tk:=⟨63,⟨#[]⟩,0⟩
def eW(r:List Tk×Option Nat):List Tk:=r.1++(match r.2 with | some p=>[⟨63,⟨#[]⟩,p⟩] | none=>[])
def aE(T:List Tk)(i:Nat):Tk:=T.getD i vK
def xD:List ByteArray->ByteArray->Int
 | [],_=>-1
 | y :: r,x=>if y=x then (r.length:Int) else xD r x
def kE(l:List ByteArray)(x:ByteArray):Int:=xD l.reverse x
theorem aUu(x:ByteArray):kE [] x=-1:=rfl
theorem aIz(l:List ByteArray)(y x:ByteArray):kE (l++[y]) x=if y=x then (l.length:Int) else kE l x:=by simp [kE,xD]
theorem aUv(l:List ByteArray)(x:ByteArray) : -1<=kE l x/\kE l x<l.length:=by
 unfold kE;have hr:l.length=l.reverse.length:=by simp
 rw [hr];generalize l.reverse=m;clear hr;induction m with
 | nil=>simp [xD]
 | cons y r ih=>
  simp only [xD];split
  ·simp;omega
  ·simp;omega
structure bB where
 i:Nat
 vars:List ByteArray
 places:List Pl
def oO(l:List ByteArray)(x:ByteArray):List ByteArray:=if kE l x<0 then l++[x] else l
def nR(l:List ByteArray)(x:ByteArray):Int:=if kE l x<0 then l.length else kE l x
def pL(l:List Pl)(k:Nat)(n:Nat):List Pl:=l.modify k λp=>(p.1,p.2.1,(n:Int),p.2.2.2)
def dT(l:List Nd)(k:Nat)(n:Nat):List Nd:=l.modify k λp=>(p.1,(n:Int))
mutual
def cX(T:List Tk):Nat->Bool->bB->List Nd->Except Nat (bB×List Nd)
 | 0,_,_,_=>.error 0
 | f+1,atom,st,l=>
  if (aE T st.i).kind=118/\atom=false then .ok (⟨st.i+1,oO st.vars (aE T st.i).txt,st.places⟩,l++[(⟨#[]⟩,nR st.vars (aE T st.i).txt)])
  else if (aE T st.i).kind≠110 then .error (aE T st.i).pos
  else if (aE T (st.i+1)).kind=40 then
   match eP T f ⟨st.i+1,st.vars,st.places++[((aE T st.i).txt,atom,0,((aE T st.i).pos:Int))]⟩ (l++[((aE T st.i).txt,0)]) 0 with
   | .error p=>.error p
   | .ok (st',l',n)=>.ok (⟨st'.i,st'.vars,pL st'.places st.places.length n⟩,dT l' l.length n)
  else .ok (⟨st.i+1,st.vars,st.places++[((aE T st.i).txt,atom,0,((aE T st.i).pos:Int))]⟩,l++[((aE T st.i).txt,0)])
def eP(T:List Tk):Nat->bB->List Nd->Nat->Except Nat (bB×List Nd×Nat)
 | 0,_,_,_=>.error 0
 | f+1,st,l,n=>
  match cX T f false ⟨st.i+1,st.vars,st.places⟩ l with
  | .error p=>.error p
  | .ok (st',l')=>
   if (aE T st'.i).kind=44 then eP T f st' l' (n+1)
   else if (aE T st'.i).kind=41 then .ok (⟨st'.i+1,st'.vars,st'.places⟩,l',n+1)
   else .error (aE T st'.i).pos
end
def iK(T:List Tk):Nat->bB->List Lt->Except Nat (bB×List Lt)
 | 0,_,_=>.error 0
 | f+1,st,c=>
  match cX T (T.length+1) true ⟨if (aE T st.i).kind=126 then st.i+1 else st.i,st.vars,st.places⟩ [] with
  | .error p=>.error p
  | .ok (st',a)=>
   if (aE T st'.i).kind=124 then iK T f ⟨st'.i+1,st'.vars,st'.places⟩ (c++[(decide ((aE T st.i).kind=126),a)])
   else .ok (st',c++[(decide ((aE T st.i).kind=126),a)])
def nS(T:List Tk)(st:bB):Except Nat (bB×List Lt):=
 if (aE T st.i).kind=102 then .ok (⟨st.i+1,[],st.places⟩,[]) else iK T (T.length+1) ⟨st.i,[],st.places⟩ []
def nT(T:List Tk)(st:bB):Except Nat (bB×List Lt):=
 match nS T st with
 | .error p=>.error p
 | .ok (st',c)=>if (aE T st'.i).kind=46 then .ok (⟨st'.i+1,st'.vars,st'.places⟩,c) else .error (aE T st'.i).pos
def kF(T:List Tk):Nat->bB->List (Nat×List Lt)->Except Nat (bB×List (Nat×List Lt))
 | 0,_,_=>.error 0
 | f+1,st,cs=>
  if (aE T st.i).kind=101 then .ok (st,cs)
  else match nT T st with
   | .error p=>.error p
   | .ok (st',c)=>kF T f st' (cs++[((aE T st.i).pos,c)])
def xE(s:ByteArray):Except Nat (bB×List (Nat×List Lt)):=kF (eW (cW s (s.size+1) 0)) ((eW (cW s (s.size+1) 0)).length+1) ⟨0,[],[]⟩ []
theorem vN(T:List Tk):∀f,(∀atom st l st' l',cX T f atom st l=.ok (st',l')->st.i<st'.i/\l.length<l'.length/\l'.length<=l.length+(st'.i-st.i)/\st.places.length<=st'.places.length/\st'.places.length<=st.places.length+(st'.i-st.i)/\st.vars.length<=st'.vars.length/\st'.vars.length<=st.vars.length+(st'.i-st.i))/\
  (∀st l n st' l' n',eP T f st l n=.ok (st',l',n')->st.i+1<st'.i/\l.length<=l'.length/\l'.length+1<=l.length+(st'.i-st.i)/\st.places.length<=st'.places.length/\st'.places.length+1<=st.places.length+(st'.i-st.i)/\st.vars.length<=st'.vars.length/\st'.vars.length+1<=st.vars.length+(st'.i-st.i)/\n<n'/\n'<=n+(st'.i-st.i)):=by
 intro f;induction f with
 | zero=>exact ⟨λatom st l st' l' h=>by simp [cX] at h,λst l n st' l' n' h=>by simp [eP] at h⟩
 | succ f ih=>
  obtain ⟨ih1,ih2⟩:=ih;constructor
  ·intro atom st l st' l' h;rw [cX] at h;split at h
   ·simp only [Except.ok.injEq,Prod.mk.injEq] at h;obtain ⟨rfl,rfl⟩:=h;simp only [zw,zx,oO];split <;> simp <;> omega
   ·split at h
    ·simp at h
    ·split at h
     ·split at h
      ·simp at h
      ·rename_i st1 l1 n1 hp;have q:=ih2 _ _ _ _ _ _ hp;simp only [Except.ok.injEq,Prod.mk.injEq] at h;obtain ⟨rfl,rfl⟩:=h;simp only [zw,zx,pL,dT,List.length_modify] at q ⊢;omega
     ·simp only [Except.ok.injEq,Prod.mk.injEq] at h;obtain ⟨rfl,rfl⟩:=h;simp only [zw,zx];omega
  ·intro st l n st' l' n' h;rw [eP] at h;split at h
   ·simp at h
   ·rename_i st1 l1 hp;have q:=ih1 _ _ _ _ _ hp;simp only at q;split at h
    ·have q2:=ih2 _ _ _ _ _ _ h;omega
    ·split at h
     ·simp only [Except.ok.injEq,Prod.mk.injEq] at h;obtain ⟨rfl,rfl,rfl⟩:=h;simp only;omega
     ·simp at h
section
variable {w:World}{pa i:Nat}{bad:Int}{vL vP vC vB vV:Value}
end
theorem fD{B:Nat}{a w:World}(h:Below B a w){p:Addr}(hp:B<=p.block)(u:Value):Below B a (w.setCell p u):=
 ⟨h.os,h.tape,h.output,by have:=h.size;simpa [World.setCell] using this,λk hk=>by rw [Below.heap_setCell _ _ _ _ (by omega)];exact h.block k hk⟩
def zV(L:List Tk)(broken:Int)(i:Nat):Int:=if h:i<L.length then (L[i].pos:Int) else broken
theorem qY{w w':World}{b j:Nat}(h:w.grownBy w' (some b))(u:Value):w.grownBy (w'.setCell ⟨b,j,none⟩ u) (some b):=
 ⟨h.os,h.tape,h.output,by have:=h.size;simpa [World.setCell] using this,λk hk hne=>by rw [Below.heap_setCell _ _ _ _ (λe=>hne (by rw [e]))];exact h.block k hk hne⟩
end
end Go.Proofs.YtcldkjcpofjmhaaGreatDoor
