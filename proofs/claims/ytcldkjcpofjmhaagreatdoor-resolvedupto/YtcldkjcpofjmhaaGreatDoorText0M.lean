import Derived.Test.YtcldkjcpofjmhaaGreatDoorBase0M
import Derived.Lib.ValidLaws
import Derived.Lib.RuneCount
import Derived.Lib.IndexAny
import Derived.Laws.BytesArg
import Derived.Laws.Rows
import Derived.OneCell
import Derived.Handy
import Derived.RegionTactic
import Derived.ChangeAlike
import Derived.Maps.OwnSet
import Derived.Maps.Keyed
import Derived.StringKeys
open Bool renaming eq_iff_iff→zu,and_eq_true→zh
open List renaming length_drop→zz,getElem_drop→zy,length_append→zx,length_singleton→zv,drop_eq_nil_of_le→zo,mem_iff_getElem→zn,reverse_cons→zk,append_assoc→zj,getElem?_map→zi
open Nat renaming le_refl→zs
open Or renaming inr→zm,inl→zl
namespace Go.Proofs.YtcldkjcpofjmhaaGreatDoor
open _root_.Go.Proofs.Tryz renaming prog→zw,underlying80→zr,underlying9→zq
open Utf8 renaming decode→zt
set_option maxHeartbeats 1000000
set_option maxRecDepth 100000
section
open Go.RowKit
theorem lD(x:ByteArray):x.size=x.data.toList.length:=rfl
theorem aT7(s:ByteArray)(p:Nat):bC s p<=4:=by
 have hz:cI (aC s p)<=4:=by unfold cI;split <;> (try split) <;> (try split) <;> (try split) <;> (try split) <;> omega
 simp only [bC];split
 ·omega
 ·split
  ·omega
  ·split <;> omega
theorem aT8(s:ByteArray):∀f p m,s.size-p<=f->m<=20->gK s f p m=true->s.size<=p+4*(20-m):=by
 intro f;induction f with
 | zero=>intro p m hf hm h;omega
 | succ f ih=>
  intro p m hf hm h;by_cases hp:p<s.size
  ·by_cases hb:bC s p=0\/aC s p=10
   ·rw [vT s (f+1) p m hp hf hb] at h;simp at h
   ·have hc:=aT7 s p;simp only [gK,if_pos hp,if_neg hb] at h;by_cases hm20:m=20
    ·exfalso;subst hm20;have:∀f p m,20<m->gK s f p m=false:=by
      intro f;induction f with
      | zero=>intro p m hm;simp [gK];omega
      | succ f ih=>
       intro p m hm;simp only [gK];split
       ·split
        ·rfl
        ·exact ih _ _ (by omega)
       ·simp;omega
     rw [this _ _ _ (by omega)] at h;simp at h
    ·have:=ih (p+bC s p) (m+1) (by omega) (by omega) h;omega
  ·omega
theorem aIc(s:ByteArray)(h:fW s=true):0<s.size/\s.size<=80:=by
 refine ⟨?_,?_⟩
 ·rcases Nat.eq_zero_or_pos s.size with h0 | h0
  ·unfold fW at h;rw [h0] at h;simp [gK] at h
  ·exact h0
 ·have:=aT8 s s.size 0 0 (by omega) (by omega) h;omega
end
section
open Go.RowKit
theorem kP(s:ByteArray)(i:Nat):aC s i=(s.data.toList.getD i 0).toNat:=by
 unfold aC;split
 ·next h=>
  obtain ⟨⟨l⟩⟩:=s;have hl:i<l.length:=h;simp [List.getD,hl];rfl
 ·next h=>
  obtain ⟨⟨l⟩⟩:=s;have hl:¬i<l.length:=h;simp [List.getD,List.getElem?_eq_none (show l.length<=i by omega)]
theorem sB(s:ByteArray)(i:Nat):aC s i<256:=by rw [kP];exact UInt8.toNat_lt _
def qK(d:Nat×Nat):Nat:=if d.1=65533/\d.2=1 then 0 else d.2
theorem tG(n b0 b1 b2 b3 sz lo hi:Nat)(h2:2<=sz)(h4:sz<=4):qK (Lib.slowN n b0 b1 b2 b3 sz lo hi)=if n<sz\/b1<lo\/hi<b1\/(3<=sz/\(b2<128\/191<b2))\/(4<=sz/\(b3<128\/191<b3)) then 0 else sz:=by
 unfold qK Lib.slowN;repeat' split
 all_goals first | rfl | omega | (exfalso;omega) | (simp only at *;omega)
theorem qL(s:ByteArray)(p z:Nat)(hz:cI (aC s p)=z)(h2:2<=z)(h4:z<=4) :
  bC s p=if s.size<p+z\/(aC s (p+1)<128\/191<aC s (p+1))\/(3<=z/\(aC s (p+2)<128\/191<aC s (p+2)))\/(4<=z/\(aC s (p+3)<128\/191<aC s (p+3)))\/oS (aC s p) (aC s (p+1))=true then 0 else z:=by
 by_cases hsh:s.size<p+z
 ·rw [xZ s p z hz (by omega) hsh,if_pos (zl hsh)]
 ·by_cases hall:∀i,0<i->i<z->gJ (aC s (p+i))=true
  ·rw [yA s p z hz (by omega) hsh hall];have c1:=hall 1 (by omega) (by omega);have c2:3<=z->gJ (aC s (p+2))=true:=λh=>hall 2 (by omega) (by omega)
   have c3:4<=z->gJ (aC s (p+3))=true:=λh=>hall 3 (by omega) (by omega)
   simp only [gJ,zh,decide_eq_true_eq] at c1 c2 c3;by_cases hb:oS (aC s p) (aC s (p+1))=true
   ·rw [if_pos hb,if_pos (by simp [hb])]
   ·rw [if_neg hb,if_neg];intro h;rcases h with h | h | h | h | h
    ·omega
    ·omega
    ·have:=c2 h.1;omega
    ·have:=c3 h.1;omega
    ·exact hb h
  ·obtain ⟨i,hi⟩:=Classical.not_forall.1 hall;obtain ⟨hi0,hi⟩:=Classical.not_imp.1 hi;obtain ⟨hiz,hi⟩:=Classical.not_imp.1 hi;have hi':gJ (aC s (p+i))=false:=by simpa using hi
   rw [vR s p z i hz (by omega) hi0 hiz hi',if_pos];simp only [gJ,Bool.and_eq_false_iff,decide_eq_false_iff_not] at hi';rcases (show i=1\/i=2\/i=3 by omega) with rfl | rfl | rfl
   ·right;left;omega
   ·right;right;left;omega
   ·right;right;right;left;omega
theorem zL(s:ByteArray)(p:Nat)(hp:p<s.size):bC s p=qK (zt s p):=by
 rw [Lib.decode_N,<-kP,<-kP,<-kP,<-kP,<-lD];have h0:=sB s p;have h1:=sB s (p+1);have h2:=sB s (p+2);have h3:=sB s (p+3);have hn:1<=s.size-p:=by omega
 have hbad:=sS (aC s p) (aC s (p+1));rcases (show aC s p<128\/((128<=aC s p/\aC s p<194)\/245<=aC s p)\/(194<=aC s p/\aC s p<224)\/aC s p=224\/((225<=aC s p/\aC s p<237)\/(238<=aC s p/\aC s p<240))\/aC s p=237\/aC s p=240\/(241<=aC s p/\aC s p<244)\/aC s p=244 by omega) with h | h | h | h | h | h | h | h | h
 ·rw [rI s p (by unfold cI;rw [if_pos h];omega)];unfold cI Lib.decodeN qK;rw [if_pos h,if_pos h,if_neg (by simp only;omega)]
 ·have hz:cI (aC s p)=0:=by unfold cI;split <;> (try split) <;> (try split) <;> (try split) <;> (try split) <;> omega
  have hf:Lib.firstT (aC s p)=241:=by unfold Lib.firstT;(repeat' split) <;> omega
  rw [rI s p (by omega),hz,Lib.bad_eq _ _ _ _ _ h0 hf];rfl
 ·have hz:cI (aC s p)=2:=by unfold cI;split <;> (try split) <;> (try split) <;> (try split) <;> (try split) <;> omega
  rw [qL s p 2 hz (by omega) (by omega),<-Lib.slow_C2 _ _ _ _ _ hn h1 h2 h3 h,tG _ _ _ _ _ 2 _ _ (by omega) (by omega)];simp only [hbad];split <;> split <;> omega
 ·have hz:cI (aC s p)=3:=by unfold cI;split <;> (try split) <;> (try split) <;> (try split) <;> (try split) <;> omega
  rw [qL s p 3 hz (by omega) (by omega),<-Lib.slow_E0 _ _ _ _ _ hn h1 h2 h3 h,tG _ _ _ _ _ 3 _ _ (by omega) (by omega)];simp only [hbad];split <;> split <;> omega
 ·have hz:cI (aC s p)=3:=by unfold cI;split <;> (try split) <;> (try split) <;> (try split) <;> (try split) <;> omega
  rw [qL s p 3 hz (by omega) (by omega),<-Lib.slow_E1 _ _ _ _ _ hn h1 h2 h3 h,tG _ _ _ _ _ 3 _ _ (by omega) (by omega)];simp only [hbad];split <;> split <;> omega
 ·have hz:cI (aC s p)=3:=by unfold cI;split <;> (try split) <;> (try split) <;> (try split) <;> (try split) <;> omega
  rw [qL s p 3 hz (by omega) (by omega),<-Lib.slow_ED _ _ _ _ _ hn h1 h2 h3 h,tG _ _ _ _ _ 3 _ _ (by omega) (by omega)];simp only [hbad];split <;> split <;> omega
 ·have hz:cI (aC s p)=4:=by unfold cI;split <;> (try split) <;> (try split) <;> (try split) <;> (try split) <;> omega
  rw [qL s p 4 hz (by omega) (by omega),<-Lib.slow_F0 _ _ _ _ _ hn h1 h2 h3 h,tG _ _ _ _ _ 4 _ _ (by omega) (by omega)];simp only [hbad];split <;> split <;> omega
 ·have hz:cI (aC s p)=4:=by unfold cI;split <;> (try split) <;> (try split) <;> (try split) <;> (try split) <;> omega
  rw [qL s p 4 hz (by omega) (by omega),<-Lib.slow_F1 _ _ _ _ _ hn h1 h2 h3 h,tG _ _ _ _ _ 4 _ _ (by omega) (by omega)];simp only [hbad];split <;> split <;> omega
 ·have hz:cI (aC s p)=4:=by unfold cI;split <;> (try split) <;> (try split) <;> (try split) <;> (try split) <;> omega
  rw [qL s p 4 hz (by omega) (by omega),<-Lib.slow_F4 _ _ _ _ _ hn h1 h2 h3 h,tG _ _ _ _ _ 4 _ _ (by omega) (by omega)];simp only [hbad];split <;> split <;> omega
theorem aId(s:ByteArray)(p i:Nat)(hc:bC s p≠0)(h0:0<i)(hi:i<bC s p):128<=aC s (p+i):=by
 by_cases h1:cI (aC s p)<=1
 ·rw [rI s p h1] at hi;omega
 ·have h4:cI (aC s p)<=4:=by unfold cI;split <;> (try split) <;> (try split) <;> (try split) <;> (try split) <;> omega
  cases hco:gJ (aC s (p+i))
  ·have hle:bC s p<=cI (aC s p):=by
    simp only [bC,if_neg h1];split
    ·omega
    ·split <;> omega
   exact absurd (vR s p _ i rfl h1 h0 (by omega) hco) hc
  ·simp only [gJ,zh,decide_eq_true_eq] at hco;exact hco.1
theorem aT9(s:ByteArray)(p:Nat)(hp:p<s.size)(hc:bC s p≠0):(10∈s.data.toList.drop p)↔aC s p=10\/10∈s.data.toList.drop (p+bC s p):=by
 have hle:=yB s p hp;rw [zn,zn];constructor
 ·rintro ⟨i,hi,he⟩;simp only [zz,<-lD,zy] at hi he;have hbi:aC s (p+i)=10:=by rw [gE s (p+i) (by omega)];show (s.data.toList[p+i]'_).toNat=10;rw [he];rfl
  by_cases hic:i<bC s p
  ·by_cases hi0:i=0
   ·subst hi0;exact zl hbi
   ·have:=aId s p i hc (by omega) hic;omega
  ·refine zm ⟨i-bC s p,by simp only [zz,<-lD];omega,?_⟩;simp only [zy];have:p+bC s p+(i-bC s p)=p+i:=by omega
   simp only [this];exact he
 ·rintro (h | ⟨i,hi,he⟩)
  ·refine ⟨0,by simp only [zz,<-lD];omega,?_⟩;simp only [zy,Nat.add_zero];rw [gE s p hp] at h;have h':(s.data.toList[p]'(by rw [<-lD];exact hp)).toNat=10:=h;exact UInt8.toNat_inj.1 h'
  ·simp only [zz,<-lD,zy] at hi he;refine ⟨bC s p+i,by simp only [zz,<-lD];omega,?_⟩;simp only [zy];have:p+(bC s p+i)=p+bC s p+i:=by omega
   simp only [this];exact he
theorem aTa(s:ByteArray):∀f p m,s.size-p<=f->
  (gK s f p m=true↔Lib.validD (s.data.toList.drop p)=true/\¬10∈s.data.toList.drop p/\1<=m+Lib.runeCountFrom s f p/\m+Lib.runeCountFrom s f p<=20):=by
 intro f;induction f with
 | zero=>
  intro p m hf;have hd:s.data.toList.drop p=[]:=zo (by rw [<-lD];omega);rw [hd];simp [gK,Lib.validD_nil,Lib.runeCountFrom]
 | succ f ih=>
  intro p m hf;by_cases hp:p<s.size
  ·have hne:s.data.toList.drop p≠[]:=by
    intro h;have:=congrArg List.length h;simp only [zz,<-lD,List.length_nil] at this;omega
   have hch:=zL s p hp;rw [Lib.validD_step _ hne,Lib.decodeL_drop,List.drop_drop];by_cases hbad:(zt s p).1=65533/\(zt s p).2=1
   ·have h0:bC s p=0:=by rw [hch];unfold qK;rw [if_pos hbad]
    rw [if_pos hbad,vT s (f+1) p m hp hf (zl h0)];simp
   ·have hw:=Lib.decode_width_pos s p hp;have hc:bC s p=(zt s p).2:=by rw [hch];unfold qK;rw [if_neg hbad]
    rw [if_neg hbad,aT9 s p hp (by omega)];have hrc:Lib.runeCountFrom s (f+1) p=1+Lib.runeCountFrom s f (p+(zt s p).2):=by simp [Lib.runeCountFrom,hp]
    rw [hrc];by_cases h10:aC s p=10
    ·rw [vT s (f+1) p m hp hf (zm h10)];simp [h10]
    ·have hstep:gK s (f+1) p m=gK s f (p+bC s p) (m+1):=by
      simp only [gK,if_pos hp];rw [if_neg (by omega)]
     rw [hstep,ih (p+bC s p) (m+1) (by omega),hc];simp only [h10,false_or];constructor
     ·rintro ⟨a,b,c,d⟩;exact ⟨a,b,by omega,by omega⟩
     ·rintro ⟨a,b,c,d⟩;exact ⟨a,b,by omega,by omega⟩
  ·have hd:s.data.toList.drop p=[]:=zo (by rw [<-lD];omega);rw [yC s (f+1) p m hp,hd,Lib.runeCountFrom_end s (f+1) p hp];simp [Lib.validD_nil]
theorem aTb(s:ByteArray):fW s=(Lib.validD s.data.toList && !decide (0<=Lib.indexByte s.data.toList 10) && (decide (1<=Lib.runeCount s) && decide (Lib.runeCount s<=20))):=by rw [zu];unfold fW;rw [aTa s s.size 0 0 (by omega),<-Lib.contains_iff_indexByte];have hr:Lib.runeCountFrom s s.size 0=Lib.runeCount s:=rfl;rw [hr];simp [and_assoc]
def fJ(c:Int):Bool:=decide (97<=c) && decide (c<=122)
def eO(c:Int):Bool:=decide (65<=c) && decide (c<=90)
def tH(c:Int):Bool:=decide (48<=c) && decide (c<=57)
def gY(c:Int):Bool:=fJ c || eO c || tH c || c == 95
def tI(s:ByteArray):Nat->Nat->Nat
 | 0,p=>p
 | f+1,p=>if p<s.size/\gY (aC s p)=true then tI s f (p+1) else p
def eN(s:ByteArray)(p:Nat):Nat:=tI s (s.size-p) p
theorem aCe{s:ByteArray}{p:Nat}(h:p<s.size)(hi:gY (aC s p)=true):eN s p=eN s (p+1):=by unfold eN;obtain ⟨f,hf⟩ : ∃f,s.size-p=f+1:=⟨s.size-p-1,by omega⟩;rw [hf,show s.size-(p+1)=f by omega];simp only [tI];rw [if_pos ⟨h,hi⟩]
theorem aTc{s:ByteArray}{p:Nat}(h:¬(p<s.size/\gY (aC s p)=true)):eN s p=p:=by
 unfold eN;cases hf:s.size-p with
 | zero=>rfl
 | succ f=>simp only [tI];rw [if_neg h]
theorem aCf(s:ByteArray):∀f p,p<=tI s f p/\(p<=s.size->tI s f p<=s.size):=by
 intro f;induction f with
 | zero=>intro p;exact ⟨zs _,λh=>h⟩
 | succ f ih=>
  intro p;simp only [tI];split
  ·rename_i h;have:=ih (p+1);exact ⟨by omega,λ_=>this.2 (by omega)⟩
  ·exact ⟨zs _,λh=>h⟩
theorem aTd(s:ByteArray)(p:Nat):p<=eN s p:=(aCf s _ p).1
theorem aTe{s:ByteArray}{p:Nat}(h:p<=s.size):eN s p<=s.size:=(aCf s _ p).2 h
def gA(s:ByteArray):Nat->ByteArray->Nat->Option (ByteArray×Nat)
 | 0,_,_=>none
 | f+1,name,p=>
  if p<s.size then
   if aC s p=39 then (if fW name then some (name,p+1) else none)
   else
    if aC s p=92 then
     (if p+1<s.size/\(aC s (p+1)=39\/aC s (p+1)=92) then gA s f (name++s.extract (p+1) (p+2)) (p+2) else none)
    else if bC s p=0\/aC s p=10 then none else gA s f (name++s.extract p (p+bC s p)) (p+bC s p)
  else none
def nD(s:ByteArray)(p:Nat):Option (ByteArray×Nat):=gA s s.size ⟨#[]⟩ (p+1)
def tJ(s:ByteArray):Nat->Nat->Nat
 | 0,p=>p
 | f+1,p=>if p<s.size/\aC s p≠10 then tJ s f (p+1) else p
def gQ(s:ByteArray)(p:Nat):Nat:=tJ s (s.size-p) p
theorem aCg{s:ByteArray}{p:Nat}(h:p<s.size)(hi:aC s p≠10):gQ s p=gQ s (p+1):=by unfold gQ;obtain ⟨f,hf⟩ : ∃f,s.size-p=f+1:=⟨s.size-p-1,by omega⟩;rw [hf,show s.size-(p+1)=f by omega];simp only [tJ];rw [if_pos ⟨h,hi⟩]
theorem aIe{s:ByteArray}{p:Nat}(h:¬(p<s.size/\aC s p≠10)):gQ s p=p:=by
 unfold gQ;cases hf:s.size-p with
 | zero=>rfl
 | succ f=>simp only [tJ];rw [if_neg h]
theorem aIf(s:ByteArray):∀f p,p<=tJ s f p/\(p<=s.size->tJ s f p<=s.size):=by
 intro f;induction f with
 | zero=>intro p;exact ⟨zs _,λh=>h⟩
 | succ f ih=>
  intro p;simp only [tJ];split
  ·rename_i h;have:=ih (p+1);exact ⟨by omega,λ_=>this.2 (by omega)⟩
  ·exact ⟨zs _,λh=>h⟩
structure Tk where
 kind:Nat
 txt:ByteArray
 pos:Nat
inductive Nx where
 | tok (t:Tk) (next:Nat)
 | bad (p:Nat)
 | stop (p:Nat)
def pD(c:Nat):Bool:=decide (c=124) || decide (c=126) || decide (c=40) || decide (c=41) || decide (c=44) || decide (c=46)
def eP(s:ByteArray)(p:Nat):Nx:=
 if fJ (aC s p) || eO (aC s p) then
  (if eN s p-p > 20 then .bad p else .tok ⟨if eO (aC s p) then 118 else 110,s.extract p (eN s p),p⟩ (eN s p))
 else if aC s p=39 then (match nD s p with | some (n,e)=>.tok ⟨110,n,p⟩ e | none=>.bad p)
 else if aC s p=36 then (if p+6<=s.size/\s.extract p (p+6)=⟨#[36,102,97,108,115,101]⟩ then .tok ⟨102,⟨#[]⟩,p⟩ (p+6) else .bad p)
 else if pD (aC s p) then .tok ⟨aC s p,⟨#[]⟩,p⟩ (p+1)
 else .bad p
def nE(c:Nat):Bool:=decide (c=32) || decide (c=9) || decide (c=10)
def qM(s:ByteArray):Nat->Nat->Nx
 | 0,p=>.stop p
 | f+1,p=>
  if p<s.size then
   if nE (aC s p) then qM s f (p+1)
   else if aC s p=37 then qM s f (gQ s p)
   else eP s p
  else .stop p
def cQ(s:ByteArray):Nat->Nat->List Tk×Option Nat
 | 0,p=>([],some p)
 | f+1,p=>
  if p<s.size then
   if nE (aC s p) then cQ s f (p+1)
   else if aC s p=37 then cQ s f (gQ s p)
   else match eP s p with
    | .tok t e=>(t :: (cQ s f e).1,(cQ s f e).2)
    | _=>([],some p)
  else ([⟨101,⟨#[]⟩,p⟩],none)
theorem zM{s:ByteArray}{p:Nat}(h:p<s.size)(h37:aC s p=37):p<gQ s p:=by rw [aCg h (by omega)];have:=(aIf s (s.size-(p+1)) (p+1)).1;unfold gQ;omega
theorem aCh{s:ByteArray}{p:Nat}(h:p<=s.size):gQ s p<=s.size:=(aIf s _ p).2 h
theorem aTf(s:ByteArray):∀f nm p n e,gA s f nm p=some (n,e)->p<e/\e<=s.size/\fW n=true:=by
 intro f;induction f with
 | zero=>intro nm p n e h;simp [gA] at h
 | succ f ih=>
  intro nm p n e h;simp only [gA] at h;split at h
  ·rename_i hp;split at h
   ·split at h
    ·rename_i hn;simp at h;obtain ⟨rfl,rfl⟩:=h;exact ⟨by omega,by omega,hn⟩
    ·simp at h
   ·split at h
    ·split at h
     ·obtain ⟨i1,i2,i3⟩:=ih _ _ _ _ h;exact ⟨by omega,i2,i3⟩
     ·simp at h
    ·split at h
     ·simp at h
     ·obtain ⟨i1,i2,i3⟩:=ih _ _ _ _ h;exact ⟨by omega,i2,i3⟩
  ·simp at h
theorem aTg{s:ByteArray}{p:Nat}{n:ByteArray}{e:Nat}(h:nD s p=some (n,e)):p+1<e/\e<=s.size/\fW n=true:=aTf s _ _ _ _ _ h
theorem aTh{s:ByteArray}{p:Nat}(h:p<s.size)(hl:(fJ (aC s p) || eO (aC s p))=true):p<eN s p:=by rw [aCe h (by unfold gY;simp at hl ⊢;rcases hl with h | h <;> simp [h])];have:=aTd s (p+1);omega
def aIg:Option Nat->Int
 | none=>-1
 | some p=>p
theorem aTi{s:ByteArray}{k:Nat}(hl:(fJ (aC s k) || eO (aC s k))=true):eP s k=if eN s k-k > 20 then .bad k else .tok ⟨if eO (aC s k) then 118 else 110,s.extract k (eN s k),k⟩ (eN s k):=by unfold eP;rw [if_pos hl]
theorem aTj{s:ByteArray}{k:Nat}(hl:(fJ (aC s k) || eO (aC s k))=false)(h39:aC s k=39):eP s k=match nD s k with | some (n,e)=>.tok ⟨110,n,k⟩ e | none=>.bad k:=by unfold eP;refine (if_neg (by rw [hl];decide)).trans ((if_pos h39).trans ?_);cases nD s k <;> rfl
theorem aTk{s:ByteArray}{k:Nat}(hl:(fJ (aC s k) || eO (aC s k))=false)(h39:aC s k≠39)(h36:aC s k=36) :
  eP s k=if k+6<=s.size/\s.extract k (k+6)=⟨#[36,102,97,108,115,101]⟩ then .tok ⟨102,⟨#[]⟩,k⟩ (k+6) else .bad k:=by
 unfold eP;rw [if_neg (by rw [hl];decide),if_neg h39,if_pos h36]
theorem aTl{s:ByteArray}{k:Nat}(hl:(fJ (aC s k) || eO (aC s k))=false)(h39:aC s k≠39)(h36:aC s k≠36) :
  eP s k=if pD (aC s k) then .tok ⟨aC s k,⟨#[]⟩,k⟩ (k+1) else .bad k:=by
 unfold eP;rw [if_neg (by rw [hl];decide),if_neg h39,if_neg h36]
abbrev Pl:=ByteArray×Bool×Int×Int
def wS(x y:Pl):Prop:=x.1=y.1/\(x.2.1≠y.2.1\/x.2.2.1≠y.2.2.1)
def nH(l:List Pl)(i:Nat)(h:i<l.length):Prop:=5<l[i].2.2.1\/∃k,∃hk:k<i,wS (l[k]'(by omega)) l[i]
def wT(l:List Pl)(r:Int):Prop:=(r=-1/\∀i h,¬nH l i h)\/∃i h,nH l i h/\(∀j hj,j<i->¬nH l j hj)/\r=l[i].2.2.2
def uW:Tk:=⟨63,⟨#[]⟩,0⟩
def eQ(r:List Tk×Option Nat):List Tk:=r.1++(match r.2 with | some p=>[⟨63,⟨#[]⟩,p⟩] | none=>[])
def aE(T:List Tk)(i:Nat):Tk:=T.getD i uW
def wU:List ByteArray->ByteArray->Int
 | [],_=>-1
 | y :: r,x=>if y=x then (r.length:Int) else wU r x
def kA(l:List ByteArray)(x:ByteArray):Int:=wU l.reverse x
theorem aTm(x:ByteArray):kA [] x=-1:=rfl
theorem aIh(l:List ByteArray)(y x:ByteArray):kA (l++[y]) x=if y=x then (l.length:Int) else kA l x:=by simp [kA,wU]
theorem aTn(l:List ByteArray)(x:ByteArray) : -1<=kA l x/\kA l x<l.length:=by
 unfold kA;have hr:l.length=l.reverse.length:=by simp
 rw [hr];generalize l.reverse=m;clear hr;induction m with
 | nil=>simp [wU]
 | cons y r ih=>
  simp only [wU];split
  ·simp;omega
  ·simp;omega
structure bB where
 i:Nat
 vars:List ByteArray
 places:List Pl
def oF(l:List ByteArray)(x:ByteArray):List ByteArray:=if kA l x<0 then l++[x] else l
def nI(l:List ByteArray)(x:ByteArray):Int:=if kA l x<0 then l.length else kA l x
def pE(l:List Pl)(k:Nat)(n:Nat):List Pl:=l.modify k λp=>(p.1,p.2.1,(n:Int),p.2.2.2)
def dP(l:List Nd)(k:Nat)(n:Nat):List Nd:=l.modify k λp=>(p.1,(n:Int))
mutual
def cU(T:List Tk):Nat->Bool->bB->List Nd->Except Nat (bB×List Nd)
 | 0,_,_,_=>.error 0
 | f+1,atom,st,l=>
  if (aE T st.i).kind=118/\atom=false then .ok (⟨st.i+1,oF st.vars (aE T st.i).txt,st.places⟩,l++[(⟨#[]⟩,nI st.vars (aE T st.i).txt)])
  else if (aE T st.i).kind≠110 then .error (aE T st.i).pos
  else if (aE T (st.i+1)).kind=40 then
   match eI T f ⟨st.i+1,st.vars,st.places++[((aE T st.i).txt,atom,0,((aE T st.i).pos:Int))]⟩ (l++[((aE T st.i).txt,0)]) 0 with
   | .error p=>.error p
   | .ok (st',l',n)=>.ok (⟨st'.i,st'.vars,pE st'.places st.places.length n⟩,dP l' l.length n)
  else .ok (⟨st.i+1,st.vars,st.places++[((aE T st.i).txt,atom,0,((aE T st.i).pos:Int))]⟩,l++[((aE T st.i).txt,0)])
def eI(T:List Tk):Nat->bB->List Nd->Nat->Except Nat (bB×List Nd×Nat)
 | 0,_,_,_=>.error 0
 | f+1,st,l,n=>
  match cU T f false ⟨st.i+1,st.vars,st.places⟩ l with
  | .error p=>.error p
  | .ok (st',l')=>
   if (aE T st'.i).kind=44 then eI T f st' l' (n+1)
   else if (aE T st'.i).kind=41 then .ok (⟨st'.i+1,st'.vars,st'.places⟩,l',n+1)
   else .error (aE T st'.i).pos
end
def iH(T:List Tk):Nat->bB->List Lt->Except Nat (bB×List Lt)
 | 0,_,_=>.error 0
 | f+1,st,c=>
  match cU T (T.length+1) true ⟨if (aE T st.i).kind=126 then st.i+1 else st.i,st.vars,st.places⟩ [] with
  | .error p=>.error p
  | .ok (st',a)=>
   if (aE T st'.i).kind=124 then iH T f ⟨st'.i+1,st'.vars,st'.places⟩ (c++[(decide ((aE T st.i).kind=126),a)])
   else .ok (st',c++[(decide ((aE T st.i).kind=126),a)])
def nJ(T:List Tk)(st:bB):Except Nat (bB×List Lt):=
 if (aE T st.i).kind=102 then .ok (⟨st.i+1,[],st.places⟩,[]) else iH T (T.length+1) ⟨st.i,[],st.places⟩ []
def nK(T:List Tk)(st:bB):Except Nat (bB×List Lt):=
 match nJ T st with
 | .error p=>.error p
 | .ok (st',c)=>if (aE T st'.i).kind=46 then .ok (⟨st'.i+1,st'.vars,st'.places⟩,c) else .error (aE T st'.i).pos
def kB(T:List Tk):Nat->bB->List (Nat×List Lt)->Except Nat (bB×List (Nat×List Lt))
 | 0,_,_=>.error 0
 | f+1,st,cs=>
  if (aE T st.i).kind=101 then .ok (st,cs)
  else match nK T st with
   | .error p=>.error p
   | .ok (st',c)=>kB T f st' (cs++[((aE T st.i).pos,c)])
def wV(s:ByteArray):Except Nat (bB×List (Nat×List Lt)):=kB (eQ (cQ s (s.size+1) 0)) ((eQ (cQ s (s.size+1) 0)).length+1) ⟨0,[],[]⟩ []
theorem uX(T:List Tk):∀f,(∀atom st l st' l',cU T f atom st l=.ok (st',l')->st.i<st'.i/\l.length<l'.length/\l'.length<=l.length+(st'.i-st.i)/\st.places.length<=st'.places.length/\st'.places.length<=st.places.length+(st'.i-st.i)/\st.vars.length<=st'.vars.length/\st'.vars.length<=st.vars.length+(st'.i-st.i))/\
  (∀st l n st' l' n',eI T f st l n=.ok (st',l',n')->st.i+1<st'.i/\l.length<=l'.length/\l'.length+1<=l.length+(st'.i-st.i)/\st.places.length<=st'.places.length/\st'.places.length+1<=st.places.length+(st'.i-st.i)/\st.vars.length<=st'.vars.length/\st'.vars.length+1<=st.vars.length+(st'.i-st.i)/\n<n'/\n'<=n+(st'.i-st.i)):=by
 intro f;induction f with
 | zero=>exact ⟨λatom st l st' l' h=>by simp [cU] at h,λst l n st' l' n' h=>by simp [eI] at h⟩
 | succ f ih=>
  obtain ⟨ih1,ih2⟩:=ih;constructor
  ·intro atom st l st' l' h;rw [cU] at h;split at h
   ·simp only [Except.ok.injEq,Prod.mk.injEq] at h;obtain ⟨rfl,rfl⟩:=h;simp only [zx,zv,oF];split <;> simp <;> omega
   ·split at h
    ·simp at h
    ·split at h
     ·split at h
      ·simp at h
      ·rename_i st1 l1 n1 hp;have q:=ih2 _ _ _ _ _ _ hp;simp only [Except.ok.injEq,Prod.mk.injEq] at h;obtain ⟨rfl,rfl⟩:=h;simp only [zx,zv,pE,dP,List.length_modify] at q ⊢;omega
     ·simp only [Except.ok.injEq,Prod.mk.injEq] at h;obtain ⟨rfl,rfl⟩:=h;simp only [zx,zv];omega
  ·intro st l n st' l' n' h;rw [eI] at h;split at h
   ·simp at h
   ·rename_i st1 l1 hp;have q:=ih1 _ _ _ _ _ hp;simp only at q;split at h
    ·have q2:=ih2 _ _ _ _ _ _ h;omega
    ·split at h
     ·simp only [Except.ok.injEq,Prod.mk.injEq] at h;obtain ⟨rfl,rfl,rfl⟩:=h;simp only;omega
     ·simp at h
section
variable {w:World}{pa i:Nat}{bad:Int}{vL vP vC vB vV:Value}
end
theorem eV{B:Nat}{a w:World}(h:Below B a w){p:Addr}(hp:B<=p.block)(u:Value):Below B a (w.setCell p u):=
 ⟨h.os,h.tape,h.output,by have:=h.size;simpa [World.setCell] using this,λk hk=>by rw [Below.heap_setCell _ _ _ _ (by omega)];exact h.block k hk⟩
def zN(L:List Tk)(broken:Int)(i:Nat):Int:=if h:i<L.length then (L[i].pos:Int) else broken
theorem qN{w w':World}{b j:Nat}(h:w.grownBy w' (some b))(u:Value):w.grownBy (w'.setCell ⟨b,j,none⟩ u) (some b):=
 ⟨h.os,h.tape,h.output,by have:=h.size;simpa [World.setCell] using this,λk hk hne=>by rw [Below.heap_setCell _ _ _ _ (λe=>hne (by rw [e]))];exact h.block k hk hne⟩
theorem aIi(c:Int)(w:World):Calls zw 74 #[.int .i32 c] w λe w'=>e=.returned (.bool (fJ c))/\w'=w:=by
 unfold fJ;by_cases h:97<=c;all_goals
  go_enter Tryz.func74,Tryz.ntmps74;go_wp2;go_ret;exact ⟨cH (by rw [zu];simp;omega),rfl⟩
theorem aIj(c:Int)(w:World):Calls zw 76 #[.int .i32 c] w λe w'=>e=.returned (.bool (eO c))/\w'=w:=by
 unfold eO;by_cases h:65<=c;all_goals
  go_enter Tryz.func76,Tryz.ntmps76;go_wp2;go_ret;exact ⟨cH (by rw [zu];simp;omega),rfl⟩
theorem aTo(c:Int)(w:World):Calls zw 127 #[.int .i32 c] w λe w'=>e=.returned (.bool (tH c))/\w'=w:=by
 unfold tH;by_cases h:48<=c;all_goals
  go_enter Tryz.func127,Tryz.ntmps127;go_wp2;go_ret;exact ⟨cH (by rw [zu];simp;omega),rfl⟩
theorem aTp(c:Int)(w:World):Calls zw 105 #[.int .i32 c] w λe w'=>e=.returned (.bool (gY c))/\w'=w:=by
 have c1:=aIi c w;have c2:=aIj c w;have c3:=aTo c w;have HI:Hid (gY c=(fJ c || eO c || tH c || c == 95)):=rfl;generalize fJ c=b1 at *;generalize eO c=b2 at *;generalize tH c=b3 at *;go_enter Tryz.func105,Tryz.ntmps105;cases b1 <;> cases b2 <;> cases b3;all_goals
  go_wp2_with (first
   | (go_at_call 74;refine c1.mono ?_;rintro e w' ⟨rfl,rfl⟩)
   | (go_at_call 76;refine c2.mono ?_;rintro e w' ⟨rfl,rfl⟩)
   | (go_at_call 127;refine c3.mono ?_;rintro e w' ⟨rfl,rfl⟩))
  go_ret;exact ⟨cH (by rw [HI.out];simp),rfl⟩
def nL(c:Int):Bool:=decide (c=39) || decide (c=92)
theorem aTq(c:Int)(w:World):Calls zw 106 #[.int .i32 c] w λe w'=>e=.returned (.bool (nL c))/\w'=w:=by
 by_cases h:c=39
 ·have h1:(c == 39)=true:=by simp [h]
  have HE:=aA (show nL c=true by simp [nL,h]);clear h;go_enter Tryz.func106,Tryz.ntmps106;go_wp2;go_ret;exact ⟨cH HE.out.symm,rfl⟩
 ·have h1:(c == 39)=false:=by simp [h]
  have HE:=aA (show nL c=(c == 92) by simp [nL,h];rfl);clear h;go_enter Tryz.func106,Tryz.ntmps106;go_wp2;go_ret;exact ⟨cH HE.out.symm,rfl⟩
end
section
open Go.RowKit Go.WideMaps
theorem zO{D:DataW Unit}(hD:Maps.IsMap D){k:Lit}(h:Maps.has D k=false)(z:DataW Unit):D.atKey k z=z:=by
 obtain ⟨es,rfl⟩:=hD;rw [Maps.has_eq] at h;have:es.find? (λp=>p.1.sameKey k)=none:=by rw [List.find?_eq_none];intro p hp;rw [List.any_eq_false] at h;exact h p hp
 simp [DataW.atKey,this]
end
section
open Go.RowKit Go.WideMaps
def lX(v:Value):Option (DataW Unit×List MemPlace):=
 match v with
 | .int .i64 x=>some (.lit (.int .i64 x),[])
 | _=>none
theorem aIk{v:Value}{x:Int}{ps:List MemPlace}(h:lX v=some (.lit (.int .i64 x),ps)):v=.int .i64 x:=by
 unfold lX at h;split at h
 ·simp at h;rw [h.1]
 ·simp at h
theorem aIl{s t:ByteArray}(h:s.data.toList=t.data.toList):s=t:=by obtain ⟨⟨x⟩⟩:=s;obtain ⟨⟨y⟩⟩:=t;simp at h;rw [h]
structure oG(D:DataW Unit)(sn:List ByteArray):Prop where
 tidy:Maps.Tidy D
 size:Maps.size D=sn.length
 old:∀x,0<=kA sn x->Maps.has D (.string x.data.toList)=true/\∀z,D.atKey (.string x.data.toList) z=.lit (.int .i64 (kA sn x))
 new:∀x,kA sn x<0->Maps.has D (.string x.data.toList)=false
theorem oG.start:oG (.map []) []:=⟨⟨[],rfl,by simp⟩,rfl,λx h=>by rw [aTm] at h;omega,λx _=>rfl⟩
theorem oG.put{D:DataW Unit}{sn:List ByteArray}{x:ByteArray}(h:oG D sn)(hx:kA sn x<0):oG (D.put (.string x.data.toList) (.lit (.int .i64 sn.length))) (sn++[x]):=by
 have hkey:WideAt.IsKeyLit (.string x.data.toList):=trivial;refine ⟨h.tidy.put hkey _,?_,λy hy=>?_,λy hy=>?_⟩
 ·rw [Maps.size_put h.tidy,h.new x hx,h.size];simp
 ·rw [aIh] at hy ⊢;by_cases he:x=y
  ·subst he;rw [if_pos rfl];exact ⟨Maps.has_put_same h.tidy.isMap hkey _,λz=>Maps.atKey_put_same h.tidy.isMap hkey _ _⟩
  ·rw [if_neg he] at hy ⊢;have hne:(Lit.string y.data.toList)≠.string x.data.toList:=λe=>he (aIl (by simpa using e.symm))
   have ho:=h.old y hy;exact ⟨by rw [Maps.has_put_other hne];exact ho.1,λz=>by rw [Maps.atKey_put_other hne];exact ho.2 z⟩
 ·rw [aIh] at hy;by_cases he:x=y
  ·rw [if_pos he] at hy;omega
  ·rw [if_neg he] at hy;have hne:(Lit.string y.data.toList)≠.string x.data.toList:=λe=>he (aIl (by simpa using e.symm))
   rw [Maps.has_put_other hne];exact h.new y hy
theorem aTr(g:Nat)(D:DataW Unit)(sn:List ByteArray)(x:ByteArray)(w:World)(hown:w.ownsMap zw 9 lX g sn.length D)(hN:oG D sn)(hf:sn.length<=1000000)(hx:x.size<=1000000) :
  Calls zw 144 #[.map (some g),.string x] w λe w'=>∃D':DataW Unit,e=.returned (.int .i64 (nI sn x))/\w'.ownsMap zw 9 lX g (oF sn x).length D'/\oG D' (oF sn x)/\w.grownBy w' (some g):=by
 have hkey:keyOf zw 9 (.string x)=some (.string x.data.toList):=keyOf_string_mk zq (by unfold maxLen;omega);obtain ⟨v,ps,hrun,hv⟩:=hown.look_ok (Maps.string_keyed zq) zr (Tryz.zeroValue3 _) (zd:=.lit (.int .i64 0)) (zp:=[]) rfl hkey;by_cases hp:kA sn x<0
 ·have HST:Hid (oF sn x=sn++[x]/\nI sn x=(sn.length:Int)):=aA (by unfold oF nI;rw [if_pos hp,if_pos hp];exact ⟨rfl,rfl⟩);have hhas:=hN.new x hp;rw [hhas] at hrun;rw [zO hN.tidy.isMap hhas] at hv;have hvv:=aIk hv;subst hvv;have HN:=aA (hN.put hp);have HKEY:=aA hkey;have hlen:=hN.size;clear hv hhas hN hkey hp;go_enter Tryz.func144,Tryz.ntmps144;go_wp2_with (first
   | (at_len;refine wpList_len_own _ rfl _ 80 rfl 9 3 zr _ g sn.length D rfl hown ?_)
   | (at_mapUpdate;refine wpList_mapUpdate_own _ rfl _ _ _ 80 rfl 9 3 (Maps.string_keyed zq) zr lX g sn.length D rfl hown (by unfold maxLen;omega) _ _ (.string x.data.toList) rfl rfl (aB HKEY) (.lit (.int .i64 sn.length)) [] ?_ ?_)
   | go_in)
  case refine_1=>rfl
  intro w1 hown1 hg1;have HO:=aA hown1;have HG:=aA hg1;clear hown1 hg1;go_wp2;go_ret;rw [HST.out.1,HST.out.2];exact ⟨_,rfl,by rw [zx];exact HO.out,HN.out,HG.out⟩
 ·have HST:Hid (oF sn x=sn/\nI sn x=kA sn x):=aA (by unfold oF nI;rw [if_neg hp,if_neg hp];exact ⟨rfl,rfl⟩);have ho:=hN.old x (by omega);rw [ho.1] at hrun;rw [ho.2] at hv;have hvv:=aIk hv;subst hvv;have HN:=aA hN;have HOW:=aA hown;clear hv ho hN hkey hp hown;go_enter Tryz.func144,Tryz.ntmps144;go_wp2;go_ret;rw [HST.out.1,HST.out.2];exact ⟨D,rfl,HOW.out,HN.out,⟨rfl,rfl,rfl,zs _,λ_ _ _=>rfl⟩⟩
end
section
inductive aN{α β:Type}(R:α->β->Prop):List α->List β->Prop
 | nil:aN R [] []
 | cons {a b l m}:R a b->aN R l m->aN R (a :: l) (b :: m)
namespace aN
variable {α β:Type}{R S:α->β->Prop}
theorem length{l:List α}{m:List β}(h:aN R l m):l.length=m.length:=by
 induction h with
 | nil=>rfl
 | cons _ _ ih=>simp [ih]
theorem append{l l':List α}{m m':List β}(h:aN R l m)(k:aN R l' m'):aN R (l++l') (m++m'):=by
 induction h with
 | nil=>exact k
 | cons h1 _ ih=>exact aN.cons h1 ih
theorem snoc{l:List α}{m:List β}{a:α}{b:β}(h:aN R l m)(k:R a b):aN R (l++[a]) (m++[b]):=h.append (aN.cons k aN.nil)
theorem refl{R:α->α->Prop}(f:∀a,R a a):∀l:List α,aN R l l
 | []=>aN.nil
 | a :: l=>aN.cons (f a) (refl f l)
theorem of_get{l:List α}{m:List β}(h:l.length=m.length)(f:∀(k:Nat) (a:α) (b:β),l[k]?=some a->m[k]?=some b->R a b):aN R l m:=by
 induction l generalizing m with
 | nil=>cases m with
  | nil=>exact aN.nil
  | cons=>simp at h
 | cons a l ih=>cases m with
  | nil=>simp at h
  | cons b m=>exact aN.cons (f 0 a b rfl rfl) (ih (by simpa using h) λk a b h1 h2=>f (k+1) a b (by simpa using h1) (by simpa using h2))
theorem rev{l:List α}{m:List β}(h:aN R l m):aN R l.reverse m.reverse:=by
 induction h with
 | nil=>exact aN.nil
 | cons h1 _ ih=>rw [zk,zk];exact ih.snoc h1
end aN
def lY(V:Int->Int->Prop):Prop:=∀x y x' y',V x y->V x' y'->(x=x'↔y=y')
def lZ(V:Int->Int->Prop)(n m:Nd):Prop:=(aF n=true/\aF m=true/\n.1=m.1/\V n.2 m.2)\/(aF n=false/\n=m)
theorem aTs{V:Int->Int->Prop}(hV:lY V){s t:List Int}(h:aN V s t){x y:Int}(hx:V x y):uE s x=uE t y:=by
 induction h with
 | nil=>rfl
 | cons h1 h2 ih=>
  simp only [uE];have e:=hV _ _ _ _ h1 hx;have hl:=h2.length;rw [ih,hl];by_cases hc : ‹Int› = x <;> simp_all
theorem aTt{V:Int->Int->Prop}(hV:lY V){s t:List Int}(h:aN V s t){x y:Int}(hx:V x y):eF s x=eF t y:=aTs hV h.rev hx
theorem aTu{V:Int->Int->Prop}(hV:lY V){st st':List Nd×List Int}(h1:st.1=st'.1)(h2:aN V st.2 st'.2){n m:Nd}(h:lZ V n m):(cZ st n).1=(cZ st' m).1/\aN V (cZ st n).2 (cZ st' m).2:=by
 rcases h with ⟨a,b,c,d⟩ | ⟨a,rfl⟩
 ·have hp:=aTt hV h2 d;have hl:=h2.length;unfold cZ;rw [a,b,hp];by_cases hc:eF st'.2 m.2<0
  ·simp [hc,h1,c,hl];exact h2.snoc d
  ·simp [hc,h1,c];exact h2
 ·unfold cZ;rw [a];simp [h1];exact h2
theorem aTv{V:Int->Int->Prop}(hV:lY V){l m:List Nd}(h:aN (lZ V) l m){s t:List Int}(hs:aN V s t):(cE l s).1=(cE m t).1/\aN V (cE l s).2 (cE m t).2:=by
 unfold cE;suffices ∀(st st':List Nd×List Int),st.1=st'.1->aN V st.2 st'.2->(l.foldl cZ st).1=(m.foldl cZ st').1/\aN V (l.foldl cZ st).2 (m.foldl cZ st').2 from this _ _ rfl hs
 induction h with
 | nil=>intro st st' h1 h2;exact ⟨h1,h2⟩
 | cons hc _ ih=>
  intro st st' h1 h2;obtain ⟨g1,g2⟩:=aTu hV h1 h2 hc;exact ih _ _ g1 g2
structure Gr where
 lab:Nat->Nd
 ch:Nat->List Nat
def Gr.named(G:Gr)(i:Nat):Prop:=aF (G.lab i)=false
inductive Cl(G:Gr)(B:Nat->Nat->Prop):Nat->Nat->Prop
 | refl (i):Cl G B i i
 | base {i j}:B i j->Cl G B i j
 | symm {i j}:Cl G B i j->Cl G B j i
 | trans {i j k}:Cl G B i j->Cl G B j k->Cl G B i k
 | down {i j k p q:Nat}:Cl G B i j->G.named i->G.named j->(G.ch i)[k]?=some p->(G.ch j)[k]?=some q->Cl G B p q
structure gR(G:Gr)(R:Nat->Nat->Prop):Prop where
 refl:∀i,R i i
 symm:∀i j,R i j->R j i
 trans:∀i j k,R i j->R j k->R i k
 down:∀i j k p q:Nat,R i j->G.named i->G.named j->(G.ch i)[k]?=some p->(G.ch j)[k]?=some q->R p q
theorem Cl.isDown(G:Gr)(B:Nat->Nat->Prop):gR G (Cl G B):=⟨Cl.refl,λ_ _=>Cl.symm,λ_ _ _=>Cl.trans,λ_ _ _ _ _=>Cl.down⟩
theorem Cl.le{G:Gr}{B R:Nat->Nat->Prop}(hR:gR G R)(hB:∀i j,B i j->R i j){i j:Nat}(h:Cl G B i j):R i j:=by
 induction h with
 | refl i=>exact hR.refl i
 | base h=>exact hB _ _ h
 | symm _ ih=>exact hR.symm _ _ ih
 | trans _ _ h1 h2=>exact hR.trans _ _ _ h1 h2
 | down _ a b c d ih=>exact hR.down _ _ _ _ _ ih a b c d
def eW(G:Gr)(R:Nat->Nat->Prop):Prop:=∀i j,R i j->G.named i->G.named j->G.lab i=G.lab j
inductive bF(G:Gr)(R:Nat->Nat->Prop):Nat->Prop
 | mk (i):(∀j,R i j->G.named j->∀p∈G.ch j,bF G R p)->bF G R i
theorem bF.parts{G:Gr}{R:Nat->Nat->Prop}{i:Nat}(h:bF G R i){j p:Nat}(hj:R i j)(hn:G.named j)(hp:p∈G.ch j):bF G R p:=by cases h with | mk _ h=>exact h j hj hn p hp
theorem bF.same{G:Gr}{R:Nat->Nat->Prop}(hR:gR G R){i j:Nat}(h:bF G R i)(hj:R i j):bF G R j:=⟨_,λ_ hk hn _ hp=>h.parts (hR.trans _ _ _ hj hk) hn hp⟩
inductive aQ(G:Gr)(R:Nat->Nat->Prop)(rep:Nat->Nat):List Nat->List Nd->Prop
 | nil:aQ G R rep [] []
 | var {i r l}:(∀j,R i j->¬G.named j)->aQ G R rep r l->aQ G R rep (i :: r) ((⟨#[]⟩,(rep i:Int)) :: l)
 | name {i j r l}:R i j->G.named j->aQ G R rep (G.ch j++r) l->aQ G R rep (i :: r) (G.lab j :: l)
section
variable {G:Gr}{R:Nat->Nat->Prop}{rep:Nat->Nat}
theorem aQ.append{r s:List Nat}{l m:List Nd}(h:aQ G R rep r l)(k:aQ G R rep s m):aQ G R rep (r++s) (l++m):=by
 induction h with
 | nil=>exact k
 | var h1 _ ih=>exact aQ.var h1 ih
 | name h1 h2 _ ih=>exact aQ.name h1 h2 (by rw [zj] at ih;exact ih)
theorem aQ.split{x:List Nat}{l:List Nd}(h:aQ G R rep x l):∀r s,x=r++s->∃l1 l2,l=l1++l2/\aQ G R rep r l1/\aQ G R rep s l2:=by
 induction h with
 | nil=>
  intro r s e;obtain ⟨rfl,rfl⟩:=List.append_eq_nil_iff.1 e.symm;exact ⟨[],[],rfl,aQ.nil,aQ.nil⟩
 | @var i r0 l h1 h2 ih=>
  intro r s e;cases r with
  | nil=>
   simp at e;subst e;exact ⟨[],_,rfl,aQ.nil,aQ.var h1 h2⟩
  | cons y r=>
   simp at e;obtain ⟨rfl,e⟩:=e;obtain ⟨l1,l2,rfl,a,b⟩:=ih r s e;exact ⟨_ :: l1,l2,rfl,aQ.var h1 a,b⟩
 | @name i j r0 l h1 h2 h3 ih=>
  intro r s e;cases r with
  | nil=>
   simp at e;subst e;exact ⟨[],_,rfl,aQ.nil,aQ.name h1 h2 h3⟩
  | cons y r=>
   simp at e;obtain ⟨rfl,e⟩:=e;obtain ⟨l1,l2,rfl,a,b⟩:=ih (G.ch j++r) s (by rw [e,zj]);exact ⟨_ :: l1,l2,rfl,aQ.name h1 h2 a,b⟩
theorem aQ.same(hR:gR G R)(hrep:∀i j,R i j->rep i=rep j){x:List Nat}{l:List Nd}(h:aQ G R rep x l):∀y,aN R x y->aQ G R rep y l:=by
 induction h with
 | nil=>intro y hy;cases hy;exact aQ.nil
 | @var i r l h1 _ ih=>
  intro y hy;cases hy with
  | @cons _ b _ m hb hm=>
   rw [hrep _ _ hb];exact aQ.var (λj hj=>h1 j (hR.trans _ _ _ hb hj)) (ih _ hm)
 | @name i j r l h1 h2 _ ih=>
  intro y hy;cases hy with
  | @cons _ b _ m hb hm=>
   exact aQ.name (hR.trans _ _ _ (hR.symm _ _ hb) h1) h2 (ih _ ((aN.refl hR.refl _).append hm))
def Gr.Arity(G:Gr):Prop:=∀i j,G.named i->G.named j->G.lab i=G.lab j->(G.ch i).length=(G.ch j).length
theorem wW(hR:gR G R)(hN:eW G R)(hA:G.Arity){i j:Nat}(h:R i j)(hi:G.named i)(hj:G.named j):aN R (G.ch i) (G.ch j):=
 aN.of_get (hA i j hi hj (hN i j h hi hj)) λk a b h1 h2=>hR.down i j k a b h hi hj h1 h2
theorem aQ.one(hR:gR G R)(hN:eW G R)(hA:G.Arity)(hrep:∀i j,R i j->rep i=rep j){x:List Nat}{l:List Nd}(h:aQ G R rep x l):∀m,aQ G R rep x m->l=m:=by
 induction h with
 | nil=>intro m hm;cases hm;rfl
 | @var i r l h1 _ ih=>
  intro m hm;cases hm with
  | var _ h2=>rw [ih _ h2]
  | name h2 h3 _=>exact absurd h3 (h1 _ h2)
 | @name i j r l h1 h2 _ ih=>
  intro m hm;cases hm with
  | var h3 _=>exact absurd h2 (h3 _ h1)
  | @name _ j' _ m' h3 h4 h5=>
   have hjj:R j' j:=hR.trans _ _ _ (hR.symm _ _ h3) h1;rw [hN j' j hjj h4 h2,ih _ (h5.same hR hrep _ ((wW hR hN hA hjj h4 h2).append (aN.refl hR.refl _)))]
theorem aQ.exists_of_all{x:List Nat}(h:∀i∈x,∃l,aQ G R rep [i] l):∃l,aQ G R rep x l:=by
 induction x with
 | nil=>exact ⟨[],aQ.nil⟩
 | cons i r ih=>
  obtain ⟨l,hl⟩:=h i (by simp);obtain ⟨m,hm⟩:=ih λj hj=>h j (by simp [hj])
  exact ⟨l++m,hl.append hm⟩
theorem bF.exp{i:Nat}(h:bF G R i):∃l,aQ G R rep [i] l:=by
 induction h with
 | mk i _ ih=>
  by_cases hn:∃j,R i j/\G.named j
  ·obtain ⟨j,h1,h2⟩:=hn;obtain ⟨l,hl⟩:=aQ.exists_of_all (G:=G) (R:=R) (rep:=rep) λp hp=>ih j h1 h2 p hp
   exact ⟨_,aQ.name h1 h2 (by rw [List.append_nil];exact hl)⟩
  ·exact ⟨_,aQ.var (λj h1 h2=>hn ⟨j,h1,h2⟩) aQ.nil⟩
theorem aQ.pos{i:Nat}{l:List Nd}(h:aQ G R rep [i] l):1<=l.length:=by
 cases h with
 | var=>simp
 | name=>simp
end
theorem tK(x:Int):aF (⟨#[]⟩,x)=true:=by
 have he:(⟨#[]⟩ : ByteArray).toList=[]:=by rw [ByteArray.toList_eq]
 simp [aF,he]
structure Laid(P D:Gr)(BP BD:Nat->Nat->Prop)(f:Nat->Nat):Prop where
 named:∀p,P.named p↔D.named (f p)
 lab:∀p,P.named p->P.lab p=D.lab (f p)
 ch:∀p,P.named p->D.ch (f p)=(P.ch p).map f
 ker:∀p q,f p=f q->Cl P BP p q
 base:∀p q,BP p q->Cl D BD (f p) (f q)
 back:∀r s,BD r s->∃p q,f p=r/\f q=s/\Cl P BP p q
 onto:∀r,D.named r->∃p,f p=r
section
variable {P D:Gr}{BP BD:Nat->Nat->Prop}{f:Nat->Nat}
theorem Laid.to(h:Laid P D BP BD f){p q:Nat}(c:Cl P BP p q):Cl D BD (f p) (f q):=by refine Cl.le (R:=λp q=>Cl D BD (f p) (f q)) ⟨λ_=>Cl.refl _,λ_ _=>Cl.symm,λ_ _ _=>Cl.trans,?_⟩ (λi j hb=>h.base i j hb) c;intro i j k p q c hi hj hp hq;exact Cl.down (k:=k) c ((h.named i).1 hi) ((h.named j).1 hj) (by rw [h.ch i hi];simp [hp]) (by rw [h.ch j hj];simp [hq])
theorem Laid.from(h:Laid P D BP BD f){p q:Nat}(c:Cl D BD (f p) (f q)):Cl P BP p q:=by
 have key:f p=f q\/∃p' q',f p'=f p/\f q'=f q/\Cl P BP p' q':=by
  refine Cl.le (R:=λr s=>r=s\/∃p' q',f p'=r/\f q'=s/\Cl P BP p' q') ⟨λ_=>zl rfl,?_,?_,?_⟩ ?_ c
  ·rintro i j (rfl | ⟨a,b,rfl,rfl,h1⟩)
   ·exact zl rfl
   ·exact zm ⟨b,a,rfl,rfl,h1.symm⟩
  ·rintro i j k (rfl | ⟨a,b,rfl,rfl,h1⟩) (rfl | ⟨a',b',h2,rfl,h3⟩)
   ·exact zl rfl
   ·exact zm ⟨a',b',h2,rfl,h3⟩
   ·exact zm ⟨a,b,rfl,rfl,h1⟩
   ·exact zm ⟨a,b',rfl,rfl,h1.trans ((h.ker _ _ h2.symm).trans h3)⟩
  ·rintro i j k x y (rfl | ⟨a,b,rfl,rfl,h1⟩) hi hj hx hy
   ·rw [hx] at hy;exact zl (by simpa using hy)
   ·have ha:=(h.named a).2 hi;have hb:=(h.named b).2 hj;rw [h.ch a ha,zi] at hx;rw [h.ch b hb,zi] at hy;simp at hx hy;obtain ⟨x',hx,rfl⟩:=hx;obtain ⟨y',hy,rfl⟩:=hy;exact zm ⟨x',y',rfl,rfl,Cl.down h1 ha hb hx hy⟩
  ·intro i j hb;exact zm (h.back i j hb)
 rcases key with e | ⟨p',q',e1,e2,c⟩
 ·exact h.ker _ _ e
 ·exact (h.ker _ _ e1.symm).trans (c.trans (h.ker _ _ e2))
theorem Laid.clash(h:Laid P D BP BD f):eW P (Cl P BP)↔eW D (Cl D BD):=by
 constructor
 ·intro n r s c hr hs;obtain ⟨p,rfl⟩:=h.onto r hr;obtain ⟨q,rfl⟩:=h.onto s hs;have hp:=(h.named p).2 hr;have hq:=(h.named q).2 hs;rw [<-h.lab p hp,<-h.lab q hq];exact n p q (h.from c) hp hq
 ·intro n p q c hp hq;rw [h.lab p hp,h.lab q hq];exact n _ _ (h.to c) ((h.named p).1 hp) ((h.named q).1 hq)
theorem Laid.ends_to(h:Laid P D BP BD f){p:Nat}(e:bF P (Cl P BP) p):bF D (Cl D BD) (f p):=by
 induction e with
 | mk i _ ih=>
  refine ⟨_,λj hj hn x hx=>?_⟩;obtain ⟨q,rfl⟩:=h.onto j hn;have hq:=(h.named q).2 hn;rw [h.ch q hq] at hx;obtain ⟨y,hy,rfl⟩:=List.mem_map.1 hx;exact ih q (h.from hj) hq y hy
theorem Laid.ends_from(h:Laid P D BP BD f){r:Nat}(e:bF D (Cl D BD) r):∀p,f p=r->bF P (Cl P BP) p:=by
 induction e with
 | mk i _ ih=>
  rintro p rfl;refine ⟨_,λq hq hn x hx=>?_⟩;exact ih (f q) (h.to hq) ((h.named q).1 hn) (f x) (by rw [h.ch q hn];exact List.mem_map_of_mem hx) x rfl
theorem Laid.exp(h:Laid P D BP BD f){rp rd:Nat->Nat}{x:List Nat}{l:List Nd}(e:aQ P (Cl P BP) rp x l) :
  ∃m,aQ D (Cl D BD) rd (x.map f) m/\aN (lZ λa b=>∃p,a=(rp p:Int)/\b=(rd (f p):Int)) l m:=by
 induction e with
 | nil=>exact ⟨[],aQ.nil,aN.nil⟩
 | @var i r l h1 _ ih=>
  obtain ⟨m,a,b⟩:=ih;refine ⟨_,aQ.var (i:=f i) (λj hj hn=>?_) a,aN.cons (zl ⟨tK _,tK _,rfl,i,rfl,rfl⟩) b⟩;obtain ⟨q,rfl⟩:=h.onto j hn;exact h1 q (h.from hj) ((h.named q).2 hn)
 | @name i j r l h1 h2 _ ih=>
  obtain ⟨m,a,b⟩:=ih;refine ⟨_,aQ.name (i:=f i) (j:=f j) (h.to h1) ((h.named j).1 h2) (by rw [h.ch j h2,<-List.map_append];exact a),aN.cons (zm ⟨h2,h.lab j h2⟩) b⟩
theorem Laid.pairs(h:Laid P D BP BD f){rp rd:Nat->Nat}(hp:∀p q,rp p=rp q↔Cl P BP p q)(hd:∀p q,rd p=rd q↔Cl D BD p q):lY λa b=>∃p,a=(rp p:Int)/\b=(rd (f p):Int):=by
 rintro x y x' y' ⟨p,rfl,rfl⟩ ⟨q,rfl,rfl⟩;constructor
 ·intro e;have:rd (f p)=rd (f q):=(hd _ _).2 (h.to ((hp p q).1 (by omega)));omega
 ·intro e;have:rp p=rp q:=(hp _ _).2 (h.from ((hd _ _).1 (by omega)));omega
end
end
end Go.Proofs.YtcldkjcpofjmhaaGreatDoor
