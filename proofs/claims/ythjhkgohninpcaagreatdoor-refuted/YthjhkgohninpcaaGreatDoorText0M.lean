import Derived.Test.YthjhkgohninpcaaGreatDoorBase0M
import Derived.Lib.ValidLaws
import Derived.Lib.RuneCount
import Derived.Lib.IndexAny
import Derived.Laws.BytesArg
open Bool renaming eq_iff_iff→zz,and_eq_true→zr
open List renaming length_drop→zy,getElem_drop→zx,drop_eq_nil_of_le→zt,mem_iff_getElem→zs
open Nat renaming le_refl→zu
namespace Go.Proofs.YthjhkgohninpcaaGreatDoor
open _root_.Go.Proofs.Tryz renaming prog→zw
open Utf8 renaming decode→zv
open Go.RowKit
set_option maxHeartbeats 1000000
set_option maxRecDepth 100000
variable{s:ByteArray}{f k p:Nat}
theorem mP(a:ByteArray):a.size=a.data.toList.length:=rfl
theorem aVu(s:ByteArray)(p:Nat):bF s p<=4:=by
 have a:dK (aE s p)<=4:=by unfold dK;split<;>(try split)<;>(try split)<;>(try split)<;>(try split)<;>omega
 simp only [bF];split
 ·omega
 ·split
  ·omega
  ·split<;>omega
theorem aVv(s:ByteArray):∀f p a,s.size-p<=f->a<=20->iJ s f p a=true->s.size<=p+4*(20-a):=by
 intro f;induction f with
 |zero=>intro p a e c b;omega
 |succ f ih=>
  intro p a e c b;by_cases g:p<s.size
  ·by_cases d:bF s p=0\/aE s p=10
   ·rw [yA s (f+1) p a g e d] at b;simp at b
   ·have j:=aVu s p;simp only [iJ,aJ g,aI d] at b;by_cases i:a=20
    ·exfalso;subst i;have:∀f p a,20<a->iJ s f p a=false:=by
      intro f;induction f with
      |zero=>intro p a c;simp [iJ];omega
      |succ f ih=>
       intro p a c;simp only [iJ];split
       ·split
        ·rfl
        ·exact ih _ _ (by omega)
       ·simp;omega
     rw [this _ _ _ (by omega)] at b;simp at b
    ·have:=ih (p+bF s p) (a+1) (by omega) (by omega) b;omega
  ·omega
theorem aJk(s:ByteArray)(a:gE s=true):0<s.size/\s.size<=80:=by
 refine ⟨?_,?_⟩
 ·rcases Nat.eq_zero_or_pos s.size with h0|h0
  ·unfold gE at a;rw [h0] at a;simp [iJ] at a
  ·exact h0
 ·have:=aVv s s.size 0 0 (by omega) (by omega) a;omega
theorem mD(s:ByteArray)(a:Nat):aE s a=(s.data.toList.getD a 0).toNat:=by
 unfold aE;split
 ·next h=>
  obtain ⟨⟨b⟩⟩:=s;have c:a<b.length:=h;simp [List.getD,c];rfl
 ·next h=>
  obtain ⟨⟨b⟩⟩:=s;have c:¬a<b.length:=h;simp [List.getD,List.getElem?_eq_none (show b.length<=a by omega)]
theorem tT(s:ByteArray)(a:Nat):aE s a<256:=by rw [mD];exact UInt8.toNat_lt _
def sH(a:Nat×Nat):Nat:=if a.1=65533/\a.2=1 then 0 else a.2
theorem uS(i j b c d a g e:Nat)(l:2<=a)(m:a<=4):sH (Lib.slowN i j b c d a g e)=if i<a\/b<g\/e<b\/(3<=a/\(c<128\/191<c))\/(4<=a/\(d<128\/191<d)) then 0 else a:=by
 unfold sH Lib.slowN;repeat' split
 all_goals first|rfl|omega|(exfalso;omega)|(simp only at *;omega)
theorem sI(s:ByteArray)(p a:Nat)(i:dK (aE s p)=a)(r:2<=a)(t:a<=4):bF s p=if s.size<p+a\/(aE s (p+1)<128\/191<aE s (p+1))\/(3<=a/\(aE s (p+2)<128\/191<aE s (p+2)))\/(4<=a/\(aE s (p+3)<128\/191<aE s (p+3)))\/qV (aE s p) (aE s (p+1))=true then 0 else a:=by
 by_cases g:s.size<p+a
 ·rw [zZ s p a i (by omega) g,aJ (Or.inl g)]
 ·by_cases c:∀b,0<b->b<a->iH (aE s (p+b))=true
  ·rw [aA0 s p a i (by omega) g c];have n:=c 1 (by omega) (by omega);have j:3<=a->iH (aE s (p+2))=true:=λh=>c 2 (by omega) (by omega)
   have l:4<=a->iH (aE s (p+3))=true:=λh=>c 3 (by omega) (by omega)
   simp only [iH,zr,decide_eq_true_eq] at n j l;by_cases e:qV (aE s p) (aE s (p+1))=true
   ·rw [aJ e,aJ (by simp [e])]
   ·rw [aI e,aI];intro h;rcases h with h|h|h|h|h
    ·omega
    ·omega
    ·have:=j h.1;omega
    ·have:=l h.1;omega
    ·exact e h
  ·obtain ⟨b,d⟩:=Classical.not_forall.1 c;obtain ⟨o,d⟩:=Classical.not_imp.1 d;obtain ⟨q,d⟩:=Classical.not_imp.1 d;have m:iH (aE s (p+b))=false:=by simpa using d
   rw [xY s p a b i (by omega) o q m,aJ];simp only [iH,Bool.and_eq_false_iff,decide_eq_false_iff_not] at m;rcases (show b=1\/b=2\/b=3 by omega) with rfl|rfl|rfl
   ·right;left;omega
   ·right;right;left;omega
   ·right;right;right;left;omega
theorem aB8(s:ByteArray)(p:Nat)(l:p<s.size):bF s p=sH (zv s p):=by
 rw [Lib.decode_N,<-mD,<-mD,<-mD,<-mD,<-mP];have i:=tT s p;have b:=tT s (p+1);have c:=tT s (p+2);have d:=tT s (p+3);have g:1<=s.size-p:=by omega
 have e:=uJ (aE s p) (aE s (p+1));rcases (show aE s p<128\/((128<=aE s p/\aE s p<194)\/245<=aE s p)\/(194<=aE s p/\aE s p<224)\/aE s p=224\/((225<=aE s p/\aE s p<237)\/(238<=aE s p/\aE s p<240))\/aE s p=237\/aE s p=240\/(241<=aE s p/\aE s p<244)\/aE s p=244 by omega) with h|h|h|h|h|h|h|h|h
 ·rw [rQ s p (by unfold dK;rw [aJ h];omega)];unfold dK Lib.decodeN sH;rw [aJ h,aJ h,aI (by simp only;omega)]
 ·have a:dK (aE s p)=0:=by unfold dK;split<;>(try split)<;>(try split)<;>(try split)<;>(try split)<;>omega
  have j:Lib.firstT (aE s p)=241:=by unfold Lib.firstT;(repeat' split)<;>omega
  rw [rQ s p (by omega),a,Lib.bad_eq _ _ _ _ _ i j];rfl
 ·have a:dK (aE s p)=2:=by unfold dK;split<;>(try split)<;>(try split)<;>(try split)<;>(try split)<;>omega
  rw [sI s p 2 a (by omega) (by omega),<-Lib.slow_C2 _ _ _ _ _ g b c d h,uS _ _ _ _ _ 2 _ _ (by omega) (by omega)];simp only [e];split<;>split<;>omega
 ·have a:dK (aE s p)=3:=by unfold dK;split<;>(try split)<;>(try split)<;>(try split)<;>(try split)<;>omega
  rw [sI s p 3 a (by omega) (by omega),<-Lib.slow_E0 _ _ _ _ _ g b c d h,uS _ _ _ _ _ 3 _ _ (by omega) (by omega)];simp only [e];split<;>split<;>omega
 ·have a:dK (aE s p)=3:=by unfold dK;split<;>(try split)<;>(try split)<;>(try split)<;>(try split)<;>omega
  rw [sI s p 3 a (by omega) (by omega),<-Lib.slow_E1 _ _ _ _ _ g b c d h,uS _ _ _ _ _ 3 _ _ (by omega) (by omega)];simp only [e];split<;>split<;>omega
 ·have a:dK (aE s p)=3:=by unfold dK;split<;>(try split)<;>(try split)<;>(try split)<;>(try split)<;>omega
  rw [sI s p 3 a (by omega) (by omega),<-Lib.slow_ED _ _ _ _ _ g b c d h,uS _ _ _ _ _ 3 _ _ (by omega) (by omega)];simp only [e];split<;>split<;>omega
 ·have a:dK (aE s p)=4:=by unfold dK;split<;>(try split)<;>(try split)<;>(try split)<;>(try split)<;>omega
  rw [sI s p 4 a (by omega) (by omega),<-Lib.slow_F0 _ _ _ _ _ g b c d h,uS _ _ _ _ _ 4 _ _ (by omega) (by omega)];simp only [e];split<;>split<;>omega
 ·have a:dK (aE s p)=4:=by unfold dK;split<;>(try split)<;>(try split)<;>(try split)<;>(try split)<;>omega
  rw [sI s p 4 a (by omega) (by omega),<-Lib.slow_F1 _ _ _ _ _ g b c d h,uS _ _ _ _ _ 4 _ _ (by omega) (by omega)];simp only [e];split<;>split<;>omega
 ·have a:dK (aE s p)=4:=by unfold dK;split<;>(try split)<;>(try split)<;>(try split)<;>(try split)<;>omega
  rw [sI s p 4 a (by omega) (by omega),<-Lib.slow_F4 _ _ _ _ _ g b c d h,uS _ _ _ _ _ 4 _ _ (by omega) (by omega)];simp only [e];split<;>split<;>omega
theorem aJl(s:ByteArray)(p a:Nat)(d:bF s p≠0)(c:0<a)(e:a<bF s p):128<=aE s (p+a):=by
 by_cases b:dK (aE s p)<=1
 ·rw [rQ s p b] at e;omega
 ·have g:dK (aE s p)<=4:=by unfold dK;split<;>(try split)<;>(try split)<;>(try split)<;>(try split)<;>omega
  cases hco:iH (aE s (p+a))
  ·have i:bF s p<=dK (aE s p):=by
    simp only [bF,aI b];split
    ·omega
    ·split<;>omega
   exact absurd (xY s p _ a rfl b c (by omega) hco) d
  ·simp only [iH,zr,decide_eq_true_eq] at hco;exact hco.1
theorem aVw(s:ByteArray)(p:Nat)(d:p<s.size)(i:bF s p≠0):(10∈s.data.toList.drop p)↔aE s p=10\/10∈s.data.toList.drop (p+bF s p):=by
 have m:=xZ s p d;rw [zs,zs];constructor
 ·rintro ⟨a,c,b⟩;simp only [zy,<-mP,zx] at c b;have g:aE s (p+a)=10:=by rw [fP s (p+a) (by omega)];show (s.data.toList[p+a]'_).toNat=10;rw [b];rfl
  by_cases l:a<bF s p
  ·by_cases j:a=0
   ·subst j;exact Or.inl g
   ·have:=aJl s p a i (by omega) l;omega
  ·refine Or.inr ⟨a-bF s p,by simp only [zy,<-mP];omega,?_⟩;simp only [zx];have:p+bF s p+(a-bF s p)=p+a:=by omega
   simp only [this];exact b
 ·rintro (h|⟨a,c,b⟩)
  ·refine ⟨0,by simp only [zy,<-mP];omega,?_⟩;simp only [zx,Nat.add_zero];rw [fP s p d] at h;have e:(s.data.toList[p]'(by rw [<-mP];exact d)).toNat=10:=h;exact UInt8.toNat_inj.1 e
  ·simp only [zy,<-mP,zx] at c b;refine ⟨bF s p+a,by simp only [zy,<-mP];omega,?_⟩;simp only [zx];have:p+(bF s p+a)=p+bF s p+a:=by omega
   simp only [this];exact b
theorem aVx(s:ByteArray):∀f p a,s.size-p<=f->
  (iJ s f p a=true↔Lib.validD (s.data.toList.drop p)=true/\¬10∈s.data.toList.drop p/\1<=a+Lib.runeCountFrom s f p/\a+Lib.runeCountFrom s f p<=20):=by
 intro f;induction f with
 |zero=>
  intro p a j;have i:s.data.toList.drop p=[]:=zt (by rw [<-mP];omega);rw [i];simp [iJ,Lib.validD_nil,Lib.runeCountFrom]
 |succ f ih=>
  intro p a j;by_cases b:p<s.size
  ·have t:s.data.toList.drop p≠[]:=by
    intro o;have:=congrArg List.length o;simp only [zy,<-mP,List.length_nil] at this;omega
   have l:=aB8 s p b;rw [Lib.validD_step _ t,Lib.decodeL_drop,List.drop_drop];by_cases c:(zv s p).1=65533/\(zv s p).2=1
   ·have q:bF s p=0:=by rw [l];unfold sH;rw [aJ c]
    rw [aJ c,yA s (f+1) p a b j (Or.inl q)];simp
   ·have w:=Lib.decode_width_pos s p b;have r:bF s p=(zv s p).2:=by rw [l];unfold sH;rw [aI c]
    rw [aI c,aVw s p b (by omega)];have u:Lib.runeCountFrom s (f+1) p=1+Lib.runeCountFrom s f (p+(zv s p).2):=by simp [Lib.runeCountFrom,b]
    rw [u];by_cases g:aE s p=10
    ·rw [yA s (f+1) p a b j (Or.inr g)];simp [g]
    ·have v:iJ s (f+1) p a=iJ s f (p+bF s p) (a+1):=by
      simp only [iJ,aJ b];rw [aI (by omega)]
     rw [v,ih (p+bF s p) (a+1) (by omega),r];simp only [g,false_or];constructor
     ·rintro ⟨d,e,m,n⟩;exact ⟨d,e,by omega,by omega⟩
     ·rintro ⟨d,e,m,n⟩;exact ⟨d,e,by omega,by omega⟩
  ·have i:s.data.toList.drop p=[]:=zt (by rw [<-mP];omega);rw [aA1 s (f+1) p a b,i,Lib.runeCountFrom_end s (f+1) p b];simp [Lib.validD_nil]
theorem aVy(s:ByteArray):gE s=(Lib.validD s.data.toList && !decide (0<=Lib.indexByte s.data.toList 10) && (decide (1<=Lib.runeCount s) && decide (Lib.runeCount s<=20))):=by rw [zz];unfold gE;rw [aVx s s.size 0 0 (by omega),<-Lib.contains_iff_indexByte];have a:Lib.runeCountFrom s s.size 0=Lib.runeCount s:=rfl;rw [a];simp [and_assoc]
def eB(a:Int):Bool:=decide (97<=a) && decide (a<=122)
def dS(a:Int):Bool:=decide (65<=a) && decide (a<=90)
def qG(a:Int):Bool:=decide (48<=a) && decide (a<=57)
def gT(c:Int):Bool:=eB c || dS c || qG c || c==95
theorem aJm(a:Int)(b:World):Calls zw 72 #[.int .u8 a] b λc d=>c=.returned (.bool (eB a))/\d=b:=by
 unfold eB;by_cases e:97<=a
 ·go_enter Tryz.func72,Tryz.ntmps72;go_wp2;go_ret;exact ⟨bM (by rw [zz];simp;omega),rfl⟩
 ·go_enter Tryz.func72,Tryz.ntmps72;go_wp2;go_ret;exact ⟨bM (by rw [zz];simp;omega),rfl⟩
theorem aJn(a:Int)(b:World):Calls zw 73 #[.int .u8 a] b λc d=>c=.returned (.bool (dS a))/\d=b:=by
 unfold dS;by_cases e:65<=a
 ·go_enter Tryz.func73,Tryz.ntmps73;go_wp2;go_ret;exact ⟨bM (by rw [zz];simp;omega),rfl⟩
 ·go_enter Tryz.func73,Tryz.ntmps73;go_wp2;go_ret;exact ⟨bM (by rw [zz];simp;omega),rfl⟩
theorem aVz(a:Int)(b:World):Calls zw 141 #[.int .u8 a] b λc d=>c=.returned (.bool (qG a))/\d=b:=by
 unfold qG;by_cases e:48<=a
 ·go_enter Tryz.func141,Tryz.ntmps141;go_wp2;go_ret;exact ⟨bM (by rw [zz];simp;omega),rfl⟩
 ·go_enter Tryz.func141,Tryz.ntmps141;go_wp2;go_ret;exact ⟨bM (by rw [zz];simp;omega),rfl⟩
theorem aW0(c:Int)(a:World):Calls zw 114 #[.int .u8 c] a λb d=>b=.returned (.bool (gT c))/\d=a:=by
 have g:=aJm c a;have i:=aJn c a;have j:=aVz c a;have e:aG (gT c=(eB c || dS c || qG c || c==95)):=rfl;generalize eB c=b1 at *;generalize dS c=b2 at *;generalize qG c=b3 at *;go_enter Tryz.func114,Tryz.ntmps114;cases b1<;>cases b2<;>cases b3;all_goals
  go_wp2_with (first
   |(go_at_call 72;refine g.mono ?_;rintro b d ⟨rfl,rfl⟩)
   |(go_at_call 73;refine i.mono ?_;rintro b d ⟨rfl,rfl⟩)
   |(go_at_call 141;refine j.mono ?_;rintro b d ⟨rfl,rfl⟩))
  go_ret;exact ⟨bM (by rw [e.o];simp),rfl⟩
def uT(s:ByteArray):Nat->Nat->Nat
 |0,p=>p
 |f+1,p=>if p<s.size/\gT (aE s p)=true then uT s f (p+1) else p
def eV(s:ByteArray)(p:Nat):Nat:=uT s (s.size-p) p
theorem aB9(a:p<s.size)(c:gT (aE s p)=true):eV s p=eV s (p+1):=by unfold eV;obtain ⟨f,b⟩ : ∃f,s.size-p=f+1:=⟨s.size-p-1,by omega⟩;rw [b,show s.size-(p+1)=f by omega];simp only [uT];rw [aJ ⟨a,c⟩]
theorem aE9(a:¬(p<s.size/\gT (aE s p)=true)):eV s p=p:=by
 unfold eV;cases hf:s.size-p with
 |zero=>rfl
 |succ f=>simp only [uT];rw [aI a]
theorem aEa(s:ByteArray):∀f p,p<=uT s f p/\(p<=s.size->uT s f p<=s.size):=by
 intro f;induction f with
 |zero=>intro p;exact ⟨zu _,λa=>a⟩
 |succ f ih=>
  intro p;simp only [uT];split
  ·rename_i a;have:=ih (p+1);exact ⟨by omega,λ_=>this.2 (by omega)⟩
  ·exact ⟨zu _,λa=>a⟩
theorem aW1(s:ByteArray)(p:Nat):p<=eV s p:=(aEa s _ p).1
theorem aJo(a:p<=s.size):eV s p<=s.size:=(aEa s _ p).2 a
def fU(s:ByteArray):Nat->ByteArray->Nat->Option (ByteArray×Nat)
 |0,_,_=>none
 |f+1,name,p=>
  if p<s.size then
   if aE s p=39 then (if gE name then some (name,p+1) else none)
   else
    if aE s p=92 then
     (if p+1<s.size/\(aE s (p+1)=39\/aE s (p+1)=92) then fU s f (name++s.extract (p+1) (p+2)) (p+2) else none)
    else if bF s p=0\/aE s p=10 then none else fU s f (name++s.extract p (p+bF s p)) (p+bF s p)
  else none
def lM(s:ByteArray)(p:Nat):Option (ByteArray×Nat):=fU s s.size ⟨#[]⟩ (p+1)
def uU(s:ByteArray):Nat->Nat->Nat
 |0,p=>p
 |f+1,p=>if p<s.size/\aE s p≠10 then uU s f (p+1) else p
def gK(s:ByteArray)(p:Nat):Nat:=uU s (s.size-p) p
theorem aBa(a:p<s.size)(c:aE s p≠10):gK s p=gK s (p+1):=by unfold gK;obtain ⟨f,b⟩ : ∃f,s.size-p=f+1:=⟨s.size-p-1,by omega⟩;rw [b,show s.size-(p+1)=f by omega];simp only [uU];rw [aJ ⟨a,c⟩]
theorem aBb(a:¬(p<s.size/\aE s p≠10)):gK s p=p:=by
 unfold gK;cases hf:s.size-p with
 |zero=>rfl
 |succ f=>simp only [uU];rw [aI a]
theorem aJp(s:ByteArray):∀f p,p<=uU s f p/\(p<=s.size->uU s f p<=s.size):=by
 intro f;induction f with
 |zero=>intro p;exact ⟨zu _,λa=>a⟩
 |succ f ih=>
  intro p;simp only [uU];split
  ·rename_i a;have:=ih (p+1);exact ⟨by omega,λ_=>this.2 (by omega)⟩
  ·exact ⟨zu _,λa=>a⟩
structure Tk where
 kind:Nat
 txt:ByteArray
 pos:Nat
inductive Nx where
 |tok (t:Tk) (next:Nat)
 |bad (p:Nat)
 |stop (p:Nat)
def nV(a:Nat):Bool:=decide (a=124) || decide (a=126) || decide (a=40) || decide (a=41) || decide (a=44) || decide (a=46)
def eZ(s:ByteArray)(p:Nat):Nx:=
 if eB (aE s p) || dS (aE s p) then
  (if eV s p-p > 20 then .bad p else .tok ⟨if dS (aE s p) then 118 else 110,s.extract p (eV s p),p⟩ (eV s p))
 else if aE s p=39 then (match lM s p with|some (n,e)=>.tok ⟨110,n,p⟩ e|none=>.bad p)
 else if aE s p=36 then (if p+6<=s.size/\s.extract p (p+6)=⟨#[36,102,97,108,115,101]⟩ then .tok ⟨102,⟨#[]⟩,p⟩ (p+6) else .bad p)
 else if nV (aE s p) then .tok ⟨aE s p,⟨#[]⟩,p⟩ (p+1)
 else .bad p
def jO(a:Nat):Bool:=decide (a=32) || decide (a=9) || decide (a=10)
def sJ(s:ByteArray):Nat->Nat->Nx
 |0,p=>.stop p
 |f+1,p=>
  if p<s.size then
   if jO (aE s p) then sJ s f (p+1)
   else if aE s p=37 then sJ s f (gK s p)
   else eZ s p
  else .stop p
def cW(s:ByteArray):Nat->Nat->List Tk×Option Nat
 |0,p=>([],some p)
 |f+1,p=>
  if p<s.size then
   if jO (aE s p) then cW s f (p+1)
   else if aE s p=37 then cW s f (gK s p)
   else match eZ s p with
    | .tok t e=>(t::(cW s f e).1,(cW s f e).2)
    |_=>([],some p)
  else ([⟨101,⟨#[]⟩,p⟩],none)
theorem uV{a b:Value}{c d:Value}(e:a=c)(k:b=d):Ending.returned (.tuple #[a,b])=.returned (.tuple #[c,d]):=by rw [e,k]
theorem aW2(s:ByteArray)(p:Nat)(l:World)(r:s.size<=1000000)(o:p<=s.size):Calls zw 74 #[.string s,.int .i64 p] l λi m=>i=.returned (.int .i64 (eV s p))/\m=l:=by
 go_enter Tryz.func74,Tryz.ntmps74;go_wp2;go_loop [1] (λj=>∃k:Nat,k<=s.size/\j=.int .i64 k/\eV s k=eV s p) (λj=>s.size-(intOf j).toNat);case atStart=>exact ⟨p,o,rfl,rfl⟩
 case round=>
  obtain ⟨k,q,rfl,a⟩:=hrel;by_cases c:k<s.size
  ·have n:(k:Int)<(s.size:Int):=by omega
   have g:=fP s k c;have d:=aA (aW0 ((s[k]'c).toNat:Int) l);cases hi:gT ((s[k]'c).toNat:Int) with
   |true=>
    have b:=aA (a.symm.trans (aB9 c (by rw [g];exact hi)));rw [hi] at d;clear hi a g;go_wp2_with (go_at_call 114;refine (aB d).mono ?_;rintro i m ⟨rfl,rfl⟩);go_round;case rel=>exact ⟨k+1,by omega,by go_num,b.o.symm⟩
    case measure=>simp [intOf];omega
   |false=>
    have b:=aA (a.symm.trans (aE9 (λe=>by rw [g,hi] at e;cases e.2)));rw [hi] at d;clear hi a g;go_wp2_with (go_at_call 114;refine (aB d).mono ?_;rintro i m ⟨rfl,rfl⟩);go_ret;exact ⟨kU (by rw [b.o]),rfl⟩
  ·have n:¬(k:Int)<(s.size:Int):=by omega
   have b:=aA (a.symm.trans (aE9 (λe=>c e.1)));clear a;go_wp2;go_ret;exact ⟨kU (by rw [b.o]),rfl⟩
def aEb(a:Option (ByteArray×Nat)):Value:=match a with|some (n,e)=>.tuple #[.string n,.int .i64 e]|none=>.tuple #[.string ⟨#[]⟩,.int .i64 (-1)]
theorem aW3(s:ByteArray)(p:Nat)(y:World)(U:s.size<=1000000)(T:p<s.size):Calls zw 75 #[.string s,.int .i64 p] y λi l=>i=.returned (aEb (lM s p))/\l=y:=by
 go_enter Tryz.func75,Tryz.ntmps75;go_wp2;go_loop [1,6] (λC N=>∃(k f:Nat) (d:ByteArray),k<=s.size/\C=.int .i64 k/\N=.string d/\d.size<=k/\s.size<k+f/\lM s p=fU s f d k) (λC _=>s.size-(intOf C).toNat);case atStart=>exact ⟨p+1,s.size,⟨#[]⟩,by omega,by go_num,rfl,Nat.zero_le _,by omega,rfl⟩
 case round=>
  obtain ⟨k,f,d,P,rfl,rfl,S,O,t⟩:=hrel;by_cases c:k<s.size
  ·have L:(k:Int)<(s.size:Int):=by omega
   obtain ⟨f,rfl⟩ : ∃E,f=E+1:=⟨f-1,by omega⟩;have w:=fP s k c;simp only [fU] at t;rw [aJ c] at t;have m:=aA t;clear t;by_cases j:aE s k=39
   ·have H:(((s[k]'c).toNat:Int)==39)=true:=by rw [beq_iff_eq];omega
    have z:=aA (aG0 d y (by omega));have a:=aA (m.o.trans (aJ j));clear m w;cases hi:gE d with
    |true=>
     rw [hi] at z a;clear hi j;go_wp2_with (go_at_call 115;refine (aB z).mono ?_;rintro i l ⟨rfl,rfl⟩);go_ret2;exact ⟨by rw [a.o];exact uV rfl (by go_num),rfl⟩
    |false=>
     rw [hi] at z a;clear hi j;go_wp2_with (go_at_call 115;refine (aB z).mono ?_;rintro i l ⟨rfl,rfl⟩);go_ret2;exact ⟨by rw [a.o];exact uV rfl rfl,rfl⟩
   ·have H:(((s[k]'c).toNat:Int)==39)=false:=by rw [beq_eq_false_iff_ne];omega
    have o:=aA (m.o.trans (aI j));clear m;by_cases q:aE s k=92
    ·have I:(((s[k]'c).toNat:Int)==92)=true:=by rw [beq_iff_eq];omega
     have a:=aA (o.o.trans (aJ q));clear o w j q;by_cases e:k+1<s.size
     ·have R:(k:Int)+1<(s.size:Int):=by omega
      have J:¬(s.size:Int)<=(k:Int)+1:=by omega
      have x:=fP s (k+1) e;by_cases r:aE s (k+1)=39\/aE s (k+1)=92
      ·have b:=aA (a.o.trans (aJ ⟨e,r⟩));have D:bF s (k+1)=1:=by
        have u:dK (aE s (k+1))=1:=by unfold dK;rw [aJ (by omega)]
        rw [rQ s (k+1) (by omega),u]
       have g:=aCo s (k+1) y e (by omega);rw [D] at g;have v:(((s[k+1]'e).toNat:Int)==10)=false:=by rw [beq_eq_false_iff_ne];omega
       have hcc:(((s[k+1]'e).toNat:Int) != 39)=true/\(((s[k+1]'e).toNat:Int) != 92)=false\/(((s[k+1]'e).toNat:Int) != 39)=false:=by
        rcases r with h|h
        ·right;rw [x] at h;simp;omega
        ·left;rw [x] at h;simp;omega
       have A:aG ((d++s.extract (k+1) (k+2)).size<=k+2):=aA (by simp;omega);clear a r x D;rcases hcc with ⟨hcc,G⟩|hcc
       ·go_wp2_with (go_at_call 116;refine g.mono ?_;rintro i l ⟨rfl,rfl⟩);go_round;case rel=>exact ⟨k+2,f,d++s.extract (k+1) (k+2),by omega,by go_num,rfl,A.o,by omega,b.o⟩
        case measure=>simp [intOf];omega
       ·go_wp2_with (go_at_call 116;refine g.mono ?_;rintro i l ⟨rfl,rfl⟩);go_round;case rel=>exact ⟨k+2,f,d++s.extract (k+1) (k+2),by omega,by go_num,rfl,A.o,by omega,b.o⟩
        case measure=>simp [intOf];omega
      ·have b:=aA (a.o.trans (aI (λh=>r h.2)));have hcc:(((s[k+1]'e).toNat:Int) != 39)=true/\(((s[k+1]'e).toNat:Int) != 92)=true:=by
        rw [x] at r;simp;omega
       obtain ⟨hcc,G⟩:=hcc;clear a r x;go_wp2;go_ret2;exact ⟨by rw [b.o];exact uV rfl rfl,rfl⟩
     ·have b:=aA (a.o.trans (aI (λh=>e h.1)));have J:(s.size:Int)<=(k:Int)+1:=by omega
      clear a;go_wp2;go_ret2;exact ⟨by rw [b.o];exact uV rfl rfl,rfl⟩
    ·have I:(((s[k]'c).toNat:Int)==92)=false:=by rw [beq_eq_false_iff_ne];omega
     have a:=aA (o.o.trans (aI q));have g:=aCo s k y c (by omega);have B:=aA (xZ s k c);by_cases u:bF s k=0
     ·have b:=aA (a.o.trans (aJ (Or.inl u)));rw [u] at g;clear o a w j q u B;go_wp2_with (go_at_call 116;refine g.mono ?_;rintro i l ⟨rfl,rfl⟩);go_ret2;exact ⟨by rw [b.o];exact uV rfl rfl,rfl⟩
     ·by_cases v:aE s k=10
      ·have b:=aA (a.o.trans (aJ (Or.inr v)));have F:(((s[k]'c).toNat:Int)==10)=true:=by rw [beq_iff_eq];omega
       have M:(((bF s k:Nat):Int)==0)=false:=by rw [beq_eq_false_iff_ne];omega
       clear o a w j q v;go_wp2_with (go_at_call 116;refine g.mono ?_;rintro i l ⟨rfl,rfl⟩);go_ret2;exact ⟨by rw [b.o];exact uV rfl rfl,rfl⟩
      ·have b:=aA (a.o.trans (aI (λh=>h.elim u v)));have F:(((s[k]'c).toNat:Int)==10)=false:=by rw [beq_eq_false_iff_ne];omega
       have M:(((bF s k:Nat):Int)==0)=false:=by rw [beq_eq_false_iff_ne];omega
       have Q:=B.o;have A:aG ((d++s.extract k (k+bF s k)).size<=k+bF s k):=aA (by simp;omega);clear o a w j q v B;generalize bF s k=n at *;go_wp2_with (go_at_call 116;refine g.mono ?_;rintro i l ⟨rfl,rfl⟩);go_round;case rel=>exact ⟨k+n,f,d++s.extract k (k+n),by omega,by go_num,rfl,A.o,by omega,b.o⟩
       case measure=>simp [intOf];omega
  ·have L:¬(k:Int)<(s.size:Int):=by omega
   have m:aG (lM s p=none):=aA (by rw [t];cases f<;>simp [fU,c]);clear t;go_wp2;go_ret2;exact ⟨by rw [m.o];exact uV rfl rfl,rfl⟩
theorem yW(a:p<s.size)(b:aE s p=37):p<gK s p:=by rw [aBa a (by omega)];have:=(aJp s (s.size-(p+1)) (p+1)).1;unfold gK;omega
theorem aBc(a:p<=s.size):gK s p<=s.size:=(aJp s _ p).2 a
theorem aW4(s:ByteArray):∀f g p c b,fU s f g p=some (c,b)->p<b/\b<=s.size/\gE c=true:=by
 intro f;induction f with
 |zero=>intro g p c b a;simp [fU] at a
 |succ f ih=>
  intro g p c b a;simp only [fU] at a;split at a
  ·rename_i l;split at a
   ·split at a
    ·rename_i i;simp at a;obtain ⟨rfl,rfl⟩:=a;exact ⟨by omega,by omega,i⟩
    ·simp at a
   ·split at a
    ·split at a
     ·obtain ⟨j,d,e⟩:=ih _ _ _ _ a;exact ⟨by omega,d,e⟩
     ·simp at a
    ·split at a
     ·simp at a
     ·obtain ⟨j,d,e⟩:=ih _ _ _ _ a;exact ⟨by omega,d,e⟩
  ·simp at a
theorem aJq{b:ByteArray}{a:Nat}(c:lM s p=some (b,a)):p+1<a/\a<=s.size/\gE b=true:=aW4 s _ _ _ _ _ c
theorem aJr(h:p<s.size)(a:(eB (aE s p) || dS (aE s p))=true):p<eV s p:=by rw [aB9 h (by unfold gT;simp at a ⊢;rcases a with h|h<;>simp [h])];have:=aW1 s (p+1);omega
def kJ(b:List Tk):List Value:=b.flatMap λa=>[.int .u8 a.kind,.string a.txt,.int .i64 a.pos]
theorem aW5(b:List Tk)(a:Tk):kJ (b++[a])=kJ b++[.int .u8 a.kind,.string a.txt,.int .i64 a.pos]:=by simp [kJ]
theorem aW6(a:List Tk):∀k (b:k<a.length),(kJ a)[k*3]?=some (.int .u8 a[k].kind)/\(kJ a)[k*3+1]?=some (.string a[k].txt)/\(kJ a)[k*3+2]?=some (.int .i64 a[k].pos):=by
 induction a with
 |nil=>intro k b;simp at b
 |cons x r ih=>
  intro k b;cases k with
  |zero=>simp [kJ]
  |succ k=>
   have:=ih k (by simpa using b);have c:(k+1)*3=k*3+3:=by omega
   have d:(k+1)*3+1=k*3+1+3:=by omega
   have e:(k+1)*3+2=k*3+2+3:=by omega
   rw [d,e,c];simp only [kJ,List.flatMap_cons,List.cons_append,List.nil_append,List.getElem?_cons_succ,List.getElem_cons_succ] at this ⊢;exact this
theorem aW7:(zw.info? 100).map (λa=>(a.zero,a.size,a.bytes))=some (some (.agg #[.int .u8 0,.string ⟨#[]⟩,.int .i64 0]),3,32):=by kernel_rfl
theorem uW(d:World)(s e g:Value)(l:TypeId)(c:Nat)(i:c=d.heap.size):∀j b,[s,e,g][j]?=some b->(d.alloc (.cells #[s,e,g] l)).cell? ((⟨c,0,none⟩ : Addr).add j)=some b:=by
 subst i;intro j b a;match j,a with
 |0,a=>simp at a;subst a;simp [Addr.add]
 |1,a=>simp at a;subst a;simp [Addr.add]
 |2,a=>simp at a;subst a;simp [Addr.add]
 |j+3,a=>simp at a
theorem xD(c:Int)(s:ByteArray)(d:Int):∀b∈[Value.int .u8 c,Value.string s,Value.int .i64 d],b.oneCell'=true:=by intro b a;simp at a;rcases a with rfl|rfl|rfl<;>rfl
theorem xE{a e d:World}{g i:Value}{b:List Tk}(c:Tk)(m:e.ownsRow a.heap.size 100 3 g b.length (kJ b))(l:dQ a.heap.size 100 a e)
  (n:d.ownsRow a.heap.size 100 3 i (b.length+1) (kJ b++[.int .u8 c.kind,.string c.txt,.int .i64 c.pos])) (j:e.grownBy d g.ownBlock):d.ownsRow a.heap.size 100 3 i (b++[c]).length (kJ (b++[c]))/\dQ a.heap.size 100 a d:=by
 refine ⟨?_,l.grownNew j m (zu _)⟩;rw [aW5,List.length_append];exact n
def aBd:Option Nat->Int
 |none=>-1
 |some p=>p
def kK(s:ByteArray)(a:List Tk)(f k:Nat):List Tk×Option Nat:=(a++(cW s f k).1,(cW s f k).2)
theorem aW8{a:List Tk}(b:k<s.size)(c:jO (aE s k)=true):kK s a (f+1) k=kK s a f (k+1):=by simp [kK,cW,b,c]
theorem aW9{a:List Tk}(b:k<s.size)(c:aE s k=37):kK s a (f+1) k=kK s a f (gK s k):=by simp [kK,cW,b,c,jO]
theorem aWa{b:List Tk}{a:Nat}{c:Tk}(d:k<s.size)(g:jO (aE s k)=false)(e:aE s k≠37)(i:eZ s k=.tok c a):kK s b (f+1) k=kK s (b++[c]) f a:=by simp [kK,cW,d,g,e,i]
theorem aWb{a:List Tk}(b:k<s.size)(d:jO (aE s k)=false)(c:aE s k≠37)(e:eZ s k=.bad p):kK s a (f+1) k=(a,some k):=by simp [kK,cW,b,d,c,e]
theorem aWc{a:List Tk}(b:¬k<s.size):kK s a (f+1) k=(a++[⟨101,⟨#[]⟩,k⟩],none):=by simp [kK,cW,b]
theorem aJs(a:(eB (aE s k) || dS (aE s k))=true):eZ s k=if eV s k-k > 20 then .bad k else .tok ⟨if dS (aE s k) then 118 else 110,s.extract k (eV s k),k⟩ (eV s k):=by unfold eZ;rw [aJ a]
theorem aEc(b:(eB (aE s k) || dS (aE s k))=false)(a:aE s k=39):eZ s k=match lM s k with|some (n,e)=>.tok ⟨110,n,k⟩ e|none=>.bad k:=by unfold eZ;refine (aI (by rw [b];decide)).trans ((aJ a).trans ?_);cases lM s k<;>rfl
theorem aJt(c:(eB (aE s k) || dS (aE s k))=false)(b:aE s k≠39)(a:aE s k=36):eZ s k=if k+6<=s.size/\s.extract k (k+6)=⟨#[36,102,97,108,115,101]⟩ then .tok ⟨102,⟨#[]⟩,k⟩ (k+6) else .bad k:=by
 unfold eZ;rw [aI (by rw [c];decide),aI b,aJ a]
theorem aEd(c:(eB (aE s k) || dS (aE s k))=false)(b:aE s k≠39)(a:aE s k≠36):eZ s k=if nV (aE s k) then .tok ⟨aE s k,⟨#[]⟩,k⟩ (k+1) else .bad k:=by
 unfold eZ;rw [aI (by rw [c];decide),aI b,aI a]
