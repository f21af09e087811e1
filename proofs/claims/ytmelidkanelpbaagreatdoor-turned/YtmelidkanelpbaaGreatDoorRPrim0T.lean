import Derived.Laws.BytesArg
import Derived.Test.YtmelidkanelpbaaGreatDoorText0T
import Derived.Laws.Rows
import Derived.OneCell
import Derived.Handy
import Derived.RegionTactic
import Derived.ChangeAlike
open Bool renaming eq_iff_iff→zx
open List renaming length_singleton→zz,length_append→zy
open Nat renaming le_refl→zw
namespace Go.Proofs.YtmelidkanelpbaaGreatDoor
open _root_.Go.Proofs.Tryz renaming prog→zv
set_option maxRecDepth 100000
open Go.RowKit
variable{s:ByteArray}{k p:Nat}
def eK(a:Int):Bool:=decide (97<=a) && decide (a<=122)
def dM(a:Int):Bool:=decide (65<=a) && decide (a<=90)
def sZ(a:Int):Bool:=decide (48<=a) && decide (a<=57)
def fD(c:Int):Bool:=eK c || dM c || sZ c || c==95
def qM(s:ByteArray):Nat->Nat->Nat
 |0,p=>p
 |f+1,p=>if p<s.size/\fD (aE s p)=true then qM s f (p+1) else p
def eB(s:ByteArray)(p:Nat):Nat:=qM s (s.size-p) p
theorem yI(b:p<s.size)(d:fD (aE s p)=true):eB s p=eB s (p+1):=by unfold eB;obtain ⟨a,c⟩ : ∃a,s.size-p=a+1:=⟨s.size-p-1,by omega⟩;rw [c,show s.size-(p+1)=a by omega];simp only [qM];rw [aI ⟨b,d⟩]
theorem aK7(a:¬(p<s.size/\fD (aE s p)=true)):eB s p=p:=by
 unfold eB;cases hf:s.size-p with
 |zero=>rfl
 |succ f=>simp only [qM];rw [aH a]
theorem aE3(s:ByteArray):∀a p,p<=qM s a p/\(p<=s.size->qM s a p<=s.size):=by
 intro a;induction a with
 |zero=>intro p;exact ⟨zw _,λb=>b⟩
 |succ a ih=>
  intro p;simp only [qM];split
  ·rename_i b;have:=ih (p+1);exact ⟨by omega,λ_=>this.2 (by omega)⟩
  ·exact ⟨zw _,λb=>b⟩
theorem aK8(s:ByteArray)(p:Nat):p<=eB s p:=(aE3 s _ p).1
theorem aK9(a:p<=s.size):eB s p<=s.size:=(aE3 s _ p).2 a
def fE(s:ByteArray):Nat->ByteArray->Nat->Option (ByteArray×Nat)
 |0,_,_=>none
 |f+1,name,p=>
  if p<s.size then
   if aE s p=39 then (if eR name then some (name,p+1) else none)
   else
    if aE s p=92 then
     (if p+1<s.size/\(aE s (p+1)=39\/aE s (p+1)=92) then fE s f (name++s.extract (p+1) (p+2)) (p+2) else none)
    else if bO s p=0\/aE s p=10 then none else fE s f (name++s.extract p (p+bO s p)) (p+bO s p)
  else none
def oM(s:ByteArray)(p:Nat):Option (ByteArray×Nat):=fE s s.size ⟨#[]⟩ (p+1)
def uH(s:ByteArray):Nat->Nat->Nat
 |0,p=>p
 |f+1,p=>if p<s.size/\aE s p≠10 then uH s f (p+1) else p
def gY(s:ByteArray)(p:Nat):Nat:=uH s (s.size-p) p
theorem aE4(b:p<s.size)(d:aE s p≠10):gY s p=gY s (p+1):=by unfold gY;obtain ⟨a,c⟩ : ∃a,s.size-p=a+1:=⟨s.size-p-1,by omega⟩;rw [c,show s.size-(p+1)=a by omega];simp only [uH];rw [aI ⟨b,d⟩]
theorem aKa(a:¬(p<s.size/\aE s p≠10)):gY s p=p:=by
 unfold gY;cases hf:s.size-p with
 |zero=>rfl
 |succ f=>simp only [uH];rw [aH a]
theorem aKb(s:ByteArray):∀a p,p<=uH s a p/\(p<=s.size->uH s a p<=s.size):=by
 intro a;induction a with
 |zero=>intro p;exact ⟨zw _,λb=>b⟩
 |succ a ih=>
  intro p;simp only [uH];split
  ·rename_i b;have:=ih (p+1);exact ⟨by omega,λ_=>this.2 (by omega)⟩
  ·exact ⟨zw _,λb=>b⟩
structure Tk where
 kind:Nat
 txt:ByteArray
 pos:Nat
inductive Nx where
 |tok (t:Tk) (next:Nat)
 |bad (p:Nat)
 |stop (p:Nat)
def mP(a:Nat):Bool:=decide (a=124) || decide (a=126) || decide (a=40) || decide (a=41) || decide (a=44) || decide (a=46)
def dP(s:ByteArray)(p:Nat):Nx:=
 if eK (aE s p) || dM (aE s p) then
  (if eB s p-p > 20 then .bad p else .tok ⟨if dM (aE s p) then 118 else 110,s.extract p (eB s p),p⟩ (eB s p))
 else if aE s p=39 then (match oM s p with|some (n,e)=>.tok ⟨110,n,p⟩ e|none=>.bad p)
 else if aE s p=36 then (if p+6<=s.size/\s.extract p (p+6)=⟨#[36,102,97,108,115,101]⟩ then .tok ⟨102,⟨#[]⟩,p⟩ (p+6) else .bad p)
 else if mP (aE s p) then .tok ⟨aE s p,⟨#[]⟩,p⟩ (p+1)
 else .bad p
def lB(c:Nat):Bool:=decide (c=32) || decide (c=9) || decide (c=10)
def rL(s:ByteArray):Nat->Nat->Nx
 |0,p=>.stop p
 |f+1,p=>
  if p<s.size then
   if lB (aE s p) then rL s f (p+1)
   else if aE s p=37 then rL s f (gY s p)
   else dP s p
  else .stop p
def cD(s:ByteArray):Nat->Nat->List Tk×Option Nat
 |0,p=>([],some p)
 |f+1,p=>
  if p<s.size then
   if lB (aE s p) then cD s f (p+1)
   else if aE s p=37 then cD s f (gY s p)
   else match dP s p with
    | .tok t e=>(t::(cD s f e).1,(cD s f e).2)
    |_=>([],some p)
  else ([⟨101,⟨#[]⟩,p⟩],none)
theorem aAv(a:p<s.size)(b:aE s p=37):p<gY s p:=by rw [aE4 a (by omega)];have:=(aKb s (s.size-(p+1)) (p+1)).1;unfold gY;omega
theorem aE5(a:p<=s.size):gY s p<=s.size:=(aKb s _ p).2 a
theorem aWv(s:ByteArray):∀c g p d b,fE s c g p=some (d,b)->p<b/\b<=s.size/\eR d=true:=by
 intro c;induction c with
 |zero=>intro g p d b a;simp [fE] at a
 |succ c ih=>
  intro g p d b a;simp only [fE] at a;split at a
  ·rename_i l;split at a
   ·split at a
    ·rename_i i;simp at a;obtain ⟨rfl,rfl⟩:=a;exact ⟨by omega,by omega,i⟩
    ·simp at a
   ·split at a
    ·split at a
     ·obtain ⟨j,e,f⟩:=ih _ _ _ _ a;exact ⟨by omega,e,f⟩
     ·simp at a
    ·split at a
     ·simp at a
     ·obtain ⟨j,e,f⟩:=ih _ _ _ _ a;exact ⟨by omega,e,f⟩
  ·simp at a
theorem aWw{b:ByteArray}{a:Nat}(c:oM s p=some (b,a)):p+1<a/\a<=s.size/\eR b=true:=aWv s _ _ _ _ _ c
theorem aWx(h:p<s.size)(a:(eK (aE s p) || dM (aE s p))=true):p<eB s p:=by rw [yI h (by unfold fD;simp at a ⊢;rcases a with h|h<;>simp [h])];have:=aK8 s (p+1);omega
def aKc:Option Nat->Int
 |none=>-1
 |some p=>p
theorem aWy(a:(eK (aE s k) || dM (aE s k))=true):dP s k=if eB s k-k > 20 then .bad k else .tok ⟨if dM (aE s k) then 118 else 110,s.extract k (eB s k),k⟩ (eB s k):=by unfold dP;rw [aI a]
theorem aWz(b:(eK (aE s k) || dM (aE s k))=false)(a:aE s k=39):dP s k=match oM s k with|some (n,e)=>.tok ⟨110,n,k⟩ e|none=>.bad k:=by unfold dP;refine (aH (by rw [b];decide)).trans ((aI a).trans ?_);cases oM s k<;>rfl
theorem aX0(c:(eK (aE s k) || dM (aE s k))=false)(b:aE s k≠39)(a:aE s k=36):dP s k=if k+6<=s.size/\s.extract k (k+6)=⟨#[36,102,97,108,115,101]⟩ then .tok ⟨102,⟨#[]⟩,k⟩ (k+6) else .bad k:=by
 unfold dP;rw [aH (by rw [c];decide),aH b,aI a]
theorem aX1(c:(eK (aE s k) || dM (aE s k))=false)(b:aE s k≠39)(a:aE s k≠36):dP s k=if mP (aE s k) then .tok ⟨aE s k,⟨#[]⟩,k⟩ (k+1) else .bad k:=by
 unfold dP;rw [aH (by rw [c];decide),aH b,aH a]
abbrev Pl:=ByteArray×Bool×Int×Int
def aAw(a b:Pl):Prop:=a.1=b.1/\(a.2.1≠b.2.1\/a.2.2.1≠b.2.2.1)
def oN(b:List Pl)(a:Nat)(c:a<b.length):Prop:=5<b[a].2.2.1\/∃k,∃d:k<a,aAw (b[k]'(by omega)) b[a]
def wH(b:List Pl)(e:Int):Prop:=(e=-1/\∀a c,¬oN b a c)\/∃a c,oN b a c/\(∀d f,d<a->¬oN b d f)/\e=b[a].2.2.2
def uI:Tk:=⟨63,⟨#[]⟩,0⟩
def eD(a:List Tk×Option Nat):List Tk:=a.1++(match a.2 with|some p=>[⟨63,⟨#[]⟩,p⟩]|none=>[])
def aJ(a:List Tk)(b:Nat):Tk:=a.getD b uI
def pM:List ByteArray->ByteArray->Int
 |[],_=>-1
 |y::r,x=>if y=x then (r.length:Int) else pM r x
def jO(a:List ByteArray)(b:ByteArray):Int:=pM a.reverse b
theorem aX2(a:ByteArray):jO [] a=-1:=rfl
theorem aKd(a:List ByteArray)(c b:ByteArray):jO (a++[c]) b=if c=b then (a.length:Int) else jO a b:=by simp [jO,pM]
theorem aX3(a:List ByteArray)(c:ByteArray) : -1<=jO a c/\jO a c<a.length:=by
 unfold jO;have b:a.length=a.reverse.length:=by simp
 rw [b];generalize a.reverse=m;clear b;induction m with
 |nil=>simp [pM]
 |cons y r ih=>
  simp only [pM];split
  ·simp;omega
  ·simp;omega
structure bC where
 i:Nat
 vars:List ByteArray
 pz:List Pl
def kN(a:List ByteArray)(b:ByteArray):List ByteArray:=if jO a b<0 then a++[b] else a
def jZ(a:List ByteArray)(b:ByteArray):Int:=if jO a b<0 then a.length else jO a b
def pO(a:List Pl)(k:Nat)(b:Nat):List Pl:=a.modify k λp=>(p.1,p.2.1,(b:Int),p.2.2.2)
def dS(a:List Nd)(k:Nat)(b:Nat):List Nd:=a.modify k λp=>(p.1,(b:Int))
mutual
def cJ(a:List Tk):Nat->Bool->bC->List Nd->Except Nat (bC×List Nd)
 |0,_,_,_=>.error 0
 |f+1,atom,st,l=>
  if (aJ a st.i).kind=118/\atom=false then .ok (⟨st.i+1,kN st.vars (aJ a st.i).txt,st.pz⟩,l++[(⟨#[]⟩,jZ st.vars (aJ a st.i).txt)])
  else if (aJ a st.i).kind≠110 then .error (aJ a st.i).pos
  else if (aJ a (st.i+1)).kind=40 then
   match dT a f ⟨st.i+1,st.vars,st.pz++[((aJ a st.i).txt,atom,0,((aJ a st.i).pos:Int))]⟩ (l++[((aJ a st.i).txt,0)]) 0 with
   | .error p=>.error p
   | .ok (st',l',n)=>.ok (⟨st'.i,st'.vars,pO st'.pz st.pz.length n⟩,dS l' l.length n)
  else .ok (⟨st.i+1,st.vars,st.pz++[((aJ a st.i).txt,atom,0,((aJ a st.i).pos:Int))]⟩,l++[((aJ a st.i).txt,0)])
def dT(a:List Tk):Nat->bC->List Nd->Nat->Except Nat (bC×List Nd×Nat)
 |0,_,_,_=>.error 0
 |f+1,st,l,n=>
  match cJ a f false ⟨st.i+1,st.vars,st.pz⟩ l with
  | .error p=>.error p
  | .ok (st',l')=>
   if (aJ a st'.i).kind=44 then dT a f st' l' (n+1)
   else if (aJ a st'.i).kind=41 then .ok (⟨st'.i+1,st'.vars,st'.pz⟩,l',n+1)
   else .error (aJ a st'.i).pos
end
def fW(b:List Tk):Nat->bC->List Lt->Except Nat (bC×List Lt)
 |0,_,_=>.error 0
 |f+1,st,c=>
  match cJ b (b.length+1) true ⟨if (aJ b st.i).kind=126 then st.i+1 else st.i,st.vars,st.pz⟩ [] with
  | .error p=>.error p
  | .ok (st',a)=>
   if (aJ b st'.i).kind=124 then fW b f ⟨st'.i+1,st'.vars,st'.pz⟩ (c++[(decide ((aJ b st.i).kind=126),a)])
   else .ok (st',c++[(decide ((aJ b st.i).kind=126),a)])
def lC(b:List Tk)(a:bC):Except Nat (bC×List Lt):=
 if (aJ b a.i).kind=102 then .ok (⟨a.i+1,[],a.pz⟩,[]) else fW b (b.length+1) ⟨a.i,[],a.pz⟩ []
def kO(a:List Tk)(b:bC):Except Nat (bC×List Lt):=
 match lC a b with
 | .error p=>.error p
 | .ok (st',c)=>if (aJ a st'.i).kind=46 then .ok (⟨st'.i+1,st'.vars,st'.pz⟩,c) else .error (aJ a st'.i).pos
def gZ(a:List Tk):Nat->bC->List (Nat×List Lt)->Except Nat (bC×List (Nat×List Lt))
 |0,_,_=>.error 0
 |f+1,st,cs=>
  if (aJ a st.i).kind=101 then .ok (st,cs)
  else match kO a st with
   | .error p=>.error p
   | .ok (st',c)=>gZ a f st' (cs++[((aJ a st.i).pos,c)])
def uJ(a:ByteArray):Except Nat (bC×List (Nat×List Lt)):=gZ (eD (cD a (a.size+1) 0)) ((eD (cD a (a.size+1) 0)).length+1) ⟨0,[],[]⟩ []
theorem wI(m:List Tk):∀f,(∀j b d c e,cJ m f j b d=.ok (c,e)->b.i<c.i/\d.length<e.length/\e.length<=d.length+(c.i-b.i)/\b.pz.length<=c.pz.length/\c.pz.length<=b.pz.length+(c.i-b.i)/\b.vars.length<=c.vars.length/\c.vars.length<=b.vars.length+(c.i-b.i))/\
  (∀b d g c e i,dT m f b d g=.ok (c,e,i)->b.i+1<c.i/\d.length<=e.length/\e.length+1<=d.length+(c.i-b.i)/\b.pz.length<=c.pz.length/\c.pz.length+1<=b.pz.length+(c.i-b.i)/\b.vars.length<=c.vars.length/\c.vars.length+1<=b.vars.length+(c.i-b.i)/\g<i/\i<=g+(c.i-b.i)):=by
 intro f;induction f with
 |zero=>exact ⟨λj b d c e a=>by simp [cJ] at a,λb d g c e i a=>by simp [dT] at a⟩
 |succ f ih=>
  obtain ⟨o,n⟩:=ih;constructor
  ·intro j b d c e a;rw [cJ] at a;split at a
   ·simp only [Except.ok.injEq,Prod.mk.injEq] at a;obtain ⟨rfl,rfl⟩:=a;simp only [zy,zz,kN];split<;>simp<;>omega
   ·split at a
    ·simp at a
    ·split at a
     ·split at a
      ·simp at a
      ·rename_i q p r k;have l:=n _ _ _ _ _ _ k;simp only [Except.ok.injEq,Prod.mk.injEq] at a;obtain ⟨rfl,rfl⟩:=a;simp only [zy,zz,pO,dS,List.length_modify] at l ⊢;omega
     ·simp only [Except.ok.injEq,Prod.mk.injEq] at a;obtain ⟨rfl,rfl⟩:=a;simp only [zy,zz];omega
  ·intro b d g c e i a;rw [dT] at a;split at a
   ·simp at a
   ·rename_i q p k;have l:=o _ _ _ _ _ k;simp only at l;split at a
    ·have s:=n _ _ _ _ _ _ a;omega
    ·split at a
     ·simp only [Except.ok.injEq,Prod.mk.injEq] at a;obtain ⟨rfl,rfl,rfl⟩:=a;simp only;omega
     ·simp at a
theorem fF{b:Nat}{c d:World}(a:Below b c d){p:Addr}(i:b<=p.block)(g:Value):Below b c (d.setCell p g):=
 ⟨a.os,a.tape,a.output,by have:=a.size;simpa [World.setCell] using this,λf e=>by rw [Below.heap_setCell _ _ _ _ (by omega)];exact a.block f e⟩
def aAx(a:List Tk)(c:Int)(b:Nat):Int:=if h:b<a.length then (a[b].pos:Int) else c
theorem rM{d e:World}{b j:Nat}(a:d.grownBy e (some b))(k:Value):d.grownBy (e.setCell ⟨b,j,none⟩ k) (some b):=
 ⟨a.os,a.tape,a.output,by have:=a.size;simpa [World.setCell] using this,λi g c=>by rw [Below.heap_setCell _ _ _ _ (λf=>c (by rw [f]))];exact a.block i g c⟩
theorem aKe(a:Int)(b:World):Calls zv 58 #[.int .i32 a] b λc d=>c=.returned (.bool (eK a))/\d=b:=by
 unfold eK;by_cases e:97<=a;all_goals
  go_enter Tryz.func58,Tryz.ntmps58;go_wp2;go_ret;exact ⟨dI (by rw [zx];simp;omega),rfl⟩
theorem aKf(a:Int)(b:World):Calls zv 60 #[.int .i32 a] b λc d=>c=.returned (.bool (dM a))/\d=b:=by
 unfold dM;by_cases e:65<=a;all_goals
  go_enter Tryz.func60,Tryz.ntmps60;go_wp2;go_ret;exact ⟨dI (by rw [zx];simp;omega),rfl⟩
theorem aX4(a:Int)(b:World):Calls zv 107 #[.int .i32 a] b λc d=>c=.returned (.bool (sZ a))/\d=b:=by
 unfold sZ;by_cases e:48<=a;all_goals
  go_enter Tryz.func107,Tryz.ntmps107;go_wp2;go_ret;exact ⟨dI (by rw [zx];simp;omega),rfl⟩
theorem aX5(c:Int)(a:World):Calls zv 88 #[.int .i32 c] a λb w'=>b=.returned (.bool (fD c))/\w'=a:=by
 have e:=aKe c a;have f:=aKf c a;have g:=aX4 c a;have d:aM (fD c=(eK c || dM c || sZ c || c==95)):=rfl;generalize eK c=b1 at *;generalize dM c=b2 at *;generalize sZ c=b3 at *;go_enter Tryz.func88,Tryz.ntmps88;cases b1<;>cases b2<;>cases b3;all_goals
  go_wp2_with (first
   |(go_at_call 58;refine e.mono ?_;rintro b w' ⟨rfl,rfl⟩)
   |(go_at_call 60;refine f.mono ?_;rintro b w' ⟨rfl,rfl⟩)
   |(go_at_call 107;refine g.mono ?_;rintro b w' ⟨rfl,rfl⟩))
  go_ret;exact ⟨dI (by rw [d.o];simp),rfl⟩
def oO(a:Int):Bool:=decide (a=39) || decide (a=92)
theorem aX6(a:Int)(d:World):Calls zv 89 #[.int .i32 a] d λe g=>e=.returned (.bool (oO a))/\g=d:=by
 by_cases b:a=39
 ·have f:(a==39)=true:=by simp [b]
  have c:=aA (show oO a=true by simp [oO,b]);clear b;go_enter Tryz.func89,Tryz.ntmps89;go_wp2;go_ret;exact ⟨dI c.o.symm,rfl⟩
 ·have f:(a==39)=false:=by simp [b]
  have c:=aA (show oO a=(a==92) by simp [oO,b];rfl);clear b;go_enter Tryz.func89,Tryz.ntmps89;go_wp2;go_ret;exact ⟨dI c.o.symm,rfl⟩
