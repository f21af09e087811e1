import Derived.Test.YtbpiopdphigodaaGreatDoorText0P
import Derived.Test.YtbpiopdphigodaaGreatDoorRPrim0P
import Derived.Test.YtbpiopdphigodaaGreatDoorRNamedP
import Derived.Laws.Rows
import Derived.OneCell
import Derived.Handy
import Derived.RegionTactic
import Derived.ChangeAlike
import Derived.Test.YtbpiopdphigodaaGreatDoorONum0P
import Derived.StringKeys
open List renaming length_append→zz,length_singleton→zy
open Nat renaming le_refl→zx
namespace Go.Proofs.YtbpiopdphigodaaGreatDoor
open _root_.Go.Proofs.Tryz renaming underlying52→zw,underlying9→zv,prog→zu
open Go.RowKit Go.WideMaps
set_option maxHeartbeats 1000000
set_option maxRecDepth 100000
variable{s:ByteArray}{k p:Nat}
def pO(s:ByteArray):Nat->Nat->Nat
 |0,p=>p
 |f+1,p=>if p<s.size/\cO (aE s p)=true then pO s f (p+1) else p
def dV(s:ByteArray)(p:Nat):Nat:=pO s (s.size-p) p
theorem wF(b:p<s.size)(d:cO (aE s p)=true):dV s p=dV s (p+1):=by unfold dV;obtain ⟨a,c⟩ : ∃a,s.size-p=a+1:=⟨s.size-p-1,by omega⟩;rw [c,show s.size-(p+1)=a by omega];simp only [pO];rw [aG ⟨b,d⟩]
theorem aIa(a:¬(p<s.size/\cO (aE s p)=true)):dV s p=p:=by
 unfold dV;cases hf:s.size-p with
 |zero=>rfl
 |succ f=>simp only [pO];rw [aF a]
theorem aCk(s:ByteArray):∀a p,p<=pO s a p/\(p<=s.size->pO s a p<=s.size):=by
 intro a;induction a with
 |zero=>intro p;exact ⟨zx _,λb=>b⟩
 |succ a ih=>
  intro p;simp only [pO];split
  ·rename_i b;have:=ih (p+1);exact ⟨by omega,λ_=>this.2 (by omega)⟩
  ·exact ⟨zx _,λb=>b⟩
theorem aIb(s:ByteArray)(p:Nat):p<=dV s p:=(aCk s _ p).1
theorem aIc(a:p<=s.size):dV s p<=s.size:=(aCk s _ p).2 a
def eO(s:ByteArray):Nat->ByteArray->Nat->Option (ByteArray×Nat)
 |0,_,_=>none
 |f+1,name,p=>
  if p<s.size then
   if aE s p=39 then (if dL name then some (name,p+1) else none)
   else
    if aE s p=92 then
     (if p+1<s.size/\(aE s (p+1)=39\/aE s (p+1)=92) then eO s f (name++s.extract (p+1) (p+2)) (p+2) else none)
    else if bB s p=0\/aE s p=10 then none else eO s f (name++s.extract p (p+bB s p)) (p+bB s p)
  else none
def mA(s:ByteArray)(p:Nat):Option (ByteArray×Nat):=eO s s.size ⟨#[]⟩ (p+1)
def tC(s:ByteArray):Nat->Nat->Nat
 |0,p=>p
 |f+1,p=>if p<s.size/\aE s p≠10 then tC s f (p+1) else p
def gN(s:ByteArray)(p:Nat):Nat:=tC s (s.size-p) p
theorem aCl(b:p<s.size)(d:aE s p≠10):gN s p=gN s (p+1):=by unfold gN;obtain ⟨a,c⟩ : ∃a,s.size-p=a+1:=⟨s.size-p-1,by omega⟩;rw [c,show s.size-(p+1)=a by omega];simp only [tC];rw [aG ⟨b,d⟩]
theorem aId(a:¬(p<s.size/\aE s p≠10)):gN s p=p:=by
 unfold gN;cases hf:s.size-p with
 |zero=>rfl
 |succ f=>simp only [tC];rw [aF a]
theorem aIe(s:ByteArray):∀a p,p<=tC s a p/\(p<=s.size->tC s a p<=s.size):=by
 intro a;induction a with
 |zero=>intro p;exact ⟨zx _,λb=>b⟩
 |succ a ih=>
  intro p;simp only [tC];split
  ·rename_i b;have:=ih (p+1);exact ⟨by omega,λ_=>this.2 (by omega)⟩
  ·exact ⟨zx _,λb=>b⟩
structure Tk where
 kind:Nat
 txt:ByteArray
 pos:Nat
inductive Nx where
 |tok (t:Tk) (next:Nat)
 |bad (p:Nat)
 |stop (p:Nat)
def mB(a:Nat):Bool:=decide (a=124) || decide (a=126) || decide (a=40) || decide (a=41) || decide (a=44) || decide (a=46)
def dH(s:ByteArray)(p:Nat):Nx:=
 if dO (aE s p) || dP (aE s p) then
  (if dV s p-p > 20 then .bad p else .tok ⟨if dP (aE s p) then 118 else 110,s.extract p (dV s p),p⟩ (dV s p))
 else if aE s p=39 then (match mA s p with|some (n,e)=>.tok ⟨110,n,p⟩ e|none=>.bad p)
 else if aE s p=36 then (if p+6<=s.size/\s.extract p (p+6)=⟨#[36,102,97,108,115,101]⟩ then .tok ⟨102,⟨#[]⟩,p⟩ (p+6) else .bad p)
 else if mB (aE s p) then .tok ⟨aE s p,⟨#[]⟩,p⟩ (p+1)
 else .bad p
def lG(a:Nat):Bool:=decide (a=32) || decide (a=9) || decide (a=10)
def qJ(s:ByteArray):Nat->Nat->Nx
 |0,p=>.stop p
 |f+1,p=>
  if p<s.size then
   if lG (aE s p) then qJ s f (p+1)
   else if aE s p=37 then qJ s f (gN s p)
   else dH s p
  else .stop p
def bW(s:ByteArray):Nat->Nat->List Tk×Option Nat
 |0,p=>([],some p)
 |f+1,p=>
  if p<s.size then
   if lG (aE s p) then bW s f (p+1)
   else if aE s p=37 then bW s f (gN s p)
   else match dH s p with
    | .tok t e=>(t::(bW s f e).1,(bW s f e).2)
    |_=>([],some p)
  else ([⟨101,⟨#[]⟩,p⟩],none)
theorem yZ(a:p<s.size)(b:aE s p=37):p<gN s p:=by rw [aCl a (by omega)];have:=(aIe s (s.size-(p+1)) (p+1)).1;unfold gN;omega
theorem aCm(a:p<=s.size):gN s p<=s.size:=(aIe s _ p).2 a
theorem aUl(s:ByteArray):∀c g p d b,eO s c g p=some (d,b)->p<b/\b<=s.size/\dL d=true:=by
 intro c;induction c with
 |zero=>intro g p d b a;simp [eO] at a
 |succ c ih=>
  intro g p d b a;simp only [eO] at a;split at a
  ·rename_i l;split at a
   ·split at a
    ·rename_i i;simp at a;obtain ⟨rfl,rfl⟩:=a;exact ⟨by omega,by omega,i⟩
    ·simp at a
   ·split at a
    ·split at a
     ·obtain ⟨j,e,f⟩:=ih _ _ _ _ a;exact ⟨by omega,e,f⟩
     ·simp at a
    ·split at a
     ·simp at a
     ·obtain ⟨j,e,f⟩:=ih _ _ _ _ a;exact ⟨by omega,e,f⟩
  ·simp at a
theorem aUm{b:ByteArray}{a:Nat}(c:mA s p=some (b,a)):p+1<a/\a<=s.size/\dL b=true:=aUl s _ _ _ _ _ c
theorem aUn(h:p<s.size)(a:(dO (aE s p) || dP (aE s p))=true):p<dV s p:=by rw [wF h (by unfold cO;simp at a ⊢;rcases a with h|h<;>simp [h])];have:=aIb s (p+1);omega
def aIf:Option Nat->Int
 |none=>-1
 |some p=>p
theorem aUo(a:(dO (aE s k) || dP (aE s k))=true):dH s k=if dV s k-k > 20 then .bad k else .tok ⟨if dP (aE s k) then 118 else 110,s.extract k (dV s k),k⟩ (dV s k):=by unfold dH;rw [aG a]
theorem aUp(b:(dO (aE s k) || dP (aE s k))=false)(a:aE s k=39):dH s k=match mA s k with|some (n,e)=>.tok ⟨110,n,k⟩ e|none=>.bad k:=by unfold dH;refine (aF (by rw [b];decide)).trans ((aG a).trans ?_);cases mA s k<;>rfl
theorem aUq(c:(dO (aE s k) || dP (aE s k))=false)(b:aE s k≠39)(a:aE s k=36):dH s k=if k+6<=s.size/\s.extract k (k+6)=⟨#[36,102,97,108,115,101]⟩ then .tok ⟨102,⟨#[]⟩,k⟩ (k+6) else .bad k:=by
 unfold dH;rw [aF (by rw [c];decide),aF b,aG a]
theorem aUr(c:(dO (aE s k) || dP (aE s k))=false)(b:aE s k≠39)(a:aE s k≠36):dH s k=if mB (aE s k) then .tok ⟨aE s k,⟨#[]⟩,k⟩ (k+1) else .bad k:=by
 unfold dH;rw [aF (by rw [c];decide),aF b,aF a]
def tD:Tk:=⟨63,⟨#[]⟩,0⟩
def eC(a:List Tk×Option Nat):List Tk:=a.1++(match a.2 with|some p=>[⟨63,⟨#[]⟩,p⟩]|none=>[])
def aH(a:List Tk)(b:Nat):Tk:=a.getD b tD
def oQ:List ByteArray->ByteArray->Int
 |[],_=>-1
 |y::r,x=>if y=x then (r.length:Int) else oQ r x
def jD(a:List ByteArray)(b:ByteArray):Int:=oQ a.reverse b
theorem aUs(a:ByteArray):jD [] a=-1:=rfl
theorem aIg(a:List ByteArray)(c b:ByteArray):jD (a++[c]) b=if c=b then (a.length:Int) else jD a b:=by simp [jD,oQ]
theorem aUt(a:List ByteArray)(c:ByteArray) : -1<=jD a c/\jD a c<a.length:=by
 unfold jD;have b:a.length=a.reverse.length:=by simp
 rw [b];generalize a.reverse=m;clear b;induction m with
 |nil=>simp [oQ]
 |cons y r ih=>
  simp only [oQ];split
  ·simp;omega
  ·simp;omega
structure bA where
 i:Nat
 vars:List ByteArray
 pz:List Pl
def kN(a:List ByteArray)(b:ByteArray):List ByteArray:=if jD a b<0 then a++[b] else a
def jN(a:List ByteArray)(b:ByteArray):Int:=if jD a b<0 then a.length else jD a b
def oR(a:List Pl)(k:Nat)(b:Nat):List Pl:=a.modify k λp=>(p.1,p.2.1,(b:Int),p.2.2.2)
def eB(a:List Nd)(k:Nat)(b:Nat):List Nd:=a.modify k λp=>(p.1,(b:Int))
mutual
def cB(a:List Tk):Nat->Bool->bA->List Nd->Except Nat (bA×List Nd)
 |0,_,_,_=>.error 0
 |f+1,atom,st,l=>
  if (aH a st.i).kind=118/\atom=false then .ok (⟨st.i+1,kN st.vars (aH a st.i).txt,st.pz⟩,l++[(⟨#[]⟩,jN st.vars (aH a st.i).txt)])
  else if (aH a st.i).kind≠110 then .error (aH a st.i).pos
  else if (aH a (st.i+1)).kind=40 then
   match dW a f ⟨st.i+1,st.vars,st.pz++[((aH a st.i).txt,atom,0,((aH a st.i).pos:Int))]⟩ (l++[((aH a st.i).txt,0)]) 0 with
   | .error p=>.error p
   | .ok (st',l',n)=>.ok (⟨st'.i,st'.vars,oR st'.pz st.pz.length n⟩,eB l' l.length n)
  else .ok (⟨st.i+1,st.vars,st.pz++[((aH a st.i).txt,atom,0,((aH a st.i).pos:Int))]⟩,l++[((aH a st.i).txt,0)])
def dW(a:List Tk):Nat->bA->List Nd->Nat->Except Nat (bA×List Nd×Nat)
 |0,_,_,_=>.error 0
 |f+1,st,l,n=>
  match cB a f false ⟨st.i+1,st.vars,st.pz⟩ l with
  | .error p=>.error p
  | .ok (st',l')=>
   if (aH a st'.i).kind=44 then dW a f st' l' (n+1)
   else if (aH a st'.i).kind=41 then .ok (⟨st'.i+1,st'.vars,st'.pz⟩,l',n+1)
   else .error (aH a st'.i).pos
end
def fN(b:List Tk):Nat->bA->List Lt->Except Nat (bA×List Lt)
 |0,_,_=>.error 0
 |f+1,st,c=>
  match cB b (b.length+1) true ⟨if (aH b st.i).kind=126 then st.i+1 else st.i,st.vars,st.pz⟩ [] with
  | .error p=>.error p
  | .ok (st',a)=>
   if (aH b st'.i).kind=124 then fN b f ⟨st'.i+1,st'.vars,st'.pz⟩ (c++[(decide ((aH b st.i).kind=126),a)])
   else .ok (st',c++[(decide ((aH b st.i).kind=126),a)])
def jO(b:List Tk)(a:bA):Except Nat (bA×List Lt):=
 if (aH b a.i).kind=102 then .ok (⟨a.i+1,[],a.pz⟩,[]) else fN b (b.length+1) ⟨a.i,[],a.pz⟩ []
def jE(a:List Tk)(b:bA):Except Nat (bA×List Lt):=
 match jO a b with
 | .error p=>.error p
 | .ok (st',c)=>if (aH a st'.i).kind=46 then .ok (⟨st'.i+1,st'.vars,st'.pz⟩,c) else .error (aH a st'.i).pos
def fU(T:List Tk):Nat->bA->List (Nat×List Lt)->Except Nat (bA×List (Nat×List Lt))
 |0,_,_=>.error 0
 |f+1,st,cs=>
  if (aH T st.i).kind=101 then .ok (st,cs)
  else match jE T st with
   | .error p=>.error p
   | .ok (st',c)=>fU T f st' (cs++[((aH T st.i).pos,c)])
def rU(a:ByteArray):Except Nat (bA×List (Nat×List Lt)):=fU (eC (bW a (a.size+1) 0)) ((eC (bW a (a.size+1) 0)).length+1) ⟨0,[],[]⟩ []
theorem uN(m:List Tk):∀f,(∀j b d c e,cB m f j b d=.ok (c,e)->b.i<c.i/\d.length<e.length/\e.length<=d.length+(c.i-b.i)/\b.pz.length<=c.pz.length/\c.pz.length<=b.pz.length+(c.i-b.i)/\b.vars.length<=c.vars.length/\c.vars.length<=b.vars.length+(c.i-b.i))/\
  (∀b d g c e i,dW m f b d g=.ok (c,e,i)->b.i+1<c.i/\d.length<=e.length/\e.length+1<=d.length+(c.i-b.i)/\b.pz.length<=c.pz.length/\c.pz.length+1<=b.pz.length+(c.i-b.i)/\b.vars.length<=c.vars.length/\c.vars.length+1<=b.vars.length+(c.i-b.i)/\g<i/\i<=g+(c.i-b.i)):=by
 intro f;induction f with
 |zero=>exact ⟨λj b d c e a=>by simp [cB] at a,λb d g c e i a=>by simp [dW] at a⟩
 |succ f ih=>
  obtain ⟨o,n⟩:=ih;constructor
  ·intro j b d c e a;rw [cB] at a;split at a
   ·simp only [Except.ok.injEq,Prod.mk.injEq] at a;obtain ⟨rfl,rfl⟩:=a;simp only [zz,zy,kN];split<;>simp<;>omega
   ·split at a
    ·simp at a
    ·split at a
     ·split at a
      ·simp at a
      ·rename_i q p r k;have l:=n _ _ _ _ _ _ k;simp only [Except.ok.injEq,Prod.mk.injEq] at a;obtain ⟨rfl,rfl⟩:=a;simp only [zz,zy,oR,eB,List.length_modify] at l ⊢;omega
     ·simp only [Except.ok.injEq,Prod.mk.injEq] at a;obtain ⟨rfl,rfl⟩:=a;simp only [zz,zy];omega
  ·intro b d g c e i a;rw [dW] at a;split at a
   ·simp at a
   ·rename_i q p k;have l:=o _ _ _ _ _ k;simp only at l;split at a
    ·have s:=n _ _ _ _ _ _ a;omega
    ·split at a
     ·simp only [Except.ok.injEq,Prod.mk.injEq] at a;obtain ⟨rfl,rfl,rfl⟩:=a;simp only;omega
     ·simp at a
theorem fA{b:Nat}{c d:World}(a:Below b c d){p:Addr}(i:b<=p.block)(g:Value):Below b c (d.setCell p g):=
 ⟨a.os,a.tape,a.output,by have:=a.size;simpa [World.setCell] using this,λf e=>by rw [Below.heap_setCell _ _ _ _ (by omega)];exact a.block f e⟩
def zA(a:List Tk)(c:Int)(b:Nat):Int:=if h:b<a.length then (a[b].pos:Int) else c
theorem qK{d e:World}{b j:Nat}(a:d.grownBy e (some b))(k:Value):d.grownBy (e.setCell ⟨b,j,none⟩ k) (some b):=
 ⟨a.os,a.tape,a.output,by have:=a.size;simpa [World.setCell] using this,λi g c=>by rw [Below.heap_setCell _ _ _ _ (λf=>c (by rw [f]))];exact a.block i g c⟩
def mS(a:Value):Option (DataW Unit×List MemPlace):=
 match a with
 | .int .i64 x=>some (.lit (.int .i64 x),[])
 |_=>none
theorem aIh{b:Value}{c:Int}{d:List MemPlace}(a:mS b=some (.lit (.int .i64 c),d)):b=.int .i64 c:=by
 unfold mS at a;split at a
 ·simp at a;rw [a.1]
 ·simp at a
theorem aIi{a:ByteArray}(b:s.data.toList=a.data.toList):s=a:=by obtain ⟨⟨c⟩⟩:=s;obtain ⟨⟨d⟩⟩:=a;simp at b;rw [b]
structure oS(D:DataW Unit)(sn:List ByteArray):Prop where
 tidy:Maps.Tidy D
 size:Maps.size D=sn.length
 old:∀x,0<=jD sn x->Maps.has D (.string x.data.toList)=true/\∀z,D.atKey (.string x.data.toList) z=.lit (.int .i64 (jD sn x))
 new:∀x,jD sn x<0->Maps.has D (.string x.data.toList)=false
theorem oS.start:oS (.map []) []:=⟨⟨[],rfl,by simp⟩,rfl,λb a=>by rw [aUs] at a;omega,λb _=>rfl⟩
theorem oS.put{i:DataW Unit}{e:List ByteArray}{x:ByteArray}(a:oS i e)(l:jD e x<0):oS (i.put (.string x.data.toList) (.lit (.int .i64 e.length))) (e++[x]):=by
 have g:WideAt.IsKeyLit (.string x.data.toList):=trivial;refine ⟨a.tidy.put g _,?_,λy b=>?_,λy b=>?_⟩
 ·rw [Maps.size_put a.tidy,a.new x l,a.size];simp
 ·rw [aIg] at b ⊢;by_cases c:x=y
  ·subst c;rw [aG rfl];exact ⟨Maps.has_put_same a.tidy.isMap g _,λk=>Maps.atKey_put_same a.tidy.isMap g _ _⟩
  ·rw [aF c] at b ⊢;have d:(Lit.string y.data.toList)≠.string x.data.toList:=λf=>c (aIi (by simpa using f.symm))
   have j:=a.old y b;exact ⟨by rw [Maps.has_put_other d];exact j.1,λk=>by rw [Maps.atKey_put_other d];exact j.2 k⟩
 ·rw [aIg] at b;by_cases c:x=y
  ·rw [aG c] at b;omega
  ·rw [aF c] at b;have d:(Lit.string y.data.toList)≠.string x.data.toList:=λf=>c (aIi (by simpa using f.symm))
   rw [Maps.has_put_other d];exact a.new y b
theorem aUu(e:Nat)(g:DataW Unit)(a:List ByteArray)(b:ByteArray)(w:World)(j:w.ownsMap zu 9 mS e a.length g)(c:oS g a)(A:a.length<=1000000)(C:b.size<=1000000):Calls zu 132 #[.map (some e),.string b] w λz t=>∃p:DataW Unit,z=.returned (.int .i64 (jN a b))/\t.ownsMap zu 9 mS e (kN a b).length p/\oS p (kN a b)/\w.grownBy t (some e):=by
 have k:keyOf zu 9 (.string b)=some (.string b.data.toList):=keyOf_string_mk zv (by unfold maxLen;omega);obtain ⟨E,D,s,f⟩:=j.look_ok (Maps.string_keyed zv) zw (Tryz.zeroValue3 _) (zd:=.lit (.int .i64 0)) (zp:=[]) rfl k;by_cases d:jD a b<0
 ·have i:aI (kN a b=a++[b]/\jN a b=(a.length:Int)):=aA (by unfold kN jN;rw [aG d,aG d];exact ⟨rfl,rfl⟩);have m:=c.new b d;rw [m] at s;rw [yI c.tidy.isMap m] at f;have o:=aIh f;subst o;have l:=aA (c.put d);have v:=aA k;have B:=c.size;clear f m c k d;go_enter Tryz.func132,Tryz.ntmps132;go_wp2_with (first
   |(at_len;refine wpList_len_own _ rfl _ 52 rfl 9 3 zw _ e a.length g rfl j ?_)
   |(at_mapUpdate;refine wpList_mapUpdate_own _ rfl _ _ _ 52 rfl 9 3 (Maps.string_keyed zv) zw mS e a.length g rfl j (by unfold maxLen;omega) _ _ (.string b.data.toList) rfl rfl (aC v) (.lit (.int .i64 a.length)) [] ?_ ?_)
   |go_in)
  case refine_1=>rfl
  intro F r q;have x:=aA r;have u:=aA q;clear r q;go_wp2;go_ret;rw [i.o.1,i.o.2];exact ⟨_,rfl,by rw [zz];exact x.o,l.o,u.o⟩
 ·have i:aI (kN a b=a/\jN a b=jD a b):=aA (by unfold kN jN;rw [aF d,aF d];exact ⟨rfl,rfl⟩);have n:=c.old b (by omega);rw [n.1] at s;rw [n.2] at f;have o:=aIh f;subst o;have l:=aA c;have y:=aA j;clear f n c k d j;go_enter Tryz.func132,Tryz.ntmps132;go_wp2;go_ret;rw [i.o.1,i.o.2];exact ⟨g,rfl,y.o,l.o,⟨rfl,rfl,rfl,zx _,λ_ _ _=>rfl⟩⟩
