import Derived.Laws.BytesArg
import Derived.Test.YtmelidkanelpbaaGreatDoorText0H
import Derived.Laws.Rows
import Derived.OneCell
import Derived.Handy
import Derived.RegionTactic
import Derived.ChangeAlike
import Derived.Deep.RegionLaw
import Derived.Deep.RegionHeld3
open List renaming length_singleton→zz,length_append→zy,getD_eq_getElem?_getD→zx,getElem?_eq_none→zv,mem_cons→zs,set_cons_succ→zr
open Nat renaming le_refl→zu
namespace Go.Proofs.YtmelidkanelpbaaGreatDoor
open _root_.Go.Proofs.Tryz renaming prog→zw
set_option maxRecDepth 100000
open Go.RowKit
variable{s:ByteArray}{k p:Nat}{w:World}
def eP(c:Int):Bool:=decide (97<=c) && decide (c<=122)
def dR(c:Int):Bool:=decide (65<=c) && decide (c<=90)
def tJ(a:Int):Bool:=decide (48<=a) && decide (a<=57)
def eU(c:Int):Bool:=eP c || dR c || tJ c || c==95
def qS(s:ByteArray):Nat->Nat->Nat
 |0,p=>p
 |f+1,p=>if p<s.size/\eU (aF s p)=true then qS s f (p+1) else p
def eC(s:ByteArray)(p:Nat):Nat:=qS s (s.size-p) p
theorem yN(b:p<s.size)(d:eU (aF s p)=true):eC s p=eC s (p+1):=by unfold eC;obtain ⟨a,c⟩ : ∃a,s.size-p=a+1:=⟨s.size-p-1,by omega⟩;rw [c,show s.size-(p+1)=a by omega];simp only [qS];rw [aH ⟨b,d⟩]
theorem aL6(a:¬(p<s.size/\eU (aF s p)=true)):eC s p=p:=by
 unfold eC;cases hf:s.size-p with
 |zero=>rfl
 |succ f=>simp only [qS];rw [aI a]
theorem aEg(s:ByteArray):∀a p,p<=qS s a p/\(p<=s.size->qS s a p<=s.size):=by
 intro a;induction a with
 |zero=>intro p;exact ⟨zu _,λb=>b⟩
 |succ a ih=>
  intro p;simp only [qS];split
  ·rename_i b;have:=ih (p+1);exact ⟨by omega,λ_=>this.2 (by omega)⟩
  ·exact ⟨zu _,λb=>b⟩
theorem aL7(s:ByteArray)(p:Nat):p<=eC s p:=(aEg s _ p).1
theorem aL8(a:p<=s.size):eC s p<=s.size:=(aEg s _ p).2 a
def eQ(s:ByteArray):Nat->ByteArray->Nat->Option (ByteArray×Nat)
 |0,_,_=>none
 |f+1,name,p=>
  if p<s.size then
   if aF s p=39 then (if eM name then some (name,p+1) else none)
   else
    if aF s p=92 then
     (if p+1<s.size/\(aF s (p+1)=39\/aF s (p+1)=92) then eQ s f (name++s.extract (p+1) (p+2)) (p+2) else none)
    else if bP s p=0\/aF s p=10 then none else eQ s f (name++s.extract p (p+bP s p)) (p+bP s p)
  else none
def mU(s:ByteArray)(p:Nat):Option (ByteArray×Nat):=eQ s s.size ⟨#[]⟩ (p+1)
def uV(s:ByteArray):Nat->Nat->Nat
 |0,p=>p
 |f+1,p=>if p<s.size/\aF s p≠10 then uV s f (p+1) else p
def iB(s:ByteArray)(p:Nat):Nat:=uV s (s.size-p) p
theorem aEh(b:p<s.size)(d:aF s p≠10):iB s p=iB s (p+1):=by unfold iB;obtain ⟨a,c⟩ : ∃a,s.size-p=a+1:=⟨s.size-p-1,by omega⟩;rw [c,show s.size-(p+1)=a by omega];simp only [uV];rw [aH ⟨b,d⟩]
theorem aL9(a:¬(p<s.size/\aF s p≠10)):iB s p=p:=by
 unfold iB;cases hf:s.size-p with
 |zero=>rfl
 |succ f=>simp only [uV];rw [aI a]
theorem aLa(s:ByteArray):∀a p,p<=uV s a p/\(p<=s.size->uV s a p<=s.size):=by
 intro a;induction a with
 |zero=>intro p;exact ⟨zu _,λb=>b⟩
 |succ a ih=>
  intro p;simp only [uV];split
  ·rename_i b;have:=ih (p+1);exact ⟨by omega,λ_=>this.2 (by omega)⟩
  ·exact ⟨zu _,λb=>b⟩
structure Tk where
 kind:Nat
 txt:ByteArray
 pos:Nat
inductive Nx where
 |tok (t:Tk) (next:Nat)
 |bad (p:Nat)
 |stop (p:Nat)
def mV(a:Nat):Bool:=decide (a=124) || decide (a=126) || decide (a=40) || decide (a=41) || decide (a=44) || decide (a=46)
def dK(s:ByteArray)(p:Nat):Nx:=
 if eP (aF s p) || dR (aF s p) then
  (if eC s p-p > 20 then .bad p else .tok ⟨if dR (aF s p) then 118 else 110,s.extract p (eC s p),p⟩ (eC s p))
 else if aF s p=39 then (match mU s p with|some (n,e)=>.tok ⟨110,n,p⟩ e|none=>.bad p)
 else if aF s p=36 then (if p+6<=s.size/\s.extract p (p+6)=⟨#[36,102,97,108,115,101]⟩ then .tok ⟨102,⟨#[]⟩,p⟩ (p+6) else .bad p)
 else if mV (aF s p) then .tok ⟨aF s p,⟨#[]⟩,p⟩ (p+1)
 else .bad p
def lF(c:Nat):Bool:=decide (c=32) || decide (c=9) || decide (c=10)
def rW(s:ByteArray):Nat->Nat->Nx
 |0,p=>.stop p
 |f+1,p=>
  if p<s.size then
   if lF (aF s p) then rW s f (p+1)
   else if aF s p=37 then rW s f (iB s p)
   else dK s p
  else .stop p
def cD(s:ByteArray):Nat->Nat->List Tk×Option Nat
 |0,p=>([],some p)
 |f+1,p=>
  if p<s.size then
   if lF (aF s p) then cD s f (p+1)
   else if aF s p=37 then cD s f (iB s p)
   else match dK s p with
    | .tok t e=>(t::(cD s f e).1,(cD s f e).2)
    |_=>([],some p)
  else ([⟨101,⟨#[]⟩,p⟩],none)
theorem aB3(a:p<s.size)(b:aF s p=37):p<iB s p:=by rw [aEh a (by omega)];have:=(aLa s (s.size-(p+1)) (p+1)).1;unfold iB;omega
theorem aEi(a:p<=s.size):iB s p<=s.size:=(aLa s _ p).2 a
theorem aY7(s:ByteArray):∀c g p d b,eQ s c g p=some (d,b)->p<b/\b<=s.size/\eM d=true:=by
 intro c;induction c with
 |zero=>intro g p d b a;simp [eQ] at a
 |succ c ih=>
  intro g p d b a;simp only [eQ] at a;split at a
  ·rename_i l;split at a
   ·split at a
    ·rename_i i;simp at a;obtain ⟨rfl,rfl⟩:=a;exact ⟨by omega,by omega,i⟩
    ·simp at a
   ·split at a
    ·split at a
     ·obtain ⟨j,e,f⟩:=ih _ _ _ _ a;exact ⟨by omega,e,f⟩
     ·simp at a
    ·split at a
     ·simp at a
     ·obtain ⟨j,e,f⟩:=ih _ _ _ _ a;exact ⟨by omega,e,f⟩
  ·simp at a
theorem aY8{b:ByteArray}{a:Nat}(c:mU s p=some (b,a)):p+1<a/\a<=s.size/\eM b=true:=aY7 s _ _ _ _ _ c
theorem aY9(h:p<s.size)(a:(eP (aF s p) || dR (aF s p))=true):p<eC s p:=by rw [yN h (by unfold eU;simp at a ⊢;rcases a with h|h<;>simp [h])];have:=aL7 s (p+1);omega
def aLb:Option Nat->Int
 |none=>-1
 |some p=>p
theorem aYa(a:(eP (aF s k) || dR (aF s k))=true):dK s k=if eC s k-k > 20 then .bad k else .tok ⟨if dR (aF s k) then 118 else 110,s.extract k (eC s k),k⟩ (eC s k):=by unfold dK;rw [aH a]
theorem aYb(b:(eP (aF s k) || dR (aF s k))=false)(a:aF s k=39):dK s k=match mU s k with|some (n,e)=>.tok ⟨110,n,k⟩ e|none=>.bad k:=by unfold dK;refine (aI (by rw [b];decide)).trans ((aH a).trans ?_);cases mU s k<;>rfl
theorem aYc(c:(eP (aF s k) || dR (aF s k))=false)(b:aF s k≠39)(a:aF s k=36):dK s k=if k+6<=s.size/\s.extract k (k+6)=⟨#[36,102,97,108,115,101]⟩ then .tok ⟨102,⟨#[]⟩,k⟩ (k+6) else .bad k:=by
 unfold dK;rw [aI (by rw [c];decide),aI b,aH a]
theorem aYd(c:(eP (aF s k) || dR (aF s k))=false)(b:aF s k≠39)(a:aF s k≠36):dK s k=if mV (aF s k) then .tok ⟨aF s k,⟨#[]⟩,k⟩ (k+1) else .bad k:=by
 unfold dK;rw [aI (by rw [c];decide),aI b,aI a]
abbrev Pl:=ByteArray×Bool×Int×Int
def aB4(a b:Pl):Prop:=a.1=b.1/\(a.2.1≠b.2.1\/a.2.2.1≠b.2.2.1)
def oT(b:List Pl)(a:Nat)(c:a<b.length):Prop:=5<b[a].2.2.1\/∃k,∃d:k<a,aB4 (b[k]'(by omega)) b[a]
def wS(b:List Pl)(e:Int):Prop:=(e=-1/\∀a c,¬oT b a c)\/∃a c,oT b a c/\(∀d f,d<a->¬oT b d f)/\e=b[a].2.2.2
def uW:Tk:=⟨63,⟨#[]⟩,0⟩
def eE(a:List Tk×Option Nat):List Tk:=a.1++(match a.2 with|some p=>[⟨63,⟨#[]⟩,p⟩]|none=>[])
def aJ(a:List Tk)(b:Nat):Tk:=a.getD b uW
def pV:List ByteArray->ByteArray->Int
 |[],_=>-1
 |y::r,x=>if y=x then (r.length:Int) else pV r x
def jP(a:List ByteArray)(b:ByteArray):Int:=pV a.reverse b
theorem aYe(a:ByteArray):jP [] a=-1:=rfl
theorem aLc(a:List ByteArray)(c b:ByteArray):jP (a++[c]) b=if c=b then (a.length:Int) else jP a b:=by simp [jP,pV]
theorem aYf(a:List ByteArray)(c:ByteArray) : -1<=jP a c/\jP a c<a.length:=by
 unfold jP;have b:a.length=a.reverse.length:=by simp
 rw [b];generalize a.reverse=m;clear b;induction m with
 |nil=>simp [pV]
 |cons y r ih=>
  simp only [pV];split
  ·simp;omega
  ·simp;omega
structure bE where
 i:Nat
 vars:List ByteArray
 pz:List Pl
def kO(a:List ByteArray)(b:ByteArray):List ByteArray:=if jP a b<0 then a++[b] else a
def kC(a:List ByteArray)(b:ByteArray):Int:=if jP a b<0 then a.length else jP a b
def pW(a:List Pl)(k:Nat)(b:Nat):List Pl:=a.modify k λp=>(p.1,p.2.1,(b:Int),p.2.2.2)
def dS(a:List Nd)(k:Nat)(b:Nat):List Nd:=a.modify k λp=>(p.1,(b:Int))
mutual
def cJ(a:List Tk):Nat->Bool->bE->List Nd->Except Nat (bE×List Nd)
 |0,_,_,_=>.error 0
 |f+1,atom,st,l=>
  if (aJ a st.i).kind=118/\atom=false then .ok (⟨st.i+1,kO st.vars (aJ a st.i).txt,st.pz⟩,l++[(⟨#[]⟩,kC st.vars (aJ a st.i).txt)])
  else if (aJ a st.i).kind≠110 then .error (aJ a st.i).pos
  else if (aJ a (st.i+1)).kind=40 then
   match dT a f ⟨st.i+1,st.vars,st.pz++[((aJ a st.i).txt,atom,0,((aJ a st.i).pos:Int))]⟩ (l++[((aJ a st.i).txt,0)]) 0 with
   | .error p=>.error p
   | .ok (st',l',n)=>.ok (⟨st'.i,st'.vars,pW st'.pz st.pz.length n⟩,dS l' l.length n)
  else .ok (⟨st.i+1,st.vars,st.pz++[((aJ a st.i).txt,atom,0,((aJ a st.i).pos:Int))]⟩,l++[((aJ a st.i).txt,0)])
def dT(a:List Tk):Nat->bE->List Nd->Nat->Except Nat (bE×List Nd×Nat)
 |0,_,_,_=>.error 0
 |f+1,st,l,n=>
  match cJ a f false ⟨st.i+1,st.vars,st.pz⟩ l with
  | .error p=>.error p
  | .ok (st',l')=>
   if (aJ a st'.i).kind=44 then dT a f st' l' (n+1)
   else if (aJ a st'.i).kind=41 then .ok (⟨st'.i+1,st'.vars,st'.pz⟩,l',n+1)
   else .error (aJ a st'.i).pos
end
def fV(b:List Tk):Nat->bE->List Lt->Except Nat (bE×List Lt)
 |0,_,_=>.error 0
 |f+1,st,c=>
  match cJ b (b.length+1) true ⟨if (aJ b st.i).kind=126 then st.i+1 else st.i,st.vars,st.pz⟩ [] with
  | .error p=>.error p
  | .ok (st',a)=>
   if (aJ b st'.i).kind=124 then fV b f ⟨st'.i+1,st'.vars,st'.pz⟩ (c++[(decide ((aJ b st.i).kind=126),a)])
   else .ok (st',c++[(decide ((aJ b st.i).kind=126),a)])
def lG(b:List Tk)(a:bE):Except Nat (bE×List Lt):=
 if (aJ b a.i).kind=102 then .ok (⟨a.i+1,[],a.pz⟩,[]) else fV b (b.length+1) ⟨a.i,[],a.pz⟩ []
def kP(a:List Tk)(b:bE):Except Nat (bE×List Lt):=
 match lG a b with
 | .error p=>.error p
 | .ok (st',c)=>if (aJ a st'.i).kind=46 then .ok (⟨st'.i+1,st'.vars,st'.pz⟩,c) else .error (aJ a st'.i).pos
def iC(a:List Tk):Nat->bE->List (Nat×List Lt)->Except Nat (bE×List (Nat×List Lt))
 |0,_,_=>.error 0
 |f+1,st,cs=>
  if (aJ a st.i).kind=101 then .ok (st,cs)
  else match kP a st with
   | .error p=>.error p
   | .ok (st',c)=>iC a f st' (cs++[((aJ a st.i).pos,c)])
def uX(a:ByteArray):Except Nat (bE×List (Nat×List Lt)):=iC (eE (cD a (a.size+1) 0)) ((eE (cD a (a.size+1) 0)).length+1) ⟨0,[],[]⟩ []
theorem wT(m:List Tk):∀f,(∀j b d c e,cJ m f j b d=.ok (c,e)->b.i<c.i/\d.length<e.length/\e.length<=d.length+(c.i-b.i)/\b.pz.length<=c.pz.length/\c.pz.length<=b.pz.length+(c.i-b.i)/\b.vars.length<=c.vars.length/\c.vars.length<=b.vars.length+(c.i-b.i))/\
  (∀b d g c e i,dT m f b d g=.ok (c,e,i)->b.i+1<c.i/\d.length<=e.length/\e.length+1<=d.length+(c.i-b.i)/\b.pz.length<=c.pz.length/\c.pz.length+1<=b.pz.length+(c.i-b.i)/\b.vars.length<=c.vars.length/\c.vars.length+1<=b.vars.length+(c.i-b.i)/\g<i/\i<=g+(c.i-b.i)):=by
 intro f;induction f with
 |zero=>exact ⟨λj b d c e a=>by simp [cJ] at a,λb d g c e i a=>by simp [dT] at a⟩
 |succ f ih=>
  obtain ⟨o,n⟩:=ih;constructor
  ·intro j b d c e a;rw [cJ] at a;split at a
   ·simp only [Except.ok.injEq,Prod.mk.injEq] at a;obtain ⟨rfl,rfl⟩:=a;simp only [zy,zz,kO];split<;>simp<;>omega
   ·split at a
    ·simp at a
    ·split at a
     ·split at a
      ·simp at a
      ·rename_i q p r k;have l:=n _ _ _ _ _ _ k;simp only [Except.ok.injEq,Prod.mk.injEq] at a;obtain ⟨rfl,rfl⟩:=a;simp only [zy,zz,pW,dS,List.length_modify] at l ⊢;omega
     ·simp only [Except.ok.injEq,Prod.mk.injEq] at a;obtain ⟨rfl,rfl⟩:=a;simp only [zy,zz];omega
  ·intro b d g c e i a;rw [dT] at a;split at a
   ·simp at a
   ·rename_i q p k;have l:=o _ _ _ _ _ k;simp only at l;split at a
    ·have s:=n _ _ _ _ _ _ a;omega
    ·split at a
     ·simp only [Except.ok.injEq,Prod.mk.injEq] at a;obtain ⟨rfl,rfl,rfl⟩:=a;simp only;omega
     ·simp at a
theorem fE{b:Nat}{c:World}(a:Below b c w){p:Addr}(g:b<=p.block)(f:Value):Below b c (w.setCell p f):=
 ⟨a.os,a.tape,a.output,by have:=a.size;simpa [World.setCell] using this,λe d=>by rw [Below.heap_setCell _ _ _ _ (by omega)];exact a.block e d⟩
def aB5(a:List Tk)(c:Int)(b:Nat):Int:=if h:b<a.length then (a[b].pos:Int) else c
theorem rX{d:World}{b j:Nat}(a:w.grownBy d (some b))(i:Value):w.grownBy (d.setCell ⟨b,j,none⟩ i) (some b):=
 ⟨a.os,a.tape,a.output,by have:=a.size;simpa [World.setCell] using this,λg f c=>by rw [Below.heap_setCell _ _ _ _ (λe=>c (by rw [e]))];exact a.block g f c⟩
theorem oU{u:Array Oper}{a:Oper}{c:Act}{K:Act->World->Prop}{z:Exit->Act->World->Prop}{y:Prop}(F:a.guard=none)(v x:Operand)(l e:TypeId)(L:a.op=.call {callee:=.builtin .append,args:=#[v,x],argTypes:=#[l,l]})
  (r:Value) (b k:Nat) (S:zw.underlying l=some (.slice e)) (H:(zw.info? e).map (λf=>(f.zero,f.size,f.bytes))=some (some r,b,k)) (X:r.cells.size=b) (R:0<b) (E:k<=100) (j:Nat) (n:Value) (d:Nat) (q:List Value) (O:c.eval v=n) (M:w.ownsRow j e b n d q) (a0:d<=10000000) (D:j<=w.heap.size) (p s:Nat) (g:List Value) (U:c.eval x=.slice (some ⟨p,0,none⟩) 1 s) (I:g.length=1*b) (J:∀t m,g[t]?=some m->w.cell? ((⟨p,0,none⟩ : Addr).add t)=some m) (B:∀m∈g,m.oneCell'=true)
  (A:∀o i,i.ownsRow j e b o (d+1) (q++g)->w.grownBy i n.ownBlock->K (c.put a.dst o) i):if Region.wanted a (yielded u c.tmps)=true then Oper.wp zw a c w K z else y:=by
 have T:Region.wanted a (yielded u c.tmps)=true:=by simp [Region.wanted,F]
 rw [aH T];obtain ⟨f,G,W,Q,V⟩:=info_parts H;have C:(d+1)*k<=140737488355328:=Nat.le_trans (Nat.mul_le_mul (show d+1<=10000001 by omega) E) (by decide);obtain ⟨o,i,N,Y,Z,_⟩:=run_append_own (P:=zw) w j l a.type e f r b k S G W Q V X R n d q M ⟨p,0,none⟩ 1 s g I J B (by unfold maxLen;omega) C D;unfold Oper.wp execOp;simp only [L,resolve,invoke,builtin,Sem.run_bind,Sem.run_pure,Result.andThen_ok,List.map_toArray,List.map_cons,List.map_nil,O,U,N];exact A o i Y Z
theorem aLd(a:World)(c:Array Value)(d:TypeId)(b:Nat)(g:Value)(e:c.toList[b]?=some g):(a.alloc (.cells c d)).cell? ((⟨a.heap.size,0,none⟩ : Addr).add b)=some g:=by
 have j:(a.alloc (.cells c d)).heap[a.heap.size]?=some (.cells c d):=by show (a.heap.push _)[a.heap.size]?=_;simp
 simp only [Array.getElem?_toList] at e;have i:(⟨a.heap.size,0,none⟩ : Addr).add b=⟨a.heap.size,b,none⟩:=by
  unfold Addr.add;by_cases f:b=0
  ·simp [f]
  ·simp [f]
 rw [i];unfold World.cell?;rw [j];exact e
def aLe(b:Exit->Act->World->Prop):Exit->Act->World->Prop
 | .panic _,_,_=>False
 |e,a,w=>b e a w
theorem tK{c:Code}{Q:Exit->Act->World->Prop}{a:Act}(h:c.wp zw (aLe Q) a w):c.wp zw Q a w:=
 Code.wp_mono (λe a w h=>by cases e<;>first|exact h|exact False.elim h) h
theorem qT{a:Exit->Act->World->Prop}{b:Act}(c:a .normal b w):aLe a .normal b w:=c
theorem aYg(a:Nd)(b:List Nd):bB (a::b)=.string a.1::.int .i64 a.2::bB b:=rfl
theorem aYh(c:List Nd):∀(a b:Nat),(bB c).set (a*2+1) (.int .i64 b)=bB (dS c a b):=by
 induction c with
 |nil=>intro a b;simp [bB,dS]
 |cons x r ih=>
  intro a b;cases a with
  |zero=>rfl
  |succ a=>
   have:=ih a b;rw [show (a+1)*2+1=a*2+1+1+1 by omega,aYg,zr,zr,this];rfl
structure TL(L T:List Tk)(brk:Int):Prop where
 kind:∀i,(aJ L i).kind=(aJ T i).kind
 txt:∀i,(aJ L i).txt=(aJ T i).txt
 pos:∀i,(aJ T i).kind≠63->(aJ L i).pos=(aJ T i).pos
 bad:∀i,i<T.length->aB5 L brk i=(aJ T i).pos
 more:∀i,i<T.length->(aJ T i).kind≠101->(aJ T i).kind≠63->i+1<T.length
 few:T.length<=1000002
theorem aLf{d:Nat}{b:Tk}(a:dK s k=.tok b d):b.kind≠101/\b.kind≠63:=by
 unfold dK at a;split at a
 ·split at a
  ·cases a
  ·simp only [Nx.tok.injEq] at a;rw [<-a.1];simp only;split<;>decide
 ·split at a
  ·split at a
   ·simp only [Nx.tok.injEq] at a;rw [<-a.1];exact ⟨by simp,by simp⟩
   ·cases a
  ·split at a
   ·split at a
    ·simp only [Nx.tok.injEq] at a;rw [<-a.1];exact ⟨by simp,by simp⟩
    ·cases a
   ·split at a
    ·rename_i c;simp only [Nx.tok.injEq] at a;rw [<-a.1];simp only;unfold mV at c;simp at c;omega
    ·cases a
theorem aLg(d:ByteArray):∀b c,(∀a∈(cD d b c).1.dropLast,a.kind≠101/\a.kind≠63)/\((cD d b c).2=none->∃i a,(cD d b c).1=i++[a]/\a.kind=101)/\((cD d b c).2≠none->∀a∈(cD d b c).1,a.kind≠101/\a.kind≠63)/\(∀a∈(cD d b c).1,a.kind≠63):=by
 intro b;induction b with
 |zero=>intro c;simp [cD]
 |succ b ih=>
  intro c;rw [cD];split
  ·split
   ·exact ih _
   ·split
    ·exact ih _
    ·split
     ·rename_i a j n;have f:=aLf n;obtain ⟨k,o,p,q⟩:=ih j;refine ⟨?_,?_,?_,?_⟩
      ·intro e hu;simp only at hu;cases hr:(cD d b j).1 with
       |nil=>rw [hr] at hu;simp at hu
       |cons y r=>
        rw [hr] at hu k;rw [List.dropLast_cons_of_ne_nil (by simp)] at hu;rcases zs.1 hu with rfl|hu
        ·exact f
        ·exact k e hu
      ·intro g;obtain ⟨i,e,l,m⟩:=o g;exact ⟨a::i,e,by simp only [l,List.cons_append],m⟩
      ·intro g e hu;rcases zs.1 hu with rfl|hu
       ·exact f
       ·exact p g e hu
      ·intro e hu;rcases zs.1 hu with rfl|hu
       ·exact f.2
       ·exact q e hu
     ·simp
  ·refine ⟨by simp,λ_=>⟨[],_,rfl,rfl⟩,by simp,by simp⟩
theorem aLh(c:ByteArray):∀a b,(cD c a b).1.length<=a:=by
 intro a;induction a with
 |zero=>intro b;simp [cD]
 |succ a ih=>
  intro b;rw [cD];split
  ·split
   ·have:=ih (b+1);omega
   ·split
    ·have:=ih (iB c b);omega
    ·split
     ·rename_i f d e;have:=ih d;simp only [List.length_cons];omega
     ·simp
  ·simp
theorem aEj(d:ByteArray)(u:d.size<=1000000):TL (cD d (d.size+1) 0).1 (eE (cD d (d.size+1) 0)) (aLb (cD d (d.size+1) 0).2):=by
 obtain ⟨_,l,s,_⟩:=aLg d (d.size+1) 0;have o:=aLh d (d.size+1) 0;generalize cD d (d.size+1) 0=r at *;obtain ⟨b,m⟩:=r;simp only at l s o;cases m with
 |none=>
  have i:eE (b,none)=b:=by simp [eE]
  rw [i];refine ⟨λ_=>rfl,λ_=>rfl,λ_ _=>rfl,λa e=>by simp [aB5,aJ,e],λa e j _=>?_,by omega⟩;obtain ⟨t,v,rfl,q⟩:=l rfl;by_cases n:a=t.length
  ·subst n;exact absurd (by simpa [aJ] using q) j
  ·simp at e ⊢;omega
 |some p=>
  have i:eE (b,some p)=b++[⟨63,⟨#[]⟩,p⟩]:=by simp [eE]
  rw [i];have g:∀a,(a<b.length/\aJ (b++[⟨63,⟨#[]⟩,p⟩]) a=aJ b a)\/(a=b.length/\aJ (b++[⟨63,⟨#[]⟩,p⟩]) a=⟨63,⟨#[]⟩,p⟩/\aJ b a=uW)\/(b.length<a/\aJ (b++[⟨63,⟨#[]⟩,p⟩]) a=uW/\aJ b a=uW):=by
   intro a;rcases Nat.lt_trichotomy a b.length with h|h|h
   ·exact Or.inl ⟨h,by simp [aJ,List.getElem?_append_left h]⟩
   ·subst h;exact Or.inr (Or.inl ⟨rfl,by simp [aJ],by simp [aJ]⟩)
   ·refine Or.inr (Or.inr ⟨h,?_,?_⟩)
    ·unfold aJ;rw [zx,zv (by simp;omega)];rfl
    ·unfold aJ;rw [zx,zv (by omega)];rfl
  refine ⟨λa=>?_,λa=>?_,λa e=>?_,λa e=>?_,λa e j k=>?_,by simp;omega⟩
  ·rcases g a with ⟨_,h⟩|⟨_,h,c⟩|⟨_,h,c⟩
   ·rw [h]
   ·rw [h,c];rfl
   ·rw [h,c]
  ·rcases g a with ⟨_,h⟩|⟨_,h,c⟩|⟨_,h,c⟩
   ·rw [h]
   ·rw [h,c];rfl
   ·rw [h,c]
  ·rcases g a with ⟨_,h⟩|⟨_,h,c⟩|⟨_,h,c⟩
   ·rw [h]
   ·rw [h] at e;exact absurd rfl e
   ·rw [h,c]
  ·rcases g a with ⟨f,h⟩|⟨f,h,c⟩|⟨f,h,c⟩
   ·rw [h];simp [aB5,aJ,f]
   ·rw [h];simp [aB5,f,aLb]
   ·simp at e;omega
  ·rcases g a with ⟨f,h⟩|⟨f,h,c⟩|⟨f,h,c⟩
   ·simp;omega
   ·rw [h] at k;exact absurd rfl k
   ·simp at e;omega
theorem wU{d:Nat}{g:TypeId}{j:Nat}{c:Value}{b:Nat}{k:List Value}(i:w.ownsRow d g j c b k)(n:0<b):∃a e,c=.slice (some ⟨a,0,none⟩) b e:=by
 obtain ⟨_,⟨rfl,m⟩|⟨a,f,l,rfl,_⟩⟩:=i
 ·omega
 ·exact ⟨a,f,rfl⟩
theorem aYi(a:List Nd)(b:ByteArray):dS (a++[(b,0)]) a.length 0=a++[(b,0)]:=by
 unfold dS;induction a with
 |nil=>rfl
 |cons x r ih=>simpa using ih
theorem aYj{u d:List Tk}{v:Int}(k:TL u d v):∀i,(∀n b f c g,cJ d i n b f=.ok (c,g)->b.i<d.length->c.i<d.length)/\(∀b f p c g q,dT d i b f p=.ok (c,g,q)->b.i+1<d.length->c.i<d.length):=by
 intro i;induction i with
 |zero=>exact ⟨λn b f c g a=>by simp [cJ] at a,λb f p c g q a=>by simp [dT] at a⟩
 |succ i ih=>
  obtain ⟨y,s⟩:=ih;constructor
  ·intro n b f c g a l;rw [cJ] at a;split at a
   ·rename_i e;simp only [Except.ok.injEq,Prod.mk.injEq] at a;obtain ⟨rfl,rfl⟩:=a;exact k.more _ l (by rw [e.1];decide) (by rw [e.1];decide)
   ·split at a
    ·simp at a
    ·rename_i e;have e:(aJ d b.i).kind=110:=by simpa using e
     have r:=k.more _ l (by rw [e];decide) (by rw [e];decide);split at a
     ·rename_i m;split at a
      ·simp at a
      ·rename_i A z B x;simp only [Except.ok.injEq,Prod.mk.injEq] at a;obtain ⟨rfl,rfl⟩:=a;have o:=k.more _ r (by rw [m];decide) (by rw [m];decide);have w:=s _ _ _ _ _ _ x o;exact w
     ·simp only [Except.ok.injEq,Prod.mk.injEq] at a;obtain ⟨rfl,rfl⟩:=a;exact r
  ·intro b f p c g q a l;rw [dT] at a;split at a
   ·simp at a
   ·rename_i A z m;have t:=y _ _ _ _ _ m l;split at a
    ·rename_i j;have o:=k.more _ t (by rw [j];decide) (by rw [j];decide);exact s _ _ _ _ _ _ a o
    ·split at a
     ·rename_i j;simp only [Except.ok.injEq,Prod.mk.injEq] at a;obtain ⟨rfl,rfl,rfl⟩:=a;exact k.more _ t (by rw [j];decide) (by rw [j];decide)
     ·simp at a
