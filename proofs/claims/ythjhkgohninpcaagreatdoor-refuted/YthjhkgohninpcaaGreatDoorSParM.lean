import Derived.Test.YthjhkgohninpcaaGreatDoorText0M
import Derived.Test.YthjhkgohninpcaaGreatDoorRTermM
import Derived.Laws.Rows
import Derived.OneCell
import Derived.Handy
import Derived.RegionTactic
import Derived.ChangeAlike
open List renaming length_singleton→zx,length_append→zw
open Nat renaming le_refl→zz
namespace Go.Proofs.YthjhkgohninpcaaGreatDoor
open World renaming cell?→zy
open Go.RowKit
set_option maxHeartbeats 1000000
set_option maxRecDepth 100000
def uR:Tk:=⟨63,⟨#[]⟩,0⟩
def eP(a:List Tk×Option Nat):List Tk:=a.1++(match a.2 with|some p=>[⟨63,⟨#[]⟩,p⟩]|none=>[])
def aH(a:List Tk)(b:Nat):Tk:=a.getD b uR
def yU:List ByteArray->ByteArray->Int
 |[],_=>-1
 |y::r,x=>if y=x then (r.length:Int) else yU r x
def jL(a:List ByteArray)(b:ByteArray):Int:=yU a.reverse b
theorem aV9(a:ByteArray):jL [] a=-1:=rfl
theorem aB5(a:List ByteArray)(c b:ByteArray):jL (a++[c]) b=if c=b then (a.length:Int) else jL a b:=by simp [jL,yU]
theorem aVa(a:List ByteArray)(c:ByteArray) : -1<=jL a c/\jL a c<a.length:=by
 unfold jL;have b:a.length=a.reverse.length:=by simp
 rw [b];generalize a.reverse=m;clear b;induction m with
 |nil=>simp [yU]
 |cons y r ih=>
  simp only [yU];split
  ·simp;omega
  ·simp;omega
structure aY where
 i:Nat
 vars:List ByteArray
 pz:List Pl
def lA(a:List ByteArray)(b:ByteArray):List ByteArray:=if jL a b<0 then a++[b] else a
def lB(a:List ByteArray)(b:ByteArray):Int:=if jL a b<0 then a.length else jL a b
def jM(c:List Pl)(b:Nat)(d:Nat):List Pl:=c.modify b λa=>(a.1,a.2.1,(d:Int),a.2.2.2)
def dR(b:List Nd)(a:Nat)(c:Nat):List Nd:=b.modify a λd=>(d.1,(c:Int))
mutual
def cJ(a:List Tk):Nat->Bool->aY->List Nd->Except Nat (aY×List Nd)
 |0,_,_,_=>.error 0
 |f+1,atom,st,l=>
  if (aH a st.i).kind=118/\atom=false then .ok (⟨st.i+1,lA st.vars (aH a st.i).txt,st.pz⟩,l++[(⟨#[]⟩,lB st.vars (aH a st.i).txt)])
  else if (aH a st.i).kind≠110 then .error (aH a st.i).pos
  else if (aH a (st.i+1)).kind=40 then
   match eA a f ⟨st.i+1,st.vars,st.pz++[((aH a st.i).txt,atom,0,((aH a st.i).pos:Int))]⟩ (l++[((aH a st.i).txt,0)]) 0 with
   | .error p=>.error p
   | .ok (st',l',n)=>.ok (⟨st'.i,st'.vars,jM st'.pz st.pz.length n⟩,dR l' l.length n)
  else .ok (⟨st.i+1,st.vars,st.pz++[((aH a st.i).txt,atom,0,((aH a st.i).pos:Int))]⟩,l++[((aH a st.i).txt,0)])
def eA(a:List Tk):Nat->aY->List Nd->Nat->Except Nat (aY×List Nd×Nat)
 |0,_,_,_=>.error 0
 |f+1,st,l,n=>
  match cJ a f false ⟨st.i+1,st.vars,st.pz⟩ l with
  | .error p=>.error p
  | .ok (st',l')=>
   if (aH a st'.i).kind=44 then eA a f st' l' (n+1)
   else if (aH a st'.i).kind=41 then .ok (⟨st'.i+1,st'.vars,st'.pz⟩,l',n+1)
   else .error (aH a st'.i).pos
end
def fD(b:List Tk):Nat->aY->List Lt->Except Nat (aY×List Lt)
 |0,_,_=>.error 0
 |f+1,st,c=>
  match cJ b (b.length+1) true ⟨if (aH b st.i).kind=126 then st.i+1 else st.i,st.vars,st.pz⟩ [] with
  | .error p=>.error p
  | .ok (st',a)=>
   if (aH b st'.i).kind=124 then fD b f ⟨st'.i+1,st'.vars,st'.pz⟩ (c++[(decide ((aH b st.i).kind=126),a)])
   else .ok (st',c++[(decide ((aH b st.i).kind=126),a)])
def jY(b:List Tk)(a:aY):Except Nat (aY×List Lt):=
 if (aH b a.i).kind=102 then .ok (⟨a.i+1,[],a.pz⟩,[]) else fD b (b.length+1) ⟨a.i,[],a.pz⟩ []
def iV(a:List Tk)(b:aY):Except Nat (aY×List Lt):=
 match jY a b with
 | .error p=>.error p
 | .ok (st',c)=>if (aH a st'.i).kind=46 then .ok (⟨st'.i+1,st'.vars,st'.pz⟩,c) else .error (aH a st'.i).pos
def gJ(a:List Tk):Nat->aY->List (Nat×List Lt)->Except Nat (aY×List (Nat×List Lt))
 |0,_,_=>.error 0
 |f+1,st,cs=>
  if (aH a st.i).kind=101 then .ok (st,cs)
  else match iV a st with
   | .error p=>.error p
   | .ok (st',c)=>gJ a f st' (cs++[((aH a st.i).pos,c)])
def qC(s:ByteArray):Except Nat (aY×List (Nat×List Lt)):=gJ (eP (cW s (s.size+1) 0)) ((eP (cW s (s.size+1) 0)).length+1) ⟨0,[],[]⟩ []
theorem tS(m:List Tk):∀f,(∀j b d c e,cJ m f j b d=.ok (c,e)->b.i<c.i/\d.length<e.length/\e.length<=d.length+(c.i-b.i)/\b.pz.length<=c.pz.length/\c.pz.length<=b.pz.length+(c.i-b.i)/\b.vars.length<=c.vars.length/\c.vars.length<=b.vars.length+(c.i-b.i))/\
  (∀b d g c e i,eA m f b d g=.ok (c,e,i)->b.i+1<c.i/\d.length<=e.length/\e.length+1<=d.length+(c.i-b.i)/\b.pz.length<=c.pz.length/\c.pz.length+1<=b.pz.length+(c.i-b.i)/\b.vars.length<=c.vars.length/\c.vars.length+1<=b.vars.length+(c.i-b.i)/\g<i/\i<=g+(c.i-b.i)):=by
 intro f;induction f with
 |zero=>exact ⟨λj b d c e a=>by simp [cJ] at a,λb d g c e i a=>by simp [eA] at a⟩
 |succ f ih=>
  obtain ⟨o,n⟩:=ih;constructor
  ·intro j b d c e a;rw [cJ] at a;split at a
   ·simp only [Except.ok.injEq,Prod.mk.injEq] at a;obtain ⟨rfl,rfl⟩:=a;simp only [zw,zx,lA];split<;>simp<;>omega
   ·split at a
    ·simp at a
    ·split at a
     ·split at a
      ·simp at a
      ·rename_i q p r k;have l:=n _ _ _ _ _ _ k;simp only [Except.ok.injEq,Prod.mk.injEq] at a;obtain ⟨rfl,rfl⟩:=a;simp only [zw,zx,jM,dR,List.length_modify] at l ⊢;omega
     ·simp only [Except.ok.injEq,Prod.mk.injEq] at a;obtain ⟨rfl,rfl⟩:=a;simp only [zw,zx];omega
  ·intro b d g c e i a;rw [eA] at a;split at a
   ·simp at a
   ·rename_i q p k;have l:=o _ _ _ _ _ k;simp only at l;split at a
    ·have s:=n _ _ _ _ _ _ a;omega
    ·split at a
     ·simp only [Except.ok.injEq,Prod.mk.injEq] at a;obtain ⟨rfl,rfl,rfl⟩:=a;simp only;omega
     ·simp at a
def bG(w:World)(c:Nat)(f:Value)(b:Nat)(a:Int)(g e d i:Value):Prop:=w.heap[c]?=some (.cells #[f,.int .i64 b,.int .i64 a,g,e,d,i] 98)
section
variable {w:World}{pa i:Nat}{bad:Int}{vL vP vC vB vV:Value}
theorem bG.c0(a:bG w pa vL i bad vP vC vB vV):w.cell? ⟨pa,0,none⟩=some vL:=by unfold bG at a;simp [zy,a]
theorem bG.c1(a:bG w pa vL i bad vP vC vB vV):w.cell? ⟨pa,1,none⟩=some (.int .i64 i):=by unfold bG at a;simp [zy,a]
theorem bG.c2(a:bG w pa vL i bad vP vC vB vV):w.cell? ⟨pa,2,none⟩=some (.int .i64 bad):=by unfold bG at a;simp [zy,a]
theorem bG.c3(a:bG w pa vL i bad vP vC vB vV):w.cell? ⟨pa,3,none⟩=some vP:=by unfold bG at a;simp [zy,a]
theorem bG.c4(a:bG w pa vL i bad vP vC vB vV):w.cell? ⟨pa,4,none⟩=some vC:=by unfold bG at a;simp [zy,a]
theorem bG.c5(a:bG w pa vL i bad vP vC vB vV):w.cell? ⟨pa,5,none⟩=some vB:=by unfold bG at a;simp [zy,a]
theorem bG.c6(a:bG w pa vL i bad vP vC vB vV):w.cell? ⟨pa,6,none⟩=some vV:=by unfold bG at a;simp [zy,a]
theorem bG.soft(a:bG w pa vL i bad vP vC vB vV)(b:Nat):w.frozen? ⟨pa,b,none⟩=false:=by unfold bG at a;simp [World.frozen?,a]
theorem bG.lt(a:bG w pa vL i bad vP vC vB vV):pa<w.heap.size:=(Array.getElem?_eq_some_iff.1 a).1
theorem bG.below(a:bG w pa vL i bad vP vC vB vV){w':World}{B:Nat}(k:Below B w w')(b:w.heap.size<=B):bG w' pa vL i bad vP vC vB vV:=by have:=a.lt;unfold bG;rw [k.block pa (by omega)];exact a
theorem bG.set1(b:bG w pa vL i bad vP vC vB vV)(a:Nat):bG (w.setCell ⟨pa,1,none⟩ (.int .i64 a)) pa vL a bad vP vC vB vV:=heap_setCell_same w pa 1 _ _ _ b
theorem bG.set2(b:bG w pa vL i bad vP vC vB vV)(a:Int):bG (w.setCell ⟨pa,2,none⟩ (.int .i64 a)) pa vL i a vP vC vB vV:=heap_setCell_same w pa 2 _ _ _ b
theorem bG.set3(b:bG w pa vL i bad vP vC vB vV)(a:Value):bG (w.setCell ⟨pa,3,none⟩ a) pa vL i bad a vC vB vV:=heap_setCell_same w pa 3 _ _ _ b
theorem bG.set4(b:bG w pa vL i bad vP vC vB vV)(a:Value):bG (w.setCell ⟨pa,4,none⟩ a) pa vL i bad vP a vB vV:=heap_setCell_same w pa 4 _ _ _ b
theorem bG.set5(b:bG w pa vL i bad vP vC vB vV)(a:Value):bG (w.setCell ⟨pa,5,none⟩ a) pa vL i bad vP vC a vV:=heap_setCell_same w pa 5 _ _ _ b
theorem bG.set6(b:bG w pa vL i bad vP vC vB vV)(a:Value):bG (w.setCell ⟨pa,6,none⟩ a) pa vL i bad vP vC vB a:=heap_setCell_same w pa 6 _ _ _ b
theorem bG.row(d:bG w pa vL i bad vP vC vB vV){B:Nat}{a:TypeId}{j:Nat}{v:Value}{f:Nat}{l:List Value}(e:w.ownsRow B a j v f l)(m:a≠98)(n:Nat)(k:Value):(w.setCell ⟨pa,n,none⟩ k).ownsRow B a j v f l:=by
 refine ownsRow_setCell_other e ?_ k;intro c;obtain ⟨_,⟨rfl,_⟩|⟨g,cap,o,rfl,p,b,_⟩⟩:=e
 ·simp [Value.ownBlock] at c
 ·simp [Value.ownBlock] at c;subst c;unfold bG at d;rw [d] at b;simp at b;exact m b.2.symm
end
theorem aJa{w:World}{g:Nat}{j:Value}{a:List Tk}(n:w.ownsRow g 100 3 j a.length (kJ a)):∃d e,j=.slice d a.length e/\∀b (_:b<a.length),∃c,d=some ⟨c,0,none⟩/\w.cell? ⟨c,b*3,none⟩=some (.int .u8 a[b].kind)/\w.cell? ⟨c,b*3+1,none⟩=some (.string a[b].txt)/\w.cell? ⟨c,b*3+2,none⟩=some (.int .i64 a[b].pos):=by
 obtain ⟨o,⟨rfl,p⟩|⟨c,e,m,rfl,q,s,r,t,v,u⟩⟩:=n
 ·exact ⟨none,0,by rw [p],λb i=>by omega⟩
 ·have f:w.ownsRow g 100 3 (.slice (some ⟨c,0,none⟩) a.length e) a.length (kJ a):=⟨o,Or.inr ⟨c,e,m,rfl,q,s,r,t,v,u⟩⟩;refine ⟨_,_,rfl,λb i=>⟨c,rfl,?_⟩⟩;obtain ⟨d,k,l⟩:=aW6 a b i;refine ⟨?_,?_,?_⟩
  ·rw [f.cellAt _ (by omega),d]
  ·rw [f.cellAt _ (by omega),k]
  ·rw [f.cellAt _ (by omega),l]
theorem eH{b:Nat}{c d:World}(a:Below b c d){p:Addr}(i:b<=p.block)(g:Value):Below b c (d.setCell p g):=
 ⟨a.os,a.tape,a.output,by have:=a.size;simpa [World.setCell] using this,λf e=>by rw [Below.heap_setCell _ _ _ _ (by omega)];exact a.block f e⟩
theorem aJb(a:World)(b:Obj)(c:Nat):aC a ((a.alloc b).drewN c):=((Below.refl _ a).alloc (zz _) b).trans ((aL ⟨c,rfl⟩).mono (by simp))
def nU(a:Tk):Value:=.agg #[.int .u8 a.kind,.string a.txt,.int .i64 a.pos]
theorem pA(s f b:Nat)(u:Int)(r A z y B:Value)(d:List Tk)(c:World)(e:bG c f r b u A z y B)(q:c.ownsRow s 100 3 r d.length (kJ d)):Calls Tryz.prog 43 #[.pointer (some ⟨f,0,none⟩)] c λw C=>w=.returned (nU (aH d b))/\aC c C:=by
 obtain ⟨t,v,rfl,l⟩:=aJa q;have I:=e.lt;have i:=e.c0;have j:=e.c1;clear e q;have D:∀a,(c.alloc a).cell? ⟨f,0,none⟩=some (.slice t d.length v):=λa=>aD ((Below.refl _ c).alloc (zz _) a) i
 have E:∀a,(c.alloc a).cell? ⟨f,1,none⟩=some (.int .i64 b):=λa=>aD ((Below.refl _ c).alloc (zz _) a) j
 go_enter Tryz.func43,Tryz.ntmps43;by_cases m:b<d.length
 ·obtain ⟨k,rfl,n,o,p⟩:=l b m;have F:∀a,(c.alloc a).cell? ⟨k,b*3,none⟩=some (.int .u8 d[b].kind):=λa=>aD ((Below.refl _ c).alloc (zz _) a) n
  have G:∀a,(c.alloc a).cell? ⟨k,b*3+1,none⟩=some (.string d[b].txt):=λa=>aD ((Below.refl _ c).alloc (zz _) a) o
  have H:∀a,(c.alloc a).cell? ⟨k,b*3+2,none⟩=some (.int .i64 d[b].pos):=λa=>aD ((Below.refl _ c).alloc (zz _) a) p
  have g:aG (aH d b=d[b]):=aA (by simp [aH,m]);clear n o p i j l;have x:(b:Int)<(d.length:Int):=by omega
  go_wp2;go_quiet (fail);go_wp2;go_region;all_goals
   go_wp2;go_returns;exact ⟨by rw [g.o];rfl,eH (eH (eH (aJb _ _ _) (zz _) _) (zz _) _) (zz _) _⟩
 ·have g:aG (aH d b=uR):=aA (by simp [aH,m]);have x:¬(b:Int)<(d.length:Int):=by omega
  clear i j l;go_wp2;go_quiet (fail);go_wp2;go_returns;exact ⟨by rw [g.o];rfl,eH (eH (eH (aJb _ _ _) (zz _) _) (zz _) _) (zz _) _⟩
def pB(a:List Tk)(c:Int)(b:Nat):Int:=if h:b<a.length then (a[b].pos:Int) else c
theorem aJc{c d:World}{b:Option Nat}(a:c.grownBy d b)(e:Nat):c.grownBy (d.drewN e) b:=⟨a.os,a.tape,a.output,a.size,a.block⟩
theorem rB{d e:World}{b j:Nat}(a:d.grownBy e (some b))(k:Value):d.grownBy (e.setCell ⟨b,j,none⟩ k) (some b):=
 ⟨a.os,a.tape,a.output,by have:=a.size;simpa [World.setCell] using this,λi g c=>by rw [Below.heap_setCell _ _ _ _ (λf=>c (by rw [f]))];exact a.block i g c⟩
theorem aB6(w d b:Nat)(a:Int)(l t s r u:Value)(c:List Tk)(e:World)(g:bG e d l b (-1) t s r u)(o:e.ownsRow w 100 3 l c.length (kJ c)):Calls Tryz.prog 44 #[.pointer (some ⟨d,0,none⟩),.int .i64 a] e λx v=>x=.returned (.tuple #[])/\bG v d l b (pB c a b) t s r u/\e.grownBy v (some d):=by
 have p:=g.row o (by decide) 2 (.int .i64 a);have f:=g.set2 a;have q:e.grownBy (e.setCell ⟨d,2,none⟩ (.int .i64 a)) (some d):=bX _ _ _;obtain ⟨B,C,rfl,j⟩:=aJa p;have J:=g.c2;have L:=g.soft 2;have D:=f.c0;have E:=f.c1;have F:=f.c2;have G:=f.soft 2;have m:=aA f;have n:=aA q;clear g o f p q;go_enter Tryz.func44,Tryz.ntmps44;by_cases k:b<c.length
 ·obtain ⟨I,rfl,y,z,H⟩:=j b k;have i:aG (pB c a b=c[b].pos):=aA (by simp [pB,k]);clear j y z;have A:(b:Int)<(c.length:Int):=by omega
  go_wp2;generalize e.setCell ⟨d,2,none⟩ (.int .i64 a)=w1 at *;go_quiet (fail);go_wp2;go_region;all_goals
   go_wp2;go_returns;exact ⟨rfl,by rw [i.o];exact bG.set2 (w:=w1.drewN _) m.o _,rB (aJc n.o _) _⟩
 ·have i:aG (pB c a b=a):=aA (by simp [pB,k]);have A:¬(b:Int)<(c.length:Int):=by omega
  clear j;go_wp2;generalize e.setCell ⟨d,2,none⟩ (.int .i64 a)=w1 at *;go_quiet (fail);go_wp2;go_returns;exact ⟨rfl,by rw [i.o];exact m.o,aJc n.o _⟩
