import Derived.Deep.Slices
import Derived.Deep.SlicePairs
import Derived.ChangeArms
import Derived.Test.YtmelidkanelpbaaGreatDoorONumG
import Derived.Shelf.RegionOpen
import Derived.OwnWalkIn
import Derived.TacticsInMore
import Derived.LoopNIn
import Derived.LoopIn
import Derived.Sort.QuietIn
open List renaming drop_drop→zz,getElem?_eq_some_iff→zy,getElem_range→zu,getElem_take→zt,length_take→zs,getElem_map→zr
namespace Go.Proofs.YtmelidkanelpbaaGreatDoor
open _root_.Go.Proofs.Tryz renaming prog→zx,underlying3→zw
set_option maxHeartbeats 2000000
set_option maxRecDepth 100000
variable{w:World}
section
open Go.RowKit Go.ChangeShapes Go.WideShapes
def lE(a:Int):Prop:=-9223372036854775808<=a/\a<=9223372036854775807
abbrev Rl:=Bool×Int×Int×Int
structure mL(w:World)(a:Option Addr)(l:List Rl):Prop where
 cell:∀k (h:k<l.length),∃b o,a=some ⟨b,o,none⟩/\w.cell? ⟨b,o+k*4,none⟩=some (.bool l[k].1)/\w.cell? ⟨b,o+k*4+1,none⟩=some (.int .i64 l[k].2.1)/\w.cell? ⟨b,o+k*4+2,none⟩=some (.int .i64 l[k].2.2.1)/\w.cell? ⟨b,o+k*4+3,none⟩=some (.int .i64 l[k].2.2.2)
 rng:∀k (h:k<l.length),lE l[k].2.1/\lE l[k].2.2.1/\lE l[k].2.2.2
theorem mL.below{w':World}{b:Option Addr}{d:List Rl}(c:mL w b d)(a:aB w w'):mL w' b d:=
 ⟨λk m=>by
  obtain ⟨e,n,l,f,g,i,j⟩:=c.cell k m;exact ⟨e,n,l,aC a f,aC a g,aC a i,aC a j⟩,c.rng⟩
theorem mL.take{d:Option Addr}{l:List Rl}(e:mL w d l)(n:Nat):mL w d (l.take n):=
 ⟨λk a=>by
  have b:k<l.length:=by rw [zs] at a;omega
  obtain ⟨f,i,g,c⟩:=e.cell k b;refine ⟨f,i,g,?_⟩;rw [zt];exact c,λk a=>by
  have b:k<l.length:=by rw [zs] at a;omega
  rw [zt];exact e.rng k b⟩
theorem aDd{a:Int}(b:(Lit.int .i64 a).wf=true):lE a:=by
 have d:IntKind.i64.min=-9223372036854775808:=by decide
 have c:IntKind.i64.max=9223372036854775807:=by decide
 unfold lE;simp [Lit.wf] at b;omega
theorem aTo{a:Addr}{f:Value}(c:w.cell? (a.add (0*4))=some f):∃b d,a=⟨b,d,none⟩:=by
 obtain ⟨b,d,e⟩:=a;cases e with
 |none=>exact ⟨b,d,rfl⟩
 |some s=>
  simp only [Addr.add,World.cell?] at c;split at c<;>simp at c
theorem aJh(a c b:Nat):(⟨a,c,none⟩ : Addr).add b=⟨a,c+b,none⟩:=by unfold Addr.add;split<;>simp_all
theorem aTp{s:Type}{L:TypeId×Value->s}{N:Nat}{t:List Value}{Z:DataW s×List MemPlace}(l:DataW.trod L zx w 0 (λ_=>true) true N 25 t=some Z):∃a r f,t=[.slice a (List.length r) f]/\mL w a r/\r.length<=f/\(a=none->f=0):=by
 rcases Deep.open_slice Tryz.underlying25 l with ⟨rfl,rfl⟩|⟨a,o,f,A,b1,a4,a5,rfl,a6,P,a8,S,rfl,T⟩
 ·exact ⟨none,[],0,rfl,⟨λc l=>absurd l (by simp),λc l=>absurd l (by simp)⟩,by simp,λ_=>rfl⟩
 ·have R:A=f:=by simpa using S
  subst R;have G:zx.cellsOf 38=4:=by kernel_rfl
  have J:∀d,d<o->∃e:Rl,w.cell? (a.add (d*4))=some (.bool e.1)/\w.cell? (a.add (d*4+1))=some (.int .i64 e.2.1)/\w.cell? (a.add (d*4+2))=some (.int .i64 e.2.2.1)/\w.cell? (a.add (d*4+3))=some (.int .i64 e.2.2.2)/\lE e.2.1/\lE e.2.2.1/\lE e.2.2.2:=by
   intro d a7;obtain ⟨I,z,O⟩:=T d (by omega);rw [G] at z;obtain ⟨a9,Q,m⟩:=World.cells?_some z;obtain ⟨a0,c,n,b0,_,U,b⟩:=DataW.trod_struct Tryz.underlying38 O;match a0,U,I,Q with
   |[y0,y1,y2,y3],_,[v0,v1,v2,v3],_=>
    have g:=b 0 _ rfl;have i:=b 1 _ rfl;have j:=b 2 _ rfl;have k:=b 3 _ rfl;have F:zx.cellsOf 4=1:=by kernel_rfl
    have H:zx.cellsOf 3=1:=by kernel_rfl
    simp [F,H] at g i j k;obtain ⟨p,u,_⟩:=DataW.trod_bool Tryz.underlying4 g;obtain ⟨a1,v,_,W⟩:=DataW.trod_int zw i;obtain ⟨a2,x,_,X⟩:=DataW.trod_int zw j;obtain ⟨a3,y,_,Y⟩:=DataW.trod_int zw k;simp at u v x y;subst u v x y;have B:=m 0 (by omega);have C:=m 1 (by omega);have D:=m 2 (by omega);have E:=m 3 (by omega);rw [Deep.add_add] at B C D E;exact ⟨(p,a1,a2,a3),by simpa using B,by simpa using C,by simpa using D,by simpa using E,aDd W,aDd X,aDd Y⟩
  obtain ⟨M,b⟩:=Deep.choose_lt J;refine ⟨some a,(List.range o).map M,A,by simp,⟨λc n=>?_,λc n=>?_⟩,by simpa using P,by simp⟩
  ·have q:c<o:=by simpa using n
   obtain ⟨p,V,rfl⟩:=aTo (b 0 (by omega)).1;obtain ⟨g,i,j,k,_⟩:=b c q;rw [aJh] at g i j k;refine ⟨p,V,rfl,?_⟩;simp only [zr,zu];exact ⟨g,by simpa [Nat.add_assoc] using i,by simpa [Nat.add_assoc] using j,by simpa [Nat.add_assoc] using k⟩
  ·have q:c<o:=by simpa using n
   simp only [zr,zu];exact (b c q).2.2.2.2
end
section
open Go.RowKit Go.Shelf Go.WideMaps
attribute [local go_sem] Oper.semAt_some
def eU(a:List Nd):Prop:=∀(b:Nat) (c:Nd),a[b]?=some c->dZ (a.drop (b+1)) (aX c)
def jC(d:List Nat)(b c:World):Prop:=∀a∈d,c.heap[a]?=b.heap[a]?
theorem jC.trans{a:List Nat}{b B c:World}(f:jC a b B)(k:jC a B c):jC a b c:=λe d=>(k e d).trans (f e d)
theorem jC.put{c:List Nat}(d:∀k∈c,k<w.heap.size)(a:World)(l:Nat)(b f:Obj)(g:w.heap.size<=l)(_:a.heap[l]?=some b)(_:b.isCells=false)(_:b.isWalk=false):jC c a (a.putObj l f):=λk e=>World.putObj_heap_other (by have:=d k e;omega)
theorem jC.cell{b:List Nat}{a B:World}(c:jC b a B){p:Addr}{v:Value}(e:p.block∈b)(d:a.cell? p=some v):B.cell? p=some v:=(World.cell?_of_block (c _ e)).trans d
abbrev oN(a:List Nat):={x:Nat // x∈a}
structure lS(W:World)(ba bt tb ge:Nat)(L:List Nd)(a:Nat):Prop where
 ca:W.cell? ⟨ba,0,none⟩=some (.int .i64 a)
 ct:W.cell? ⟨bt,0,none⟩=some (.pointer (some ⟨tb,0,none⟩))
 ce:∃cap,W.cell? ⟨tb,1,none⟩=some (.slice (some ⟨ge,0,none⟩) L.length cap)
 en:∀p,p<L.length->W.cell? ⟨ge,p,none⟩=some (.int .i64 (p+aO (L.drop p) 1))
theorem lS.kept{W g:World}{c d f e:Nat}{L:List Nd}{a:Nat}(b:lS W c d f e L a)(k:jC [c,d,f,e] W g):lS g c d f e L a:=by obtain ⟨i,j⟩:=b.ce;exact ⟨k.cell (by simp) b.ca,k.cell (by simp) b.ct,⟨i,k.cell (by simp) j⟩,λm l=>k.cell (by simp) (b.en m l)⟩
theorem aJi{c:Type}{d:Nat}{a:List c->World->Prop}(g:AbidesFrom d a){b:List c}{w:World}(i:a b w)(e:Nat):a b (w.drewN e):=
 g b w _ none i ⟨rfl,rfl,rfl,Nat.le_refl _,λ_ _ _=>rfl⟩ (λj f=>by cases f)
theorem aDe(G T n o x s:Nat)(a:List Nd)(c:Nat)(k:Nd)(e:List Nat)(M:(aG a).ch c=e)(d1:1<=G)(a8:eU a)(c9:a.length<=1000000)(u:a[c]?=some k)(l I:List (oN e)->World->Prop)(a5:Nat)(N:AbidesFrom a5 l)
  (P:∀d g j,l d j->d.length<e.length->YieldAt Fence.wide (G-1) zx T #[.int .i64 (g.1:Nat)] j λp m=>
   (p=.returned (.bool true)/\l (d++[g]) m/\jC [n,o,x,s] j m)\/(p=.returned (.bool false)/\I (d++[g]) m))
  (j:World) (O:lS j n o x s a c) (a7:l [] j):CallsIn Fence.wide G zx 144 #[.func (.yield T) #[] #[],.pointer (some ⟨n,0,none⟩),.pointer (some ⟨o,0,none⟩)] j λp m=>(∃b5,p=.returned b5)/\
   ((∃U:List (oN e),U.map (λg=>g.1)=e/\l U m)\/(∃d:List (oN e),d.map (λg=>g.1) <+: e/\I d m)):=by
 have R:=(zy.1 u).1;have B:=lT u;rw [M] at B;have b1:=a8 c k u;have S:aO (a.drop c) 1=1+aO (a.drop (c+1)) (aX k):=by rw [List.drop_eq_getElem_cons R,(zy.1 u).2];simp [aO]
 have d0:c+1+aO (a.drop (c+1)) (aX k)<=a.length:=by have:=tG (a.drop (c+1)) (aX k);simp at this;omega
 have W:=aA B;generalize hE:aO (a.drop (c+1)) (aX k)=E at *;have X:=aA hE;have a4:=aA P;have Y:=aA S;clear B hE P M S;refine callsIn_of_wp Tryz.func144 rfl trivial ?_;simp only [Tryz.ntmps144,List.size_toArray,List.length_cons,List.length_nil,Nat.reduceAdd,Nat.reduceSub,Array.replicate_succ,Array.replicate_zero,List.push_toArray,List.append_toArray,List.nil_append,List.cons_append];have J:=O.ca;gi_wp2
 clear J;gi_loopw [4] (λH wr=>∃(d:List (oN e)) (b f:Nat),H=.int .i64 b/\e=d.map (λg=>g.1)++gZ (a.drop b) f b/\b+aO (a.drop b) f=c+1+E/\dZ (a.drop b) f/\lS wr n o x s a c/\l d wr)
  (λH _=>c+1+E-(intOf H).toNat)
 case atStart=>exact ⟨[],c+1,aX k,by go_num,by rw [W.o];rfl,by rw [X.o],b1,O,a7⟩
 case round=>
  obtain ⟨d,b,f,rfl,r,v,C,i,t⟩:=hrel;have J:=i.ca;have c2:=i.ct;obtain ⟨b8,c0⟩:=i.ce;have b0:=i.en c R;rw [Y.o] at b0;have c8:(c:Int)<(a.length:Int):=by omega
  have z:=aA r;cases f with
  |zero=>
   simp at v;have y:=aA t;have d2:¬((b:Int)<(c:Int)+((1+E:Nat):Int)):=by omega
   clear r v i t C;gi_wp2
   gi_quiet (fail)
   gi_wp2
   go_end0;exact ⟨⟨_,rfl⟩,.inl ⟨d,by have:=z.o;simpa using this.symm,aJi N y.o _⟩⟩
  |succ f=>
   have D:=(vY (a.drop b) 1 f).1 (by rw [Nat.add_comm];exact C);have b4:=aDk (q:=0) D.1;rw [Nat.zero_add] at b4;have A:=uH (a.drop b) 1 f;rw [Nat.add_comm 1 f,zz] at A;have d3:(b:Int)<(c:Int)+((1+E:Nat):Int):=by omega
   have d4:(b:Int)<(a.length:Int):=by omega
   have F:b∈e:=by rw [r];simp [mM]
   have b2:d.length<e.length:=by have:=congrArg List.length r;simp [mM] at this;omega
   have b3:=i.en b (by omega);have a0:=aA i;have V:=aA A;have Z:=aA D.2;have Q:=λ(L:Nat)=>a4.o d ⟨b,F⟩ (wr.drewN L) (aJi N t L) b2
   have y:=aA v;clear r i C t v D A b3;gi_wp2
   gi_quiet (fail)
   obtain ⟨c5,d6,b6,b7,d5,a9⟩:=Q nq;clear Q;gi_wp2
   refine a9.mono ?_;rintro p a6 (⟨rfl,hJ3,hk3⟩|⟨rfl,hJx3⟩)
   ·have q:lS a6 n o x s a c:=lS.kept (W:=wr) a0.o hk3;have c3:=q.ct;obtain ⟨b9,c1⟩:=q.ce;have c4:=q.en b (by omega);generalize hst:aO (a.drop b) 1=st at *;have a3:=aA hst;have a1:=aA q;have a2:=aA hJ3;clear q hJ3 hk3 hst;gi_wp2
    go_roundw;case rel=>exact ⟨d++[⟨b,F⟩],b+st,f,by go_num,by refine z.o.trans ?_;rw [mM,a3.o,zz];simp,by have c6:=y.o;have c7:=V.o;omega,by have:=Z.o;rw [zz] at this;exact this,a1.o,a2.o⟩
    case measure=>simp [intOf];omega
   ·gi_wp2
    refine bodyPost_ret (results_none rfl _ _ _) rfl ?_;exact ⟨⟨_,rfl⟩,.inr ⟨d++[⟨b,F⟩],⟨gZ (a.drop (b+aO (a.drop b) 1)) f (b+aO (a.drop b) 1),by refine Eq.trans ?_ z.o.symm;rw [mM,zz];simp⟩,hJx3⟩⟩
end
section
open Go.RowKit Go.Shelf Go.WideMaps
theorem cE.iff{e:Gr}{c d:Nat->Nat->Prop}(g:∀a b,c a b↔d a b){a:Nat}:cE e c a↔cE e d a:=by
 have f:c=d:=by funext a b;exact propext (g a b)
 rw [f]
end
