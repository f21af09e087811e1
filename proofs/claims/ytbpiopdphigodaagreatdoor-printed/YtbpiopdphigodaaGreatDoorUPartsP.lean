import Derived.Test.YtbpiopdphigodaaGreatDoorONumP
import Derived.Shelf.RegionOpen
import Derived.OwnWalkIn
import Derived.TacticsInMore
import Derived.LoopNIn
import Derived.LoopIn
import Derived.Sort.QuietIn
open List renaming drop_drop→zz,getElem?_eq_some_iff→zy
namespace Go.Proofs.YtbpiopdphigodaaGreatDoor
set_option maxHeartbeats 2000000
set_option maxRecDepth 100000
open Go.RowKit Go.Shelf Go.WideMaps
attribute [local go_sem] Oper.semAt_some
def eT(a:List Nd):Prop:=∀(b:Nat) (c:Nd),a[b]?=some c->eM (a.drop (b+1)) (aX c)
def iK(d:List Nat)(b c:World):Prop:=∀a∈d,c.heap[a]?=b.heap[a]?
theorem iK.trans{a:List Nat}{b B c:World}(f:iK a b B)(k:iK a B c):iK a b c:=λe d=>(k e d).trans (f e d)
theorem iK.put{c:List Nat}{w:World}(d:∀k∈c,k<w.heap.size)(a:World)(l:Nat)(b f:Obj)(g:w.heap.size<=l)(_:a.heap[l]?=some b)(_:b.isCells=false)(_:b.isWalk=false):iK c a (a.putObj l f):=λk e=>World.putObj_heap_other (by have:=d k e;omega)
theorem iK.cell{b:List Nat}{a B:World}(c:iK b a B){p:Addr}{v:Value}(e:p.block∈b)(d:a.cell? p=some v):B.cell? p=some v:=(World.cell?_of_block (c _ e)).trans d
abbrev nQ(a:List Nat):={x:Nat // x∈a}
structure lJ(W:World)(ba bt tb ge:Nat)(L:List Nd)(a:Nat):Prop where
 ca:W.cell? ⟨ba,0,none⟩=some (.int .i64 a)
 ct:W.cell? ⟨bt,0,none⟩=some (.pointer (some ⟨tb,0,none⟩))
 ce:∃cap,W.cell? ⟨tb,1,none⟩=some (.slice (some ⟨ge,0,none⟩) L.length cap)
 en:∀p,p<L.length->W.cell? ⟨ge,p,none⟩=some (.int .i64 (p+aL (L.drop p) 1))
theorem lJ.kept{W g:World}{c d f e:Nat}{L:List Nd}{a:Nat}(b:lJ W c d f e L a)(k:iK [c,d,f,e] W g):lJ g c d f e L a:=by obtain ⟨i,j⟩:=b.ce;exact ⟨k.cell (by simp) b.ca,k.cell (by simp) b.ct,⟨i,k.cell (by simp) j⟩,λm l=>k.cell (by simp) (b.en m l)⟩
theorem aJ5{d:Type}{e:Nat}{a:List d->World->Prop}(i:AbidesFrom e a){b:List d}{c:World}(j:a b c)(f:Nat):a b (c.drewN f):=
 i b c _ none j ⟨rfl,rfl,rfl,Nat.le_refl _,λ_ _ _=>rfl⟩ (λk g=>by cases g)
theorem aD4(F S n o w s:Nat)(a:List Nd)(c:Nat)(k:Nd)(e:List Nat)(L:(aJ a).ch c=e)(d0:1<=F)(a7:eT a)(c8:a.length<=1000000)(u:a[c]?=some k)(l H:List (nQ e)->World->Prop)(a4:Nat)(M:AbidesFrom a4 l)
  (O:∀d g j,l d j->d.length<e.length->YieldAt Fence.wide (F-1) Tryz.prog S #[.int .i64 (g.1:Nat)] j λp m=>
   (p=.returned (.bool true)/\l (d++[g]) m/\iK [n,o,w,s] j m)\/(p=.returned (.bool false)/\H (d++[g]) m))
  (j:World) (N:lJ j n o w s a c) (a6:l [] j):CallsIn Fence.wide F Tryz.prog 171 #[.func (.yield S) #[] #[],.pointer (some ⟨n,0,none⟩),.pointer (some ⟨o,0,none⟩)] j λp m=>(∃b4,p=.returned b4)/\
   ((∃T:List (nQ e),T.map (λg=>g.1)=e/\l T m)\/(∃d:List (nQ e),d.map (λg=>g.1) <+: e/\H d m)):=by
 have Q:=(zy.1 u).1;have A:=lU u;rw [L] at A;have b0:=a7 c k u;have R:aL (a.drop c) 1=1+aL (a.drop (c+1)) (aX k):=by rw [List.drop_eq_getElem_cons Q,(zy.1 u).2];simp [aL]
 have c9:c+1+aL (a.drop (c+1)) (aX k)<=a.length:=by have:=rS (a.drop (c+1)) (aX k);simp at this;omega
 have V:=aA A;generalize hE:aL (a.drop (c+1)) (aX k)=E at *;have W:=aA hE;have a3:=aA O;have X:=aA R;clear A hE O L R;refine callsIn_of_wp Tryz.func171 rfl trivial ?_;simp only [Tryz.ntmps171,List.size_toArray,List.length_cons,List.length_nil,Nat.reduceAdd,Nat.reduceSub,Array.replicate_succ,Array.replicate_zero,List.push_toArray,List.append_toArray,List.nil_append,List.cons_append];have I:=N.ca;gi_wp2
 clear I;gi_loopw [4] (λG wr=>∃(d:List (nQ e)) (b f:Nat),G=.int .i64 b/\e=d.map (λg=>g.1)++iV (a.drop b) f b/\b+aL (a.drop b) f=c+1+E/\eM (a.drop b) f/\lJ wr n o w s a c/\l d wr)
  (λG _=>c+1+E-(intOf G).toNat)
 case atStart=>exact ⟨[],c+1,aX k,by go_num,by rw [V.o];rfl,by rw [W.o],b0,N,a6⟩
 case round=>
  obtain ⟨d,b,f,rfl,r,v,B,i,t⟩:=hrel;have I:=i.ca;have c1:=i.ct;obtain ⟨b7,b9⟩:=i.ce;have a9:=i.en c Q;rw [X.o] at a9;have c7:(c:Int)<(a.length:Int):=by omega
  have y:=aA r;cases f with
  |zero=>
   simp at v;have x:=aA t;have d1:¬((b:Int)<(c:Int)+((1+E:Nat):Int)):=by omega
   clear r v i t B;gi_wp2
   gi_quiet (fail)
   gi_wp2
   go_end0;exact ⟨⟨_,rfl⟩,.inl ⟨d,by have:=y.o;simpa using this.symm,aJ5 M x.o _⟩⟩
  |succ f=>
   have C:=(tZ (a.drop b) 1 f).1 (by rw [Nat.add_comm];exact B);have b3:=aBj (q:=0) C.1;rw [Nat.zero_add] at b3;have z:=sW (a.drop b) 1 f;rw [Nat.add_comm 1 f,zz] at z;have d2:(b:Int)<(c:Int)+((1+E:Nat):Int):=by omega
   have d3:(b:Int)<(a.length:Int):=by omega
   have D:b∈e:=by rw [r];simp [mL]
   have b1:d.length<e.length:=by have:=congrArg List.length r;simp [mL] at this;omega
   have b2:=i.en b (by omega);have Z:=aA i;have U:=aA z;have Y:=aA C.2;have P:=λ(J:Nat)=>a3.o d ⟨b,D⟩ (wr.drewN J) (aJ5 M t J) b1
   have x:=aA v;clear r i B t v C z b2;gi_wp2
   gi_quiet (fail)
   obtain ⟨c4,d5,b5,b6,d4,a8⟩:=P nq;clear P;gi_wp2
   refine a8.mono ?_;rintro p a5 (⟨rfl,hJ3,hk3⟩|⟨rfl,hJx3⟩)
   ·have q:lJ a5 n o w s a c:=lJ.kept (W:=wr) Z.o hk3;have c2:=q.ct;obtain ⟨b8,c0⟩:=q.ce;have c3:=q.en b (by omega);generalize hst:aL (a.drop b) 1=st at *;have a2:=aA hst;have a0:=aA q;have a1:=aA hJ3;clear q hJ3 hk3 hst;gi_wp2
    go_roundw;case rel=>exact ⟨d++[⟨b,D⟩],b+st,f,by go_num,by refine y.o.trans ?_;rw [mL,a2.o,zz];simp,by have c5:=x.o;have c6:=U.o;omega,by have:=Y.o;rw [zz] at this;exact this,a0.o,a1.o⟩
    case measure=>simp [intOf];omega
   ·gi_wp2
    refine bodyPost_ret (results_none rfl _ _ _) rfl ?_;exact ⟨⟨_,rfl⟩,.inr ⟨d++[⟨b,D⟩],⟨iV (a.drop (b+aL (a.drop b) 1)) f (b+aL (a.drop b) 1),by refine Eq.trans ?_ y.o.symm;rw [mL,zz];simp⟩,hJx3⟩⟩
