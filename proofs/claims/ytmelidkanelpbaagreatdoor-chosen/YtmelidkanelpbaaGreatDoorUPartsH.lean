import Derived.Test.YtmelidkanelpbaaGreatDoorONumH
import Derived.Shelf.RegionOpen
import Derived.OwnWalkIn
import Derived.TacticsInMore
import Derived.LoopNIn
import Derived.LoopIn
import Derived.Sort.QuietIn
open List renaming drop_drop→zz,getElem?_eq_some_iff→zy
namespace Go.Proofs.YtmelidkanelpbaaGreatDoor
set_option maxHeartbeats 2000000
set_option maxRecDepth 100000
open Go.RowKit Go.Shelf Go.WideMaps
attribute [local go_sem] Oper.semAt_some
def eV(a:List Nd):Prop:=∀(b:Nat) (c:Nd),a[b]?=some c->eA (a.drop (b+1)) (aY c)
def jE(d:List Nat)(b c:World):Prop:=∀a∈d,c.heap[a]?=b.heap[a]?
theorem jE.trans{a:List Nat}{b B c:World}(f:jE a b B)(k:jE a B c):jE a b c:=λe d=>(k e d).trans (f e d)
theorem jE.put{c:List Nat}{w:World}(d:∀k∈c,k<w.heap.size)(a:World)(l:Nat)(b f:Obj)(g:w.heap.size<=l)(_:a.heap[l]?=some b)(_:b.isCells=false)(_:b.isWalk=false):jE c a (a.putObj l f):=λk e=>World.putObj_heap_other (by have:=d k e;omega)
theorem jE.cell{b:List Nat}{a B:World}(c:jE b a B){p:Addr}{v:Value}(e:p.block∈b)(d:a.cell? p=some v):B.cell? p=some v:=(World.cell?_of_block (c _ e)).trans d
abbrev oZ(a:List Nat):={x:Nat // x∈a}
structure mD(W:World)(ba bt tb ge:Nat)(L:List Nd)(a:Nat):Prop where
 ca:W.cell? ⟨ba,0,none⟩=some (.int .i64 a)
 ct:W.cell? ⟨bt,0,none⟩=some (.pointer (some ⟨tb,0,none⟩))
 ce:∃cap,W.cell? ⟨tb,1,none⟩=some (.slice (some ⟨ge,0,none⟩) L.length cap)
 en:∀p,p<L.length->W.cell? ⟨ge,p,none⟩=some (.int .i64 (p+aO (L.drop p) 1))
theorem mD.kept{W g:World}{c d f e:Nat}{L:List Nd}{a:Nat}(b:mD W c d f e L a)(k:jE [c,d,f,e] W g):mD g c d f e L a:=by obtain ⟨i,j⟩:=b.ce;exact ⟨k.cell (by simp) b.ca,k.cell (by simp) b.ct,⟨i,k.cell (by simp) j⟩,λm l=>k.cell (by simp) (b.en m l)⟩
theorem aMe{d:Type}{e:Nat}{a:List d->World->Prop}(i:AbidesFrom e a){b:List d}{c:World}(j:a b c)(f:Nat):a b (c.drewN f):=
 i b c _ none j ⟨rfl,rfl,rfl,Nat.le_refl _,λ_ _ _=>rfl⟩ (λk g=>by cases g)
theorem aFd(F S n o w s:Nat)(a:List Nd)(c:Nat)(k:Nd)(e:List Nat)(L:(aG a).ch c=e)(d0:1<=F)(a7:eV a)(c8:a.length<=1000000)(u:a[c]?=some k)(l H:List (oZ e)->World->Prop)(a4:Nat)(M:AbidesFrom a4 l)
  (O:∀d g j,l d j->d.length<e.length->YieldAt Fence.wide (F-1) Tryz.prog S #[.int .i64 (g.1:Nat)] j λp m=>
   (p=.returned (.bool true)/\l (d++[g]) m/\jE [n,o,w,s] j m)\/(p=.returned (.bool false)/\H (d++[g]) m))
  (j:World) (N:mD j n o w s a c) (a6:l [] j):CallsIn Fence.wide F Tryz.prog 144 #[.func (.yield S) #[] #[],.pointer (some ⟨n,0,none⟩),.pointer (some ⟨o,0,none⟩)] j λp m=>(∃b4,p=.returned b4)/\
   ((∃T:List (oZ e),T.map (λg=>g.1)=e/\l T m)\/(∃d:List (oZ e),d.map (λg=>g.1) <+: e/\H d m)):=by
 have Q:=(zy.1 u).1;have A:=lW u;rw [L] at A;have b0:=a7 c k u;have R:aO (a.drop c) 1=1+aO (a.drop (c+1)) (aY k):=by rw [List.drop_eq_getElem_cons Q,(zy.1 u).2];simp [aO]
 have c9:c+1+aO (a.drop (c+1)) (aY k)<=a.length:=by have:=tF (a.drop (c+1)) (aY k);simp at this;omega
 have V:=aA A;generalize hE:aO (a.drop (c+1)) (aY k)=E at *;have W:=aA hE;have a3:=aA O;have X:=aA R;clear A hE O L R;refine callsIn_of_wp Tryz.func144 rfl trivial ?_;simp only [Tryz.ntmps144,List.size_toArray,List.length_cons,List.length_nil,Nat.reduceAdd,Nat.reduceSub,Array.replicate_succ,Array.replicate_zero,List.push_toArray,List.append_toArray,List.nil_append,List.cons_append];have I:=N.ca;gi_wp2
 clear I;gi_loopw [4] (λG wr=>∃(d:List (oZ e)) (b f:Nat),G=.int .i64 b/\e=d.map (λg=>g.1)++gZ (a.drop b) f b/\b+aO (a.drop b) f=c+1+E/\eA (a.drop b) f/\mD wr n o w s a c/\l d wr)
  (λG _=>c+1+E-(intOf G).toNat)
 case atStart=>exact ⟨[],c+1,aY k,by go_num,by rw [V.o];rfl,by rw [W.o],b0,N,a6⟩
 case round=>
  obtain ⟨d,b,f,rfl,r,v,B,i,t⟩:=hrel;have I:=i.ca;have c1:=i.ct;obtain ⟨b7,b9⟩:=i.ce;have a9:=i.en c Q;rw [X.o] at a9;have c7:(c:Int)<(a.length:Int):=by omega
  have y:=aA r;cases f with
  |zero=>
   simp at v;have x:=aA t;have d1:¬((b:Int)<(c:Int)+((1+E:Nat):Int)):=by omega
   clear r v i t B;gi_wp2
   gi_quiet (fail)
   gi_wp2
   go_end0;exact ⟨⟨_,rfl⟩,.inl ⟨d,by have:=y.o;simpa using this.symm,aMe M x.o _⟩⟩
  |succ f=>
   have C:=(wH (a.drop b) 1 f).1 (by rw [Nat.add_comm];exact B);have b3:=aE5 (q:=0) C.1;rw [Nat.zero_add] at b3;have z:=uS (a.drop b) 1 f;rw [Nat.add_comm 1 f,zz] at z;have d2:(b:Int)<(c:Int)+((1+E:Nat):Int):=by omega
   have d3:(b:Int)<(a.length:Int):=by omega
   have D:b∈e:=by rw [r];simp [mT]
   have b1:d.length<e.length:=by have:=congrArg List.length r;simp [mT] at this;omega
   have b2:=i.en b (by omega);have Z:=aA i;have U:=aA z;have Y:=aA C.2;have P:=λ(J:Nat)=>a3.o d ⟨b,D⟩ (wr.drewN J) (aMe M t J) b1
   have x:=aA v;clear r i B t v C z b2;gi_wp2
   gi_quiet (fail)
   obtain ⟨c4,d5,b5,b6,d4,a8⟩:=P nq;clear P;gi_wp2
   refine a8.mono ?_;rintro p a5 (⟨rfl,hJ3,hk3⟩|⟨rfl,hJx3⟩)
   ·have q:mD a5 n o w s a c:=mD.kept (W:=wr) Z.o hk3;have c2:=q.ct;obtain ⟨b8,c0⟩:=q.ce;have c3:=q.en b (by omega);generalize hst:aO (a.drop b) 1=st at *;have a2:=aA hst;have a0:=aA q;have a1:=aA hJ3;clear q hJ3 hk3 hst;gi_wp2
    go_roundw;case rel=>exact ⟨d++[⟨b,D⟩],b+st,f,by go_num,by refine y.o.trans ?_;rw [mT,a2.o,zz];simp,by have c5:=x.o;have c6:=U.o;omega,by have:=Y.o;rw [zz] at this;exact this,a0.o,a1.o⟩
    case measure=>simp [intOf];omega
   ·gi_wp2
    refine bodyPost_ret (results_none rfl _ _ _) rfl ?_;exact ⟨⟨_,rfl⟩,.inr ⟨d++[⟨b,D⟩],⟨gZ (a.drop (b+aO (a.drop b) 1)) f (b+aO (a.drop b) 1),by refine Eq.trans ?_ y.o.symm;rw [mT,zz];simp⟩,hJx3⟩⟩
