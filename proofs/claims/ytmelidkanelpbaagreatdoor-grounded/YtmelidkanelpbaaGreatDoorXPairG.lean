import Derived.Test.YtmelidkanelpbaaGreatDoorPUse0G
import Derived.Test.YtmelidkanelpbaaGreatDoorUWrG
import Derived.Deep.RegionHeld
open Array renaming setIfInBounds_comm→zw,replicate→zk
open Bool renaming and_eq_true→zv,not_eq_true'→zr
open List renaming getElem?_eq_getElem→zx,prefix_append→zt,prefix_refl→zq,getElem_mem→zo
namespace Go.Proofs.YtmelidkanelpbaaGreatDoor
open Region renaming ready→zz,binds→zy,noSelect_spec→zu,free_spec→zn,noSelect→zl
open Go.RowKit Go.Shelf Go.WideMaps
set_option maxHeartbeats 4000000
set_option maxRecDepth 100000
variable{a:Act}{c d:List Lt}{fuel i:Nat}{oi:Oper}{v:Value}{w:World}
section
attribute [local go_sem] Oper.semAt_some
def iZ(c:List Lt)(i:Nat):Option Nd:=(c[i]?).bind λb=>b.2[0]?
def kZ(c d:List Lt)(i e:Nat):List (Nat×Nat):=((List.range e).filter λb=>decide (iZ c i=iZ d b)).map λb=>(i,b)
def lP(c d:List Lt)(b:Nat):List (Nat×Nat):=(List.range b).flatMap λi=>kZ c d i d.length
def fJ(c d:List Lt):List (Nat×Nat):=lP c d c.length
theorem aC3(c d:List Lt)(b:Nat):lP c d (b+1)=lP c d b++kZ c d b d.length:=by simp [lP,List.range_succ]
theorem aC4(c d:List Lt)(i b:Nat):kZ c d i (b+1)=kZ c d i b++if iZ c i=iZ d b then [(i,b)] else []:=by
 unfold kZ;rw [List.range_succ,List.filter_append,List.map_append];congr 1
 by_cases e:iZ c i=iZ d b<;>simp [e]
theorem bDk(c d:List Lt){e f:Nat}(g:e<=f):lP c d e <+: lP c d f:=by
 obtain ⟨b,rfl⟩ : ∃b,f=e+b:=⟨f-e,by omega⟩;clear g;induction b with
 |zero=>exact zq _
 |succ b ih=>rw [<-Nat.add_assoc,aC3];exact ih.trans (zt _ _)
theorem bDl(c d:List Lt)(i:Nat){e f:Nat}(g:e<=f):kZ c d i e <+: kZ c d i f:=by
 obtain ⟨b,rfl⟩ : ∃b,f=e+b:=⟨f-e,by omega⟩;clear g;induction b with
 |zero=>exact zq _
 |succ b ih=>rw [<-Nat.add_assoc,aC4];exact ih.trans (zt _ _)
theorem bDm{b:Nat}(l:i<c.length)(m:b<d.length)(k:iZ c i=iZ d b):(fJ c d)[(lP c d i++kZ c d i b).length]?=some (i,b):=by have e:kZ c d i (b+1) <+: kZ c d i d.length:=bDl c d i (by omega);have f:lP c d (i+1) <+: fJ c d:=bDk c d (by omega);rw [aC4,aI k] at e;rw [aC3] at f;obtain ⟨n,g⟩:=e;obtain ⟨o,j⟩:=f;rw [<-j,<-g];simp
def bS:List TypeId:=[76,100,73]
structure qH(B:Nat)(W:World)(b1 b2:Nat)(v1 v2:Value)(c d:List Lt):Prop where
 x1:Boxed W b1 51 v1
 x2:Boxed W b2 51 v2
 m1:bR B W v1 c
 m2:bR B W v2 d
theorem qH.kept{B:Nat}{W e:World}{f g:Nat}{j l:Value}(b:qH B W f g j l c d)(k:cN bS W e):qH B e f g j l c d:=
 ⟨k.boxed b.x1 (by decide),k.boxed b.x2 (by decide),k.clause b.m1 (by decide) (by decide),k.clause b.m2 (by decide) (by decide)⟩
theorem qH.drawn{B:Nat}{b:World}{e f:Nat}{j k:Value}(l:qH B b e f j k c d)(g:Nat):qH B (b.drewN g) e f j k c d:=
 l.kept (Mv.of_below (S:=bS) (B:=0) (aR ⟨g,rfl⟩)).kps
theorem aOh{b:Nat->World->Prop}{f:Nat}(j:OwnFrom f b){e:Nat}{w:World}(k:b e w)(d:Nat):b e (w.drewN d):=
 j e w _ none k ⟨rfl,rfl,rfl,Nat.le_refl _,λ_ _ _=>rfl⟩ (λl g=>by cases g)
theorem aOi(e:i<c.length)(b:0<c[i].2.length):iZ c i=some c[i].2[0]:=by unfold iZ;rw [zx e];simp [zx b]
theorem aOj(W o p x:Nat)(b6 b7:Value)(c d:List Lt)(e3:1<=W)(t:kO c)(u:kO d)(I:World)(l:qH x I o p b6 b7 c d):sZ Fence.wide W Tryz.prog 110 #[.pointer (some ⟨o,0,none⟩),.pointer (some ⟨p,0,none⟩)] (λ(Y:Nat×Nat) args _=>args=#[.int .i64 Y.1,.int .i64 Y.2]) bS (fJ c d) I:=by
 intro e8 H b8 Q d6 R a4;have d7:=t.len;have d8:=u.len;have a0:=aA R;have G:=aA Q;clear R Q;refine callsIn_of_wp Tryz.func110 rfl trivial ?_;simp only [Tryz.ntmps110,List.size_toArray,List.length_cons,List.length_nil,Nat.reduceAdd,Nat.reduceSub,Array.replicate_succ,Array.replicate_zero,List.push_toArray,List.append_toArray,List.nil_append,List.cons_append];obtain ⟨J,M,rfl,_,m,_⟩:=l.m1.lits t;obtain ⟨L,N,rfl,_,n,_⟩:=l.m2.lits u;have P:=l.x1.cell;have Z:=aA l;clear l m n;gi_wp2
 clear P;gi_loopw [8] (λj wr=>∃i:Nat,i<=c.length/\j=.int .i64 i/\qH x wr o p (.slice J c.length M) (.slice L d.length N) c d/\H (lP c d i).length wr) (λj _=>c.length-(intOf j).toNat)
 case atStart=>exact ⟨0,Nat.zero_le _,by go_num,Z.o,by simpa [lP] using a4⟩
 case round=>
  obtain ⟨i,d9,rfl,e,g⟩:=hrel;have a3:=e.x2.cell;have k:=aA e;have f:=aA g;clear e g;by_cases r:i<c.length
  ·have a8:(i:Int)<(c.length:Int):=by omega
   gi_wp2
   clear a3;gi_loopw [13] (λj wr=>∃b:Nat,b<=d.length/\j=.int .i64 b/\qH x wr o p (.slice J c.length M) (.slice L d.length N) c d/\H (lP c d i++kZ c d i b).length wr) (λj _=>d.length-(intOf j).toNat)
   case atStart=>exact ⟨0,Nat.zero_le _,by go_num,k.o,by simpa [kZ] using f.o⟩
   case round=>
    obtain ⟨b,e0,rfl,e,g⟩:=hrel;by_cases s:b<d.length
    ·have a9:(b:Int)<(d.length:Int):=by omega
     obtain ⟨c0,c8,a1,_,m,_⟩:=e.m1.lits t;obtain ⟨c1,c9,a2,_,n,_⟩:=e.m2.lits u;cases a1;cases a2;obtain ⟨d2,e9,c2,c3,rfl,b0,e7,V⟩:=m.cell i r;obtain ⟨d3,f0,c5,c6,rfl,b1,f3,X⟩:=n.cell b s;have A:=(t.nodes (zo r)).2.1;have B:=(u.nodes (zo s)).2.1;obtain ⟨d4,f1,rfl,b2,b3⟩:=V.cell 0 A;obtain ⟨d5,f2,rfl,b4,b5⟩:=X.cell 0 B;have T:=aOi r A;have U:=aOi s B;have P:=e.x1.cell;have d0:=e.x2.cell;generalize hxe:c[i].2[0]=xe at *;generalize hye:d[b].2[0]=ye at *;obtain ⟨D,C⟩:=xe;obtain ⟨F,E⟩:=ye;simp only [Nat.zero_mul,Nat.add_zero] at b2 b3 b4 b5;have e1:(0:Int)<(c[i].2.length:Int):=by omega
     have e2:(0:Int)<(d[b].2.length:Int):=by omega
     clear hxe hye A B V X m n;generalize c[i].2.length=m1 at *;generalize d[b].2.length=m2 at *;have e5:=xO D F C E;have e4:=xM;have z:=xN (D,C) (F,E);simp only at z;have k:=aA e;have f:=aA g;clear e g b0 b1;by_cases q:(D,C)=(F,E)
     ·rw [fA q] at z;have y:Tryz.prog.follows .mixedOrders=true:=by kernel_rfl
      have S:iZ c i=iZ d b:=by rw [T,U,q]
      gi_wp2
      refine aE1 [_,_,_,_,_,_,_,_,_,_,_,_,_,_,_,_,_,_,_] [_,_,_] rfl (aKw rfl) y (by kernel_rfl) (by kernel_rfl) ?_;repeat (gi_big_quiet_step (fail))
      refine wpQuietIn_nil ?_;rintro _ ⟨nq,rfl⟩;obtain ⟨d1,f4,c4,c7,e6,a5⟩:=a0.o _ (i,b) #[.int .i64 i,.int .i64 b] (wr.drewN nq) (bDm r s S) (aOh G.o f.o nq) rfl;refine wpAnyIn_ready (rs:=[19]) (by kernel_rfl) (by simp) ?_;refine AllReadyIn.cons rfl (λK hK=>?_) AllReadyIn.nil;go_simp;refine a5.mono ?_;rintro O b9 (⟨rfl,hJ3,hk3⟩|⟨rfl,hJx3,_⟩)
      ·refine hK _ _ ?_;clear hK K;refine wpAnyIn_ready (rs:=[20]) (by kernel_rfl) (by simp) ?_;refine AllReadyIn.cons rfl (λK hK=>?_) AllReadyIn.nil;go_simp;refine hK _ _ ?_;clear hK K;refine wpAnyIn_ready (rs:=[21]) (by kernel_rfl) (by simp) ?_;refine AllReadyIn.cons rfl (λK hK=>?_) AllReadyIn.nil;go_simp;refine hK _ _ ?_;clear hK K;refine wpAnyIn_done (by kernel_rfl) ?_ _;gi_wp2
       go_roundw;case rel=>exact ⟨b+1,by omega,by go_num,(k.o.drawn nq).kept hk3.1,by rw [aC4,aI S,<-List.append_assoc,List.length_append];exact hJ3⟩
       case measure=>simp [intOf];omega
      ·refine hK _ _ ?_;clear hK K;refine wpAnyIn_ready (rs:=[20]) (by kernel_rfl) (by simp) ?_;refine AllReadyIn.cons rfl (λK hK=>?_) AllReadyIn.nil;go_simp;refine hK _ _ ?_;clear hK K;refine wpAnyIn_ready (rs:=[21]) (by kernel_rfl) (by simp) ?_;refine AllReadyIn.cons rfl (λK hK=>?_) AllReadyIn.nil;go_simp;refine hK _ _ ?_;clear hK K;refine wpAnyIn_done (by kernel_rfl) ?_ _;gi_wp2
       refine bodyPost_ret (results_none rfl _ _ _) rfl ?_;exact ⟨⟨_,rfl⟩,.inr ⟨_,hJx3⟩⟩
     ·rw [gB q] at z;have y:Tryz.prog.follows .mixedOrders=true:=by kernel_rfl
      gi_wp2
      refine aE1 [_,_,_,_,_,_,_,_,_,_,_,_,_,_,_,_,_,_,_] [_,_,_] rfl (aKw rfl) y (by kernel_rfl) (by kernel_rfl) ?_;repeat (gi_big_quiet_step (fail))
      refine wpQuietIn_nil ?_;rintro _ ⟨nq,rfl⟩;refine wpAnyIn_ready (rs:=[19]) (by kernel_rfl) (by simp) ?_;refine AllReadyIn.cons rfl (λK hK=>?_) AllReadyIn.nil;go_simp;refine ⟨λ_ _=>trivial,hK _ _ ?_⟩;clear hK K;refine wpAnyIn_ready (rs:=[20]) (by kernel_rfl) (by simp) ?_;refine AllReadyIn.cons rfl (λK hK=>?_) AllReadyIn.nil;go_simp;refine hK _ _ ?_;clear hK K;refine wpAnyIn_ready (rs:=[21]) (by kernel_rfl) (by simp) ?_;refine AllReadyIn.cons rfl (λK hK=>?_) AllReadyIn.nil;go_simp;refine hK _ _ ?_;clear hK K;refine wpAnyIn_done (by kernel_rfl) ?_ _;gi_wp2
      go_roundw;case rel=>exact ⟨b+1,by omega,by go_num,k.o.drawn nq,by rw [aC4,aH (by rw [T,U];intro O;exact q (Option.some.inj O)),List.append_nil];exact aOh G.o f.o nq⟩
      case measure=>simp [intOf];omega
    ·have a9:¬(b:Int)<(d.length:Int):=by omega
     have a7:b=d.length:=by omega
     have k:=aA e;have f:=aA g;clear e g;gi_wp2
     go_roundw;case rel=>exact ⟨i+1,by omega,by go_num,k.o,by rw [aC3,<-a7];exact f.o⟩
     case measure=>simp [intOf];omega
  ·have a8:¬(i:Int)<(c.length:Int):=by omega
   have a6:i=c.length:=by omega
   gi_wp2
   go_end0;exact ⟨⟨_,rfl⟩,.inl (by unfold fJ;rw [<-a6];exact f.o)⟩
end
theorem aOk{t D F:Nat}{f g:Int}{b e:List Nd}(j:lN t D F (aN f b++aN g e) w)(Q:aQ b 1=true)(R:aQ e 1=true)(O:∀H∈aN f b++aN g e,H.2.1.size<=140737488355328)(a9:(aN f b++aN g e).length<=1000000):Calls Tryz.prog 104 #[.pointer (some ⟨D,0,none⟩),.int .i64 ((0:Nat):Int),.int .i64 b.length] w λr E=>∃z:Bool,r=.returned (.bool z)/\Below t w E/\pZ none w E/\
   (z=true->∃b6,iF t D F b6 (aN f b++aN g e) 0 b.length [] [] E)/\(z=false->∀C:List (Int×Lt),(∀k∈C,aQ k.2.2 1=true)->¬xC ((aN f b++aN g e)++aU C) 0 b.length):=by
 obtain ⟨J,T,U,V,l⟩:=j.tm;have P:(aN f b++aN g e).map Prod.snd=b++e:=by rw [List.map_append,aBo,aBo]
 have o:((aN f b++aN g e).map Prod.snd).length=(aN f b++aN g e).length:=by simp
 have m:(aN f b++aN g e).length=b.length+e.length:=by simp
 have c6:0<b.length:=by
  cases b with
  |nil=>simp [aQ] at Q
  |cons=>simp
 have c7:0<e.length:=by
  cases e with
  |nil=>simp [aQ] at R
  |cons=>simp
 have a8:=l.toIn (by rw [mY];simp) (by simp) (by rw [o];exact a9) (λG b0=>by obtain ⟨H,b4,rfl⟩:=List.mem_map.1 b0;exact O H b4);refine (bBm t D J T U V _ ((aN f b++aN g e).map Prod.snd) _ (bI (aN f b++aN g e)) _ j.whole (aFf _) (bAl _) (bAk _) _ 0 b.length w a8 (by rw [o,m];omega) (by rw [o,m];omega)).mono ?_;rintro r E ⟨z,rfl,k⟩;have N:∀{v:Value} {G:Nat} {W:List Value},w.ownsRow t 3 1 v G W->∀(p:Nat) (u:Array Value) (q:TypeId) (x:Nat×Nat),w.heap[p]?=some (.cells u q x)->q≠3->v.ownBlock≠some p:=by
  intro v G W b1 p u q x n a4 r;obtain ⟨_,⟨rfl,_⟩|⟨c4,c2,c3,rfl,_,a7,_⟩⟩:=b1
  ·simp [Value.ownBlock] at r
  ·simp [Value.ownBlock] at r;subst r;rw [a7] at n;simp at n;exact a4 n.2.1.symm
 refine ⟨z,rfl,k.low,λp u q x n M _ _=>k.keep p (Array.getElem?_eq_some_iff.1 n).1 (N l.rl p u q x n M) (N l.rs p u q x n M),λB=>?_,λB C b3 b5=>?_⟩
 ·obtain ⟨X,Y,A,a1,I,b7,b8,b9,S,c0,c1⟩:=k.st B;have a3:(λi y=>A i=A y)=dE (aN f b++aN g e) 0 b.length:=by
   funext i y
   exact propext (S i y)
  have L:=(k.yes.1 B).2;have a2:kU (aG ((aN f b++aN g e).map Prod.snd)) (dE (aN f b++aN g e) 0 b.length):=Cl.isDown _ _;have a5:=cE.same a2 L (Cl.base (Or.inr ⟨rfl,rfl⟩));have a6:∀s,s<(aN f b++aN g e).length->cE (aG ((aN f b++aN g e).map Prod.snd)) (λi y=>A i=A y) s:=by
   intro s b2;rw [a3];rw [m] at b2;by_cases c5:s<b.length
   ·refine aMn (λ_=>Cl.refl _) j.whole (i:=0) (by rw [o,m];omega) L s (Nat.zero_le _) ?_;rw [P,List.drop_zero,yU b 1 e Q];omega
   ·refine aMn (λ_=>Cl.refl _) j.whole (i:=b.length) (by rw [o,m];omega) a5 s (by omega) ?_;have:=yU e 1 [] R;rw [List.append_nil] at this;rw [P,List.drop_left,this];omega
  refine ⟨J.ownBlock,⟨⟨J,T,U,V,X,A,a1,Y,rfl,I.toRaw l.ne l.nl l.ns,⟨j.whole,by rw [I.lf,o],by rw [I.ls,o],b7,b8,b9,S,c0,c1,by rw [m];omega,by rw [m];omega⟩,a6,aP.nil⟩,by simp,j.first.at (k.keep F j.first.lt (qX l.rl j.first) (qX l.rs j.first)),Nat.le_trans j.big k.size,j.ne,j.mlow,O⟩⟩
 ·obtain ⟨Z,a0⟩:=bC1 C b3 j.whole b5;have:=k.yes.2 ⟨Z,a0 0 (by rw [m];omega)⟩;rw [B] at this;cases this
section
variable {P:Program}{ops:Array Oper}{Q:Exit->Act->World->Prop}{md:Region.Mode}{k:Nat}{C D:World->Prop}
def kF(k:Nat)(C D:World->Prop)(b:Array Bool)(w:World):Prop:=(b.getD k true=false->C w)/\D w
def mE(P:Program)(md:Region.Mode)(ops:Array Oper)(Q:Exit->Act->World->Prop)(k:Nat)(C D:World->Prop):Nat->Array Bool->Act->World->Prop
 |0,listed,a,w=>zz md ops listed=[]/\Q .normal a w
 |fuel+1,listed,a,w=>
  (zz md ops listed=[]->Q .normal a w)/\
  ∀i∈zz md ops listed,wpOp P ops Q i (λe b=>kF k C D (listed.setIfInBounds i true) b/\mE P md ops Q k C D fuel (listed.setIfInBounds i true) e b) a w
theorem aOl:∀(fuel:Nat) (b:Array Bool) (a:Act) (w:World),mE P md ops Q k C D fuel b a w->wpAny P md ops Q fuel b a w
 |0,_,_,_,h=>h
 |fuel+1,_,_,_,h=>⟨h.1,λi g=>wpOp_mono (λe j f=>aOl fuel _ e j f.2) (h.2 i g)⟩
theorem kF.set{b:Array Bool}(i:Nat)(g:kF k C D b w):kF k C D (b.setIfInBounds i true) w:=by
 refine ⟨λe=>g.1 ?_,g.2⟩;by_cases f:i=k
 ·subst f;rcases Nat.lt_or_ge i b.size with h'|h'
  ·simp [h'] at e
  ·simp [h'] at e
 ·rwa [getD_set_ne true f] at e
theorem kF.unset{b:Array Bool}(f:i≠k)(e:kF k C D (b.setIfInBounds i true) w):kF k C D b w:=
 ⟨λg=>e.1 (by rwa [getD_set_ne true f]),e.2⟩
def vF(md:Region.Mode)(ops:Array Oper)(k i:Nat):Bool:=match ops[k]? with
 |none=>false
 |some o=>o.after.any λb=>zy md b && b.on==i
theorem bDn(e:vF md ops k i=true):∃f b,ops[k]?=some f/\b∈f.after/\zy md b=true/\b.on=i:=by
 unfold vF at e;split at e
 ·cases e
 ·rename_i f m;simp only [Array.any_eq_true',zv,beq_iff_eq] at e;obtain ⟨b,j,g,l⟩:=e;exact ⟨f,b,m,j,g,l⟩
theorem aOm{x:World->Prop}(I:ops[i]?=some oi)(a4:i≠k)(U:∀(b:Nat) (J:Oper) t s,ops[b]?=some J->J.op≠.select t s)
  (Z:∀c a w,Q (.panic c) (a.put oi.dst v) w->Q (.panic c) a w) (a0:(∀w,D w->x w)\/((∀w,C w->D w->x w)/\vF md ops k i=true)):∀(fuel:Nat) (e:Array Bool) (a:Act) (w:World),
   (∀b o,ops[b]?=some o->b≠i->e.getD b true=false->(∀f∈o.after,zy md f=true->f.on≠i)->oi.apart ops o=true)->
   i∈zz md ops e->YieldsIf P ops x oi v a->kF k C D e w->(vF md ops k i=true->e.getD k true=false)->
   mE P md ops Q k C D fuel (e.setIfInBounds i true) (a.put oi.dst v) w->mE P md ops Q k C D (fuel+1) e a w:=by
 have N:∀(E:Array Bool) (w:World),kF k C D E w->(vF md ops k i=true->E.getD k true=false)->x w:=λE w g A=>by
  rcases a0 with l|⟨l,h'⟩
  ·exact l w g.2
  ·exact l w (g.1 (A h')) g.2
 intro fuel;induction fuel with
 |zero=>
  intro e a w _ n B g q r;refine ⟨λl=>(by rw [l] at n;cases n),λb y=>?_⟩;by_cases j:b=i
  ·subst j;exact B.wpOp I (N _ _ g q) ⟨g.set _,r⟩
  ·have:=ready_mono y j;rw [r.1] at this;cases this
 |succ fuel ih=>
  intro e a w O n B g q r;refine ⟨λl=>(by rw [l] at n;cases n),λb y=>?_⟩;by_cases j:b=i
  ·subst j;exact B.wpOp I (N _ _ g q) ⟨g.set _,r⟩
  ·have m:=r.2 b (ready_mono y j);obtain ⟨R,o,z,a1⟩:=mem_ready.1 y;have S:∀f∈o.after,zy md f=true->f.on≠i:=λf H G a2=>by
    have m:=a1 f H G;have L:=(mem_ready.1 n).1;rw [a2] at m;rcases Nat.lt_or_ge i e.size with h'|h'
    ·simp [h'] at L m;rw [L] at m;cases m
    ·simp [Array.getElem?_eq_none h'] at m
   have Y:=wpOp_putIf z (O b o z j R S) (λt s=>U i oi t s I) (λt s=>U b o t s z) Z B m;have a3:∀k u,ops[k]?=some u->k≠i->(e.setIfInBounds b true).getD k true=false->
     (∀f∈u.after,zy md f=true->f.on≠i)->oi.apart ops u=true:=λk u q a6 V a7=>by
    refine O k u q a6 ?_ a7;by_cases p:b=k
    ·subst p;exact R
    ·rw [getD_set_ne true p] at V;exact V
   have a5:vF md ops k i=true->(e.setIfInBounds b true).getD k true=false:=λA=>by
    obtain ⟨J,f,T,H,G,a8⟩:=bDn A;have p:b≠k:=λp=>by
     subst p;rw [z] at T;cases T;exact S f H G a8
    rw [getD_set_ne true p];exact q A
   refine wpOp_mono (λX W F=>?_) Y;have M:kF k C D (e.setIfInBounds b true) W:=by have:=F.2.1;rw [zw _ _ (Ne.symm j)] at this;exact this.unset a4
   refine ⟨M,ih (e.setIfInBounds b true) X W a3 (ready_mono n (Ne.symm j)) F.1 M a5 ?_⟩;rw [zw _ _ j];exact F.2.2
theorem aG0{d:Option Tmp}{b:Array Bool}(g:ops[i]?=some oi)(o:oi.dst=d)(e:(vF md ops k i && (i != k) && !(b.getD k true))=true)
  (r:zl ops=true) (p:Region.free md ops b i=true) (q:(zz md ops b).contains i=true)
  (n:∀c a w,Q (.panic c) (a.put d v) w->Q (.panic c) a w) (s:YieldsIf P ops (λw=>C w/\D w) oi v a) (f:kF k C D b w)
  (j:kF k C D (b.setIfInBounds i true) w->mE P md ops Q k C D fuel (b.setIfInBounds i true) (a.put d v) w):mE P md ops Q k C D (fuel+1) b a w:=by
 subst o;simp only [zv,bne_iff_ne,ne_eq,zr] at e;exact aOm g e.1.2 (zu r) n (Or.inr ⟨λw l m=>⟨l,m⟩,e.1.1⟩) fuel b a w (zn g p) (by simpa using q) s f (λ_=>e.2) (j (f.set _))
theorem sH{d:Option Tmp}{b:Array Bool}(j:ops[i]?=some oi)(m:oi.dst=d)(f:((i != k) && !(b.getD k true))=true)
  (p:zl ops=true) (n:Region.free md ops b i=true) (o:(zz md ops b).contains i=true)
  (l:∀c a w,Q (.panic c) (a.put d v) w->Q (.panic c) a w) (q:YieldsIf P ops D oi v a) (g:kF k C D b w)
  (e:kF k C D (b.setIfInBounds i true) w->mE P md ops Q k C D fuel (b.setIfInBounds i true) (a.put d v) w):mE P md ops Q k C D (fuel+1) b a w:=by
 subst m;simp only [zv,bne_iff_ne,ne_eq,zr] at f;exact aOm j f.1 (zu p) l (Or.inl (λ_ e=>e)) fuel b a w (zn j n) (by simpa using o) q g (λ_=>f.2) (e (g.set _))
def nC(P:Program)(md:Region.Mode)(ops:Array Oper)(Q:Exit->Act->World->Prop)(k:Nat)(C D:World->Prop)(fuel:Nat)(b:Array Bool)(a:Act)(w:World)(rs:List Nat):Prop:=
 ∀i∈rs,wpOp P ops Q i (λf e=>kF k C D (b.setIfInBounds i true) e/\mE P md ops Q k C D fuel (b.setIfInBounds i true) f e) a w
theorem nC.nil{e:Array Bool}:nC P md ops Q k C D fuel e a w []:=λ_ b=>by cases b
theorem nC.cons{fuel:Nat}{e:Array Bool}{a:Act}{w:World}{i:Nat}{o:Oper}{rs:List Nat}(m:ops[i]?=some o)
  (f:∀b:Act->World->Prop,Shut (∀a w,kF k C D (e.setIfInBounds i true) w->mE P md ops Q k C D fuel (e.setIfInBounds i true) a w->b a w)->if Region.wanted o (yielded ops a.tmps)=true then Oper.wp P o a w b Q else b (a.put o.dst undef) w)
  (n:nC P md ops Q k C D fuel e a w rs):nC P md ops Q k C D fuel e a w (i::rs):=λj hj=>by
 rcases List.mem_cons.1 hj with rfl|hj
 ·exact wpOp_step m (λb hK=>f b (λa w g l=>hK a w ⟨g,l⟩))
 ·exact n j hj
theorem aG1{rs:List Nat}{b:Array Bool}(e:zz md ops b=rs)(j:rs≠[])
 (f:nC P md ops Q k C D fuel b a w rs):mE P md ops Q k C D (fuel+1) b a w:=⟨λg=>absurd (e▸g) j,e▸f⟩
theorem gA(i:Nat){fuel:Nat}{b:Array Bool}{a:Act}{w:World}{e:Oper}(l:zz md ops b=[i])(j:ops[i]?=some e)
 (g:∀f:Act->World->Prop,Shut (∀a w,kF k C D (b.setIfInBounds i true) w->mE P md ops Q k C D fuel (b.setIfInBounds i true) a w->f a w)->if Region.wanted e (yielded ops a.tmps)=true then Oper.wp P e a w f Q else f (a.put e.dst undef) w):mE P md ops Q k C D (fuel+1) b a w:=aG1 l (by simp) (nC.cons j g nC.nil)
theorem aG2{f:Array Bool}(e:zz md ops f=[])(b:Q .normal a w):∀fuel,mE P md ops Q k C D fuel f a w
 |0=>⟨e,b⟩
 |_+1=>⟨λ_=>b,by rw [e];simp⟩
theorem bDo{j:Nat}(k:Nat)(C D:World->Prop)(g:P.follows .mixedOrders=true)(e:C w.drew)(f:D w.drew)
  (b:kF k C D (zk ops.size false) w.drew->mE P .any ops Q k C D ops.size (zk ops.size false) a w.drew):(Code.region j ops true).wp P Q a w:=
 wp_region_any g (aOl _ _ _ _ (b ⟨λ_=>e,f⟩))
end
