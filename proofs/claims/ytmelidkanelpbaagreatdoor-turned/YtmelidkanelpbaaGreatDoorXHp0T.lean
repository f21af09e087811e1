import Derived.Test.YtmelidkanelpbaaGreatDoorONumberT
import Derived.Handy
import Derived.Deep.RegionHeld3
import Derived.Test.YtmelidkanelpbaaGreatDoorXCutT
import Derived.Shelf.RegionOpen
import Derived.OwnWalkIn
import Derived.TacticsInMore
import Derived.LoopNIn
import Derived.LoopIn
import Derived.Lib.SliceRun
open Array renaming getElem?_eq_some_iff→zz
open List renaming getElem?_eq_getElem→zw,getElem_mem→zv,findIdx_lt_length→zu,take_succ_eq_append_getElem→zt,any_eq_true→zs,length_set→zr,replicate→zq,take_take→zo,getElem_of_mem→zn,take_set_of_le→zm,filter_append→zj,prefix_append→zh,prefix_refl→zf
open Nat renaming le_refl→zx,zero_le→zp,lt_of_lt_of_le→zk
namespace Go.Proofs.YtmelidkanelpbaaGreatDoor
open _root_.Go.Proofs.Tryz renaming prog→zy
open Go.RowKit Go.Shelf Go.WideMaps
set_option maxHeartbeats 8000000
set_option maxRecDepth 100000
variable{d:List Lt}{ks:List Nat}{B cap g hp n:Nat}{v:Value}{w:World}
structure Cd where
 r:Int
 a:Int
 b:Int
 i:Int
 j:Int
 ad:Option Addr
 ln:Nat
 cp:Nat
 wt:Int
 nm:Int
 c:List Lt
def Cd.cells(x:Cd):List Value:=[.int .i64 x.r,.int .i64 x.a,.int .i64 x.b,.int .i64 x.i,.int .i64 x.j,.slice x.ad x.ln x.cp,.int .i64 x.wt,.int .i64 x.nm]
def Cd.agg(x:Cd):Value:=.agg #[.int .i64 x.r,.int .i64 x.a,.int .i64 x.b,.int .i64 x.i,.int .i64 x.j,.slice x.ad x.ln x.cp,.int .i64 x.wt,.int .i64 x.nm]
def gR(a:List Cd):List Value:=a.flatMap Cd.cells
theorem bC2:(zy.info? 73).map (λa=>(a.zero,a.size,a.bytes))=some (some (.agg #[.int .i64 0,.int .i64 0,.int .i64 0,.int .i64 0,.int .i64 0,.slice none 0 0,.int .i64 0,.int .i64 0]),8,80):=by kernel_rfl
theorem aNi(a:List Cd):(gR a).length=a.length*8:=by
 induction a with
 |nil=>rfl
 |cons x r ih=>simp [gR,Cd.cells] at ih ⊢;omega
theorem wW(b:Cd)(a:List Cd):gR (b::a)=b.cells++gR a:=rfl
theorem bC3(a b:List Cd):gR (a++b)=gR a++gR b:=by simp [gR]
theorem aBp(a:Cd):a.cells.length=8:=rfl
theorem rZ:∀(c:List Cd) (a:Nat) (e:a<c.length) (b:Nat),b<8->(gR c)[a*8+b]?=(c[a]).cells[b]?
 |[],a,e,_,_=>by simp at e
 |x::c,0,_,b,ht=>by rw [wW,List.getElem?_append_left (by rw [aBp];omega)];simp
 |x::c,a+1,e,b,ht=>by
  have:=rZ c a (by simpa using e) b ht;rw [wW,List.getElem?_append_right (by rw [aBp];omega),aBp,show (a+1)*8+b-8=a*8+b by omega,this];simp
def aBq(c:List Value)(b:Nat)(a:Cd):List Value:=(((((((c.set b (.int .i64 a.r)).set (b+1) (.int .i64 a.a)).set (b+2) (.int .i64 a.b)).set (b+3) (.int .i64 a.i)).set (b+4) (.int .i64 a.j)).set (b+5) (.slice a.ad a.ln a.cp)).set (b+6) (.int .i64 a.wt)).set (b+7) (.int .i64 a.nm)
theorem aNj:∀(b:List Cd) (a:Nat) (c:Cd),a<b.length->aBq (gR b) (a*8) c=gR (b.set a c)
 |[],a,_,h=>by simp at h
 |y::b,0,c,_=>by simp [aBq,gR,Cd.cells]
 |y::b,a+1,c,h=>by
  have:=aNj b a c (by simpa using h);rw [List.set_cons_succ,wW,wW,<-this];have e:(a+1)*8=a*8+8:=by omega
  simp only [aBq,e];simp [Cd.cells]
theorem sA{e:TypeId}{j:Nat}{i:List Value}(l:w.ownsRow B e j (.slice (some ⟨g,0,none⟩) n cap) n i)(b:Nat)(c:Value):(w.setCell ⟨g,b,none⟩ c).ownsRow B e j (.slice (some ⟨g,0,none⟩) n cap) n (i.set b c):=by
 obtain ⟨m,⟨a,_⟩|⟨x,u,k,a,o,f,p,r,t,s⟩⟩:=l
 ·cases a
 ·simp at a;obtain ⟨rfl,rfl⟩:=a;refine ⟨by simpa using m,Or.inr ⟨g,cap,k.setIfInBounds b c,rfl,o,?_,p,r,by simpa using t,?_⟩⟩
  ·have q:=(zz.1 f).1;show (w.heap.modify g _)[g]?=_;rw [Array.getElem?_eq_getElem (by rw [Array.size_modify];exact q),Array.getElem_modify_self];rw [(zz.1 f).2];rfl
  ·rw [<-s];simp [List.take_set]
structure cG(B:Nat)(w:World)(hp:Nat)(v:Value)(L:List Cd):Prop where
 box:w.heap[hp]?=some (.cells #[v,.func (.func 29) #[] #[]] 100 (0,0))
 row:w.ownsRow B 73 8 v L.length (gR L)
 base:B<=hp
theorem cG.c0{b:List Cd}(a:cG B w hp v b):w.cell? ⟨hp,0,none⟩=some v/\w.cell? ⟨hp,1,none⟩=some (.func (.func 29) #[] #[]):=⟨by simp [World.cell?,a.box],by simp [World.cell?,a.box]⟩
theorem cG.cells{a:List Cd}(e:cG B w hp v a){k:Nat}(b:k<a.length):∃g cap,v=.slice (some ⟨g,0,none⟩) a.length cap/\w.cell? ⟨g,k*8,none⟩=some (.int .i64 a[k].r)/\w.cell? ⟨g,k*8+1,none⟩=some (.int .i64 a[k].a)/\w.cell? ⟨g,k*8+2,none⟩=some (.int .i64 a[k].b)/\w.cell? ⟨g,k*8+3,none⟩=some (.int .i64 a[k].i)/\
   w.cell? ⟨g,k*8+4,none⟩=some (.int .i64 a[k].j)/\w.cell? ⟨g,k*8+5,none⟩=some (.slice a[k].ad a[k].ln a[k].cp)/\w.cell? ⟨g,k*8+6,none⟩=some (.int .i64 a[k].wt)/\w.cell? ⟨g,k*8+7,none⟩=some (.int .i64 a[k].nm):=by
 obtain ⟨j,⟨_,i⟩|⟨g,cap,f,rfl,l,m,p⟩⟩:=e.row
 ·omega
 ·have c:=e.row;have o:=aNi a;refine ⟨g,cap,rfl,?_,?_,?_,?_,?_,?_,?_,?_⟩
  ·rw [c.cellAt (k*8) (by omega)];exact rZ a k b 0 (by omega)
  ·rw [c.cellAt (k*8+1) (by omega)];exact rZ a k b 1 (by omega)
  ·rw [c.cellAt (k*8+2) (by omega)];exact rZ a k b 2 (by omega)
  ·rw [c.cellAt (k*8+3) (by omega)];exact rZ a k b 3 (by omega)
  ·rw [c.cellAt (k*8+4) (by omega)];exact rZ a k b 4 (by omega)
  ·rw [c.cellAt (k*8+5) (by omega)];exact rZ a k b 5 (by omega)
  ·rw [c.cellAt (k*8+6) (by omega)];exact rZ a k b 6 (by omega)
  ·rw [c.cellAt (k*8+7) (by omega)];exact rZ a k b 7 (by omega)
def gJ(w:World)(g a:Nat)(x:Cd):World:=(((((((w.setCell ⟨g,a,none⟩ (.int .i64 x.r)).setCell ⟨g,a+1,none⟩ (.int .i64 x.a)).setCell ⟨g,a+2,none⟩ (.int .i64 x.b)).setCell ⟨g,a+3,none⟩ (.int .i64 x.i)).setCell ⟨g,a+4,none⟩ (.int .i64 x.j)).setCell ⟨g,a+5,none⟩ (.slice x.ad x.ln x.cp)).setCell ⟨g,a+6,none⟩ (.int .i64 x.wt)).setCell ⟨g,a+7,none⟩ (.int .i64 x.nm)
theorem bC4{b:Nat}{c:TypeId}{a:List Cd}{x:Cd}(e:w.ownsRow B c 8 (.slice (some ⟨g,0,none⟩) n cap) n (gR a))(f:b<a.length):(gJ w g (b*8) x).ownsRow B c 8 (.slice (some ⟨g,0,none⟩) n cap) n (gR (a.set b x)):=by rw [<-aNj a b x f];unfold gJ aBq;exact sA (sA (sA (sA (sA (sA (sA (sA e _ _) _ _) _ _) _ _) _ _) _ _) _ _) _ _
theorem aNk(w:World)(g l:Nat)(x:Cd):w.grownBy (gJ w g l x) (some g):=by
 unfold gJ;have a:∀(e:World) (f:Nat) (v:Value),w.grownBy e (some g)->w.grownBy (e.setCell ⟨g,f,none⟩ v) (some g):=λe f v b=>by
  have c:=cM e ⟨g,f,none⟩ v;exact ⟨c.os.trans b.os,c.tape.trans b.tape,c.output.trans b.output,Nat.le_trans b.size c.size,λk i j=>(c.block k (zk i b.size) j).trans (b.block k i j)⟩
 refine a _ _ _ (a _ _ _ (a _ _ _ (a _ _ _ (a _ _ _ (a _ _ _ (a _ _ _ (a _ _ _ ?_)))))));exact ⟨rfl,rfl,rfl,zx _,λ_ _ _=>rfl⟩
theorem bC5(w:World)(g b a:Nat)(x:Cd)(c:a<b\/b+8<=a):(gJ w g b x).cell? ⟨g,a,none⟩=w.cell? ⟨g,a,none⟩:=by unfold gJ;iterate 8 rw [World.cell?_setCell_other _ _ _ _ (by intro c;simp only [Addr.mk.injEq] at c;omega)]
theorem cG.frozen{b:List Cd}(c:cG B w hp (.slice (some ⟨g,0,none⟩) n cap) b)(f:Nat):w.frozen? ⟨g,f,none⟩=false:=by
 obtain ⟨_,⟨a,_⟩|⟨k,i,j,a,l,e,_⟩⟩:=c.row
 ·cases a
 ·simp at a;obtain ⟨rfl,_⟩:=a;simp [World.frozen?,e]
def lJ(a b:Cd):Bool:=if a.wt=b.wt then decide (a.nm<b.nm) else decide (a.wt<b.wt)
theorem aNl(a b:Cd)(w:World):Calls zy 29 #[a.agg,b.agg] w λc i=>c=.returned (.bool (lJ a b))/\aB w i:=by
 unfold Cd.agg;go_enter Tryz.func29,Tryz.ntmps29;go_wp2
 ·have f:a.wt≠b.wt:=by simpa using ‹(a.wt != b.wt)=true›
  go_ret;exact ⟨by simp [lJ,f],((Below.refl _ w).alloc (zx _) _).alloc (by simp) _⟩
 ·have e:a.wt=b.wt:=by simpa using ‹(a.wt != b.wt)=false›
  go_ret;exact ⟨by simp [lJ,e],((Below.refl _ w).alloc (zx _) _).alloc (by simp) _⟩
theorem cG.below{w':World}{b:List Cd}(a:cG B w hp v b)(c:aB w w'):cG B w' hp v b:=
 ⟨(c.block _ (zz.1 a.box).1).trans a.box,bJ a.row c (zx _),a.base⟩
theorem cG.put{k:Nat}{c:List Cd}{x:Cd}(b:cG B w hp (.slice (some ⟨g,0,none⟩) n cap) c)(j:n=c.length)(i:k<c.length):cG B (gJ w g (k*8) x) hp (.slice (some ⟨g,0,none⟩) n cap) (c.set k x)/\w.grownBy (gJ w g (k*8) x) (some g):=by
 subst j;obtain ⟨_,⟨a,_⟩|⟨o,l,m,a,_,f,_⟩⟩:=b.row
 ·cases a
 ·simp at a;obtain ⟨rfl,rfl⟩:=a;have e:=aNk w g (k*8) x;refine ⟨⟨?_,?_,b.base⟩,e⟩
  ·rw [e.block hp (zz.1 b.box).1 (by
    intro a;cases a;rw [b.box] at f;cases f)]
   exact b.box
  ·have:=bC4 (x:=x) b.row i;simpa using this
theorem lK{e f i:World}{c:Option Nat}(a:e.grownBy f c)(b:f.grownBy i c):e.grownBy i c:=
 ⟨b.os.trans a.os,b.tape.trans a.tape,b.output.trans a.output,Nat.le_trans a.size b.size,λl j k=>(b.block l (zk j a.size) k).trans (a.block l j k)⟩
theorem cG.mv{w':World}{b:List Cd}(e:cG B w hp v b)(i:w.grownBy w' v.ownBlock):Mv [73] B w w':=by
 refine Mv.of_grown i (λk a=>?_);obtain ⟨_,⟨rfl,_⟩|⟨g,cap,c,rfl,f,j,_⟩⟩:=e.row
 ·cases a
 ·cases a;exact ⟨f,c,_,j,by simp⟩
def oC(a:List Cd)(b c:Nat)(e:b<a.length)(f:c<a.length):List Cd:=(a.set b a[c]).set c a[b]
theorem zI{a:List Cd}{b c:Nat}(e:b<a.length)(f:c<a.length):(oC a b c e f).length=a.length:=by simp [oC]
theorem aNm(B hp:Nat)(v:Value)(a:List Cd)(e b:Nat)(w:World)(f:cG B w hp v a)(j:e<a.length)(l:b<a.length)(V:e≠b):Calls zy 95 #[.pointer (some ⟨hp,0,none⟩),.int .i64 e,.int .i64 b] w λi p=>(∃s,i=.returned s)/\cG B p hp v (oC a e b j l)/\w.grownBy p v.ownBlock:=by
 obtain ⟨g,cap,rfl,X,Y,Z,a0,a1,a2,a3,a4⟩:=f.cells j;obtain ⟨Q,P,i,u,y,z,A,C,D,E,F⟩:=f.cells l;cases i;have O:=f.c0.1;have T:=f.frozen;have R:(e:Int)<(a.length:Int):=by omega
 have S:(b:Int)<(a.length:Int):=by omega
 have c:=λt (W:t<8)=>bC5 w g (e*8) (b*8+t) a[b] (by omega)
 have q:=(c 0 (by omega)).trans u;have G:=(c 1 (by omega)).trans y;have H:=(c 2 (by omega)).trans z;have I:=(c 3 (by omega)).trans A;have J:=(c 4 (by omega)).trans C;have L:=(c 5 (by omega)).trans D;have M:=(c 6 (by omega)).trans E;have N:=(c 7 (by omega)).trans F;clear c;unfold gJ at q G H I J L M N;simp only [Nat.add_zero] at q;have r:=aA f;clear f;go_enter Tryz.func95,Tryz.ntmps95;have U:zy.follows .mixedOrders=true:=by kernel_rfl
 go_region;go_end0;have m:=r.o.put (x:=a[b]) rfl j;have o:=m.1.put (k:=b) (x:=a[e]) (by simp) (by simpa using l);refine ⟨⟨_,rfl⟩,?_,?_⟩
 ·exact o.1.below (aS ⟨1,rfl⟩)
 ·exact lK (lK m.2 o.2) (gM (aS ⟨1,rfl⟩))
section
attribute [local go_sem] Oper.semAt_some
def iW(a:List Lt)(b:Nat):Option Nd:=(a[b]?).bind λc=>c.2[0]?
def kT(c d:List Lt)(b e:Nat):List (Nat×Nat):=((List.range e).filter λa=>decide (iW c b=iW d a)).map λa=>(b,a)
def lL(a d:List Lt)(c:Nat):List (Nat×Nat):=(List.range c).flatMap λb=>kT a d b d.length
def fI(a d:List Lt):List (Nat×Nat):=lL a d a.length
theorem aBr(a d:List Lt)(b:Nat):lL a d (b+1)=lL a d b++kT a d b d.length:=by simp [lL,List.range_succ]
theorem aBs(c d:List Lt)(a b:Nat):kT c d a (b+1)=kT c d a b++if iW c a=iW d b then [(a,b)] else []:=by
 unfold kT;rw [List.range_succ,zj,List.map_append];congr 1
 by_cases e:iW c a=iW d b<;>simp [e]
theorem bC6(c d:List Lt){b n:Nat}(e:b<=n):lL c d b <+: lL c d n:=by
 obtain ⟨a,rfl⟩ : ∃a,n=b+a:=⟨n-b,by omega⟩;clear e;induction a with
 |zero=>exact zf _
 |succ a ih=>rw [<-Nat.add_assoc,aBr];exact ih.trans (zh _ _)
theorem bC7(c d:List Lt)(e:Nat){b n:Nat}(f:b<=n):kT c d e b <+: kT c d e n:=by
 obtain ⟨a,rfl⟩ : ∃a,n=b+a:=⟨n-b,by omega⟩;clear f;induction a with
 |zero=>exact zf _
 |succ a ih=>rw [<-Nat.add_assoc,aBs];exact ih.trans (zh _ _)
theorem bC8{a:List Lt}{b c:Nat}(l:b<a.length)(m:c<d.length)(k:iW a b=iW d c):(fI a d)[(lL a d b++kT a d b c).length]?=some (b,c):=by have e:kT a d b (c+1) <+: kT a d b d.length:=bC7 a d b (by omega);have f:lL a d (b+1) <+: fI a d:=bC6 a d (by omega);rw [aBs,aI k] at e;rw [aBr] at f;obtain ⟨o,i⟩:=e;obtain ⟨p,j⟩:=f;rw [<-j,<-i];simp
def bS:List TypeId:=[76,100,73]
structure qA(B:Nat)(W:World)(b1 b2:Nat)(v1 v2:Value)(c d:List Lt):Prop where
 x1:Boxed W b1 51 v1
 x2:Boxed W b2 51 v2
 m1:bR B W v1 c
 m2:bR B W v2 d
theorem qA.kept{W b:World}{c e:Nat}{i j:Value}{f:List Lt}(a:qA B W c e i j f d)(k:cN bS W b):qA B b c e i j f d:=
 ⟨k.boxed a.x1 (by decide),k.boxed a.x2 (by decide),k.clause a.m1 (by decide) (by decide),k.clause a.m2 (by decide) (by decide)⟩
theorem qA.drawn{a:World}{b c:Nat}{i j:Value}{e:List Lt}(k:qA B a b c i j e d)(f:Nat):qA B (a.drewN f) b c i j e d:=
 k.kept (Mv.of_below (S:=bS) (B:=0) (aS ⟨f,rfl⟩)).kps
theorem aNn{a:Nat->World->Prop}{c:Nat}(f:OwnFrom c a){b:Nat}{w:World}(i:a b w)(d:Nat):a b (w.drewN d):=
 f b w _ none i ⟨rfl,rfl,rfl,zx _,λ_ _ _=>rfl⟩ (λj e=>by cases e)
theorem aNo{a:List Lt}{b:Nat}(e:b<a.length)(c:0<a[b].2.length):iW a b=some a[b].2[0]:=by unfold iW;rw [zw e];simp [zw c]
theorem aNp(n p q B:Nat)(b6 b7:Value)(a d:List Lt)(e3:1<=n)(u:kM a)(x:kM d)(J:World)(l:qA B J p q b6 b7 a d):sX Fence.wide n zy 110 #[.pointer (some ⟨p,0,none⟩),.pointer (some ⟨q,0,none⟩)] (λ(Y:Nat×Nat) args _=>args=#[.int .i64 Y.1,.int .i64 Y.2]) bS (fI a d) J:=by
 intro e8 I b8 R d6 S a4;have d7:=u.len;have d8:=x.len;have a0:=aA S;have H:=aA R;clear S R;refine callsIn_of_wp Tryz.func110 rfl trivial ?_;simp only [Tryz.ntmps110,List.size_toArray,List.length_cons,List.length_nil,Nat.reduceAdd,Nat.reduceSub,Array.replicate_succ,Array.replicate_zero,List.push_toArray,List.append_toArray,List.nil_append,List.cons_append];obtain ⟨L,N,rfl,_,m,_⟩:=l.m1.lits u;obtain ⟨M,O,rfl,_,o,_⟩:=l.m2.lits x;have Q:=l.x1.cell;have Z:=aA l;clear l m o;gi_wp2
 clear Q;gi_loopw [8] (λj wr=>∃b:Nat,b<=a.length/\j=.int .i64 b/\qA B wr p q (.slice L a.length N) (.slice M d.length O) a d/\I (lL a d b).length wr) (λj _=>a.length-(intOf j).toNat)
 case atStart=>exact ⟨0,zp _,by go_num,Z.o,by simpa [lL] using a4⟩
 case round=>
  obtain ⟨b,d9,rfl,e,i⟩:=hrel;have a3:=e.x2.cell;have k:=aA e;have f:=aA i;clear e i;by_cases s:b<a.length
  ·have a8:(b:Int)<(a.length:Int):=by omega
   gi_wp2
   clear a3;gi_loopw [13] (λj wr=>∃c:Nat,c<=d.length/\j=.int .i64 c/\qA B wr p q (.slice L a.length N) (.slice M d.length O) a d/\I (lL a d b++kT a d b c).length wr) (λj _=>d.length-(intOf j).toNat)
   case atStart=>exact ⟨0,zp _,by go_num,k.o,by simpa [kT] using f.o⟩
   case round=>
    obtain ⟨c,e0,rfl,e,i⟩:=hrel;by_cases t:c<d.length
    ·have a9:(c:Int)<(d.length:Int):=by omega
     obtain ⟨c0,c8,a1,_,m,_⟩:=e.m1.lits u;obtain ⟨c1,c9,a2,_,o,_⟩:=e.m2.lits x;cases a1;cases a2;obtain ⟨d2,e9,c2,c3,rfl,b0,e7,W⟩:=m.cell b s;obtain ⟨d3,f0,c5,c6,rfl,b1,f3,X⟩:=o.cell c t;have A:=(u.nodes (zv s)).2.1;have C:=(x.nodes (zv t)).2.1;obtain ⟨d4,f1,rfl,b2,b3⟩:=W.cell 0 A;obtain ⟨d5,f2,rfl,b4,b5⟩:=X.cell 0 C;have U:=aNo s A;have V:=aNo t C;have Q:=e.x1.cell;have d0:=e.x2.cell;generalize hxe:a[b].2[0]=xe at *;generalize hye:d[c].2[0]=ye at *;obtain ⟨E,D⟩:=xe;obtain ⟨G,F⟩:=ye;simp only [Nat.zero_mul,Nat.add_zero] at b2 b3 b4 b5;have e1:(0:Int)<(a[b].2.length:Int):=by omega
     have e2:(0:Int)<(d[c].2.length:Int):=by omega
     clear hxe hye A C W X m o;generalize a[b].2.length=m1 at *;generalize d[c].2.length=m2 at *;have e5:=xH E G D F;have e4:=xF;have z:=xG (E,D) (G,F);simp only at z;have k:=aA e;have f:=aA i;clear e i b0 b1;by_cases r:(E,D)=(G,F)
     ·rw [eZ r] at z;have y:zy.follows .mixedOrders=true:=by kernel_rfl
      have T:iW a b=iW d c:=by rw [U,V,r]
      gi_wp2
      refine aFm [_,_,_,_,_,_,_,_,_,_,_,_,_,_,_,_,_,_,_] [_,_,_] rfl (aNf rfl) y (by kernel_rfl) (by kernel_rfl) ?_;repeat (gi_big_quiet_step (fail))
      refine wpQuietIn_nil ?_;rintro _ ⟨nq,rfl⟩;obtain ⟨d1,f4,c4,c7,e6,a5⟩:=a0.o _ (b,c) #[.int .i64 b,.int .i64 c] (wr.drewN nq) (bC8 s t T) (aNn H.o f.o nq) rfl;refine wpAnyIn_ready (rs:=[19]) (by kernel_rfl) (by simp) ?_;refine AllReadyIn.cons rfl (λK hK=>?_) AllReadyIn.nil;go_simp;refine a5.mono ?_;rintro P b9 (⟨rfl,hJ3,hk3⟩|⟨rfl,hJx3,_⟩)
      ·refine hK _ _ ?_;clear hK K;refine wpAnyIn_ready (rs:=[20]) (by kernel_rfl) (by simp) ?_;refine AllReadyIn.cons rfl (λK hK=>?_) AllReadyIn.nil;go_simp;refine hK _ _ ?_;clear hK K;refine wpAnyIn_ready (rs:=[21]) (by kernel_rfl) (by simp) ?_;refine AllReadyIn.cons rfl (λK hK=>?_) AllReadyIn.nil;go_simp;refine hK _ _ ?_;clear hK K;refine wpAnyIn_done (by kernel_rfl) ?_ _;gi_wp2
       go_roundw;case rel=>exact ⟨c+1,by omega,by go_num,(k.o.drawn nq).kept hk3.1,by rw [aBs,aI T,<-List.append_assoc,List.length_append];exact hJ3⟩
       case measure=>simp [intOf];omega
      ·refine hK _ _ ?_;clear hK K;refine wpAnyIn_ready (rs:=[20]) (by kernel_rfl) (by simp) ?_;refine AllReadyIn.cons rfl (λK hK=>?_) AllReadyIn.nil;go_simp;refine hK _ _ ?_;clear hK K;refine wpAnyIn_ready (rs:=[21]) (by kernel_rfl) (by simp) ?_;refine AllReadyIn.cons rfl (λK hK=>?_) AllReadyIn.nil;go_simp;refine hK _ _ ?_;clear hK K;refine wpAnyIn_done (by kernel_rfl) ?_ _;gi_wp2
       refine bodyPost_ret (results_none rfl _ _ _) rfl ?_;exact ⟨⟨_,rfl⟩,.inr ⟨_,hJx3⟩⟩
     ·rw [fZ r] at z;have y:zy.follows .mixedOrders=true:=by kernel_rfl
      gi_wp2
      refine aFm [_,_,_,_,_,_,_,_,_,_,_,_,_,_,_,_,_,_,_] [_,_,_] rfl (aNf rfl) y (by kernel_rfl) (by kernel_rfl) ?_;repeat (gi_big_quiet_step (fail))
      refine wpQuietIn_nil ?_;rintro _ ⟨nq,rfl⟩;refine wpAnyIn_ready (rs:=[19]) (by kernel_rfl) (by simp) ?_;refine AllReadyIn.cons rfl (λK hK=>?_) AllReadyIn.nil;go_simp;refine ⟨λ_ _=>trivial,hK _ _ ?_⟩;clear hK K;refine wpAnyIn_ready (rs:=[20]) (by kernel_rfl) (by simp) ?_;refine AllReadyIn.cons rfl (λK hK=>?_) AllReadyIn.nil;go_simp;refine hK _ _ ?_;clear hK K;refine wpAnyIn_ready (rs:=[21]) (by kernel_rfl) (by simp) ?_;refine AllReadyIn.cons rfl (λK hK=>?_) AllReadyIn.nil;go_simp;refine hK _ _ ?_;clear hK K;refine wpAnyIn_done (by kernel_rfl) ?_ _;gi_wp2
      go_roundw;case rel=>exact ⟨c+1,by omega,by go_num,k.o.drawn nq,by rw [aBs,aH (by rw [U,V];intro P;exact r (Option.some.inj P)),List.append_nil];exact aNn H.o f.o nq⟩
      case measure=>simp [intOf];omega
    ·have a9:¬(c:Int)<(d.length:Int):=by omega
     have a7:c=d.length:=by omega
     have k:=aA e;have f:=aA i;clear e i;gi_wp2
     go_roundw;case rel=>exact ⟨b+1,by omega,by go_num,k.o,by rw [aBr,<-a7];exact f.o⟩
     case measure=>simp [intOf];omega
  ·have a8:¬(b:Int)<(a.length:Int):=by omega
   have a6:b=a.length:=by omega
   gi_wp2
   go_end0;exact ⟨⟨_,rfl⟩,.inl (by unfold fI;rw [<-a6];exact f.o)⟩
end
def dN(B:Nat)(w:World)(v:Value)(ks:List Nat):Prop:=w.ownsRow B 3 1 v ks.length (ks.map λa=>Value.int .i64 (a:Nat))
theorem dN.cell{a:Option Addr}(c:dN B w (.slice a n cap) ks){i:Nat}(e:i<ks.length):∃g,a=some ⟨g,0,none⟩/\w.cell? ⟨g,i,none⟩=some (.int .i64 (ks[i]:Nat)):=by
 have f:w.ownsRow B 3 1 (.slice a n cap) ks.length (ks.map λk=>Value.int .i64 (k:Nat)):=c;obtain ⟨_,⟨_,b⟩|⟨g,j,l,b,_⟩⟩:=c
 ·omega
 ·simp at b;refine ⟨g,b.1,?_⟩;obtain ⟨rfl,rfl,rfl⟩:=b;rw [f.cellAt i (by simpa using e)];simp [e]
theorem dN.shape(b:dN B w v ks):∃a cap,v=.slice a ks.length cap:=aZ b
def oW(p:Nat->Bool)(ks:List Nat):Int:=if ks.findIdx p<ks.length then (ks.findIdx p:Nat) else -1
theorem aNq{p:Nat->Bool}{a:Nat}(e:a<ks.length)(i:p ks[a]=true)(j:∀b (c:b<a),p (ks[b]'(by omega))=false):oW p ks=(a:Nat):=by have f:ks.findIdx p=a:=(List.findIdx_eq e).2 ⟨i,λb c=>by simpa using j b c⟩;unfold oW;rw [f,aI e]
theorem aFn{p:Nat->Bool}(e:∀a (b:a<ks.length),p ks[a]=false):oW p ks=-1:=by
 have c:ks.findIdx p=ks.length:=List.findIdx_eq_length.2 (λi f=>by
  obtain ⟨a,b,rfl⟩:=zn f;exact e a b)
 unfold oW;rw [c,aH (by omega)]
theorem bC9{p:Nat->Bool}:decide (0<=oW p ks)=ks.any p:=by
 unfold oW;split
 ·rename_i a;rw [show decide (0<=((ks.findIdx p:Nat):Int))=true by simp];rw [zu] at a;exact (zs.2 a).symm
 ·rename_i a;rw [zu] at a;have:ks.any p=false:=by
   rw [Bool.eq_false_iff];exact λb=>a (zs.1 b)
  rw [this];rfl
def aNr(w:World)(c e:Nat)(p:Nat->Bool)(ks:List Nat):Prop:=∀b∈ks,∀a,aB w a->Calls zy 75 #[.int .i64 (b:Nat),.pointer (some ⟨c,0,none⟩),.pointer (some ⟨e,0,none⟩)] a λf i=>f=.returned (.bool (p b))/\aB a i
theorem bCa(B C D:Nat)(p:Nat->Bool)(A:Option Addr)(cap:Nat)(ks:List Nat)(w:World)(f:dN B w (.slice A ks.length cap) ks)(R:ks.length<=1000000)(G:aNr w C D p ks):Calls zy 79 #[.slice A ks.length cap,.func (.func 75) #[] #[.pointer (some ⟨C,0,none⟩),.pointer (some ⟨D,0,none⟩)]] w λs L=>s=.returned (.int .i64 (oW p ks))/\aB w L:=by
 have I:=aA G;have H:=aA f;clear G f;go_enter Tryz.func79,Tryz.ntmps79;go_wp2;go_loopw [8] (λy wr=>∃b:Nat,b<=ks.length/\y=.int .i64 b/\(∀a (e:a<ks.length),a<b->p ks[a]=false)/\aB w wr) (λy _=>ks.length-(intOf y).toNat);case atStart=>exact ⟨0,zp _,rfl,λa _ f=>by omega,Below.refl _ _⟩
 case round=>
  obtain ⟨b,O,rfl,F,c⟩:=hrel;have q:=aA F;have m:=aA c;clear F;by_cases x:b<ks.length
  ·obtain ⟨g,rfl,t⟩:=H.o.cell x;have J:=aC c t;have Q:(b:Int)<(ks.length:Int):=by omega
   obtain ⟨l,k⟩ : ∃l,ks[b]=l:=⟨_,rfl⟩;rw [k] at t J;have j:=aA (I.o l (by rw [<-k];exact zv x) wr c);have z:=aA k;have E:=c.size;clear t k c;cases hp:p l
   ·rw [hp] at j;have r:=aA hp;clear hp;go_wp2_with (first
     |(go_at_call 75;refine (aD j).mono ?_;rintro s M ⟨rfl,i⟩;have o:=aA (m.o.trans (i.mono E));clear i)
     |go_in)
    go_roundw;case rel=>exact ⟨b+1,by omega,by go_num,λa e N=>by
     rcases (show a<b\/a=b by omega) with f|rfl
     ·exact q.o a e f
     ·rw [z.o];exact r.o,o.o⟩
    case measure=>simp [intOf];omega
   ·rw [hp] at j;have r:=aA hp;clear hp;go_wp2_with (first
     |(go_at_call 75;refine (aD j).mono ?_;rintro s M ⟨rfl,i⟩;have o:=aA (m.o.trans (i.mono E));clear i)
     |go_in)
    go_ret;have u:=aNq x (by rw [z.o];exact r.o) (λa e=>q.o a (by omega) e);exact ⟨by rw [u];rfl,o.o⟩
  ·have P:b=ks.length:=by omega
   clear c;go_wp2;go_ret;have u:=aFn (λa e=>q.o a e (by omega));exact ⟨by rw [u];rfl,m.o⟩
theorem bCb(B b c:Nat)(p:Nat->Bool)(a:Option Addr)(cap:Nat)(ks:List Nat)(w:World)(f:dN B w (.slice a ks.length cap) ks)(s:ks.length<=1000000)(k:aNr w b c p ks):Calls zy 74 #[.slice a ks.length cap,.func (.func 75) #[] #[.pointer (some ⟨b,0,none⟩),.pointer (some ⟨c,0,none⟩)]] w λe t=>e=.returned (.bool (ks.any p))/\aB w t:=by
 have l:=aA (bCa B b c p a cap ks w f s k);have i:=bC9 (p:=p) (ks:=ks);clear f k;generalize oW p ks=r at *;generalize ks.any p=q at *;have m:=aA i;clear i;go_enter Tryz.func74,Tryz.ntmps74;go_wp2_with (go_at_call 79;refine (aD l).mono ?_;rintro e u ⟨rfl,j⟩;have o:=aA j;clear j);go_ret;exact ⟨by rw [<-m.o];rfl,o.o⟩
def aNs(w:World)(c e:Nat)(i:Nat->Bool)(ks:List Nat):Prop:=∀b∈ks,∀a,aB w a->Calls zy 50 #[.int .i64 (b:Nat),.pointer (some ⟨c,0,none⟩),.pointer (some ⟨e,0,none⟩)] a λf j=>f=.returned (.bool (i b))/\aB a j
theorem aNt(B C D:Nat)(p:Nat->Bool)(A:Option Addr)(cap:Nat)(ks:List Nat)(w:World)(f:dN B w (.slice A ks.length cap) ks)(R:ks.length<=1000000)(G:aNs w C D p ks):Calls zy 79 #[.slice A ks.length cap,.func (.func 50) #[] #[.pointer (some ⟨C,0,none⟩),.pointer (some ⟨D,0,none⟩)]] w λt L=>t=.returned (.int .i64 (oW p ks))/\aB w L:=by
 have I:=aA G;have H:=aA f;clear G f;go_enter Tryz.func79,Tryz.ntmps79;go_wp2;go_loopw [8] (λi wr=>∃b:Nat,b<=ks.length/\i=.int .i64 b/\(∀a (e:a<ks.length),a<b->p ks[a]=false)/\aB w wr) (λi _=>ks.length-(intOf i).toNat);case atStart=>exact ⟨0,zp _,rfl,λa _ f=>by omega,Below.refl _ _⟩
 case round=>
  obtain ⟨b,O,rfl,F,c⟩:=hrel;have r:=aA F;have o:=aA c;clear F;by_cases y:b<ks.length
  ·obtain ⟨g,rfl,u⟩:=H.o.cell y;have J:=aC c u;have Q:(b:Int)<(ks.length:Int):=by omega
   obtain ⟨m,l⟩ : ∃m,ks[b]=m:=⟨_,rfl⟩;rw [l] at u J;have k:=aA (I.o m (by rw [<-l];exact zv y) wr c);have z:=aA l;have E:=c.size;clear u l c;cases hp:p m
   ·rw [hp] at k;have s:=aA hp;clear hp;go_wp2_with (first
     |(go_at_call 50;refine (aD k).mono ?_;rintro t M ⟨rfl,j⟩;have q:=aA (o.o.trans (j.mono E));clear j)
     |go_in)
    go_roundw;case rel=>exact ⟨b+1,by omega,by go_num,λa e N=>by
     rcases (show a<b\/a=b by omega) with f|rfl
     ·exact r.o a e f
     ·rw [z.o];exact s.o,q.o⟩
    case measure=>simp [intOf];omega
   ·rw [hp] at k;have s:=aA hp;clear hp;go_wp2_with (first
     |(go_at_call 50;refine (aD k).mono ?_;rintro t M ⟨rfl,j⟩;have q:=aA (o.o.trans (j.mono E));clear j)
     |go_in)
    go_ret;have x:=aNq y (by rw [z.o];exact s.o) (λa e=>r.o a (by omega) e);exact ⟨by rw [x];rfl,q.o⟩
  ·have P:b=ks.length:=by omega
   clear c;go_wp2;go_ret;have x:=aFn (λa e=>r.o a e (by omega));exact ⟨by rw [x];rfl,o.o⟩
theorem dN.set(b:dN B w (.slice (some ⟨g,0,none⟩) n cap) ks)(c:n=ks.length)(a x:Nat):dN B (w.setCell ⟨g,a,none⟩ (.int .i64 (x:Nat))) (.slice (some ⟨g,0,none⟩) n cap) (ks.set a x)/\w.grownBy (w.setCell ⟨g,a,none⟩ (.int .i64 (x:Nat))) (some g):=by subst c;have:=sA (w:=w) b a (.int .i64 (x:Nat));refine ⟨?_,cM w ⟨g,a,none⟩ _⟩;unfold dN;rw [zr,List.map_set];exact this
theorem dN.take(c:dN B w (.slice (some ⟨g,0,none⟩) n cap) ks){m:Nat}(s:m<=ks.length):dN B w (.slice (some ⟨g,0,none⟩) m cap) (ks.take m):=by
 obtain ⟨q,⟨a,_⟩|⟨p,o,b,a,e,f,r,j,l,k⟩⟩:=c
 ·cases a
 ·simp at a;obtain ⟨rfl,_,rfl⟩:=a;have i:(ks.take m).length=m:=by simp;omega
  unfold dN;rw [i];refine ⟨by simp;omega,Or.inr ⟨g,cap,b,rfl,e,f,by omega,j,l,?_⟩⟩;rw [List.map_take,<-k,zo];congr 1
  omega
theorem dN.cleared{B:Nat}{g n cap:Nat}:∀(m a:Nat) (w:World) (ks:List Nat),dN B w (.slice (some ⟨g,0,none⟩) n cap) ks->n=ks.length->
  ∃b,dN B (w.setCells g a (zq m (.int .i64 0))) (.slice (some ⟨g,0,none⟩) n cap) b/\b.length=ks.length/\b.take a=ks.take a/\w.grownBy (w.setCells g a (zq m (.int .i64 0))) (some g)
 |0,a,w,ks,h,_=>⟨ks,h,rfl,rfl,⟨rfl,rfl,rfl,zx _,λ_ _ _=>rfl⟩⟩
 |m+1,a,w,ks,h,hn=>by
  obtain ⟨c,e⟩:=h.set hn a 0;obtain ⟨b,f,i,j,k⟩:=dN.cleared m (a+1) _ _ c (by rw [zr];exact hn);refine ⟨b,f,by rw [i,zr],?_,lK e k⟩;have:=congrArg (List.take a) j;rw [zo,zo,Nat.min_eq_left (Nat.le_succ a),zm (zx _)] at this;exact this
def bCc(w:World)(g c e:Nat)(p:Nat->Bool)(ks:List Nat):Prop:=∀b∈ks,∀a,w.grownBy a (some g)->Calls zy 50 #[.int .i64 (b:Nat),.pointer (some ⟨c,0,none⟩),.pointer (some ⟨e,0,none⟩)] a λf i=>f=.returned (.bool (p b))/\aB a i
theorem aNu{p:Nat->Bool}{a:Nat}(c:a<ks.length):(ks.take (a+1)).filter (λb=>!p b)=(ks.take a).filter (λb=>!p b)++if p ks[a] then [] else [ks[a]]:=by rw [zt c,zj];cases h:p ks[a]<;>simp [h]
theorem bCd(B c e:Nat)(b:Nat->Bool)(a:Option Addr)(cap:Nat)(ks:List Nat)(w:World)(k:dN B w (.slice a ks.length cap) ks)(r:ks.length<=1000000)(o:aNs w c e b ks)(f:ks.any b=false):Calls zy 49 #[.slice a ks.length cap,.func (.func 50) #[] #[.pointer (some ⟨c,0,none⟩),.pointer (some ⟨e,0,none⟩)]] w λj s=>j=.returned (.slice a ks.length cap)/\aB w s:=by
 have i:=aA (aNt B c e b a cap ks w k r o);have m:oW b ks=-1:=aFn (λt q=>by
  rw [Bool.eq_false_iff];intro hp;rw [zs.2 ⟨_,zv q,hp⟩] at f;cases f)
 rw [m] at i;clear k o f m;go_enter Tryz.func49,Tryz.ntmps49;go_wp2_with (first
  |(go_at_call 79;refine (aD i).mono ?_;rintro j u ⟨rfl,l⟩;have p:=aA l;clear l)
  |go_in)
 go_ret;exact ⟨rfl,p.o⟩
theorem bCe(B I J:Nat)(e:Nat->Bool)(g cap:Nat)(ks:List Nat)(w:World)(z:dN B w (.slice (some ⟨g,0,none⟩) ks.length cap) ks)(d3:ks.length<=1000000)(O:bCc w g I J e ks)(b2:ks.any e=true):Calls zy 49 #[.slice (some ⟨g,0,none⟩) ks.length cap,.func (.func 50) #[] #[.pointer (some ⟨I,0,none⟩),.pointer (some ⟨J,0,none⟩)]] w λb b6=>b=.returned (.slice (some ⟨g,0,none⟩) (ks.filter λf=>!e f).length cap)/\dN B b6 (.slice (some ⟨g,0,none⟩) (ks.filter λf=>!e f).length cap) (ks.filter λf=>!e f)/\w.grownBy b6 (some g):=by
 have U:=aA (aNt B I J e _ cap ks w z d3 (λf d2 u Q=>O f d2 u (gM Q)));have M:ks.findIdx e<ks.length:=zu.2 (zs.1 b2);obtain ⟨i,E⟩ : ∃i,ks.findIdx e=i:=⟨_,rfl⟩;have a5:oW e ks=(i:Nat):=by unfold oW;rw [aI M,E]
 rw [E] at M;have b0:e ks[i]=true:=by have:=List.findIdx_getElem (xs:=ks) (p:=e) (w:=by omega);simpa [E] using this
 have a4:(ks.take i).filter (λf=>!e f)=ks.take i:=by
  rw [List.filter_eq_self];intro o q;obtain ⟨c,a8,rfl⟩:=zn q;have e7:c<i:=by simp at a8;omega
  have:=List.not_of_lt_findIdx (xs:=ks) (p:=e) (i:=c) (by omega);rw [List.getElem_take];simpa using this
 have b1:(ks.take (i+1)).filter (λf=>!e f)=ks.take i:=by rw [aNu M,a4,aI b0,List.append_nil]
 rw [a5] at U;have e1:ks.length<=cap:=by
  obtain ⟨_,⟨b,_⟩|⟨s,a0,a1,b,_,_,C,_⟩⟩:=z
  ·cases b
  ·simp at b;omega
 have c3:=aA b1;have c0:=aA z;have c2:=aA O;have f0:((i:Int)==-1)=false:=by rw [beq_eq_false_iff_ne];omega
 clear z O b2 a5 E b0 a4 b1;go_enter Tryz.func49,Tryz.ntmps49;go_wp2_with (first
  |(go_at_call 79;refine (aD U).mono ?_;rintro b f2 ⟨rfl,a3⟩;have V:=aA a3;clear a3)
  |go_in)
 have e9:(i:Int)<(ks.length:Int):=by omega
 go_loopw [5,6] (λd5 R wr=>∃(a c:Nat) (j:List Nat),d5=.int .i64 a/\R=.int .i64 c/\c<=ks.length/\a<c/\j.length=ks.length/\dN B wr (.slice (some ⟨g,0,none⟩) ks.length cap) j/\j.take a=(ks.take c).filter (λf=>!e f)/\(∀l,c<=l->j[l]?=ks[l]?)/\w.grownBy wr (some g)) (λ_ R _=>ks.length-(intOf R).toNat);case atStart=>exact ⟨i,i+1,ks,rfl,by simp,by omega,by omega,rfl,bJ c0.o V.o (zx _),c3.o.symm,λ_ _=>rfl,gM V.o⟩
 case round=>
  obtain ⟨a,c,j,rfl,rfl,a8,e5,A,m,k,F,t⟩:=hrel;by_cases N:c<ks.length
  ·obtain ⟨o,q⟩ : ∃o,ks[c]=o:=⟨_,rfl⟩;have a2:j[c]'(by omega)=o:=by
    have:=F c (zx _);rw [zw (by omega),zw N,q] at this;exact Option.some.inj this
   obtain ⟨s,b,C⟩:=m.cell (i:=c) (by omega);cases b;rw [a2] at C;obtain ⟨b7,L⟩ : ∃b7:Nat,wr.cell? ⟨g,a,none⟩=some (.int .i64 (b7:Nat)):=by obtain ⟨s,b,L⟩:=m.cell (i:=a) (by omega);cases b;exact ⟨_,L⟩
   have x:=aA (c2.o o (by rw [<-q];exact zv N) wr t);have P:=aNu (p:=e) N;rw [q] at P;have d1:(c:Int)<(ks.length:Int):=by omega
   have e4:(a:Int)<(ks.length:Int):=by omega
   have W:=aA m;have Z:=aA k;have X:=aA F;have y:=aA t;have Y:=aA P;have H:=aA A;have a7:∀u,wr.grownBy u none->u.frozen? ⟨g,a,none⟩=false:=λu Q=>by
    obtain ⟨_,⟨b,_⟩|⟨s,a0,a1,b,_,D,_⟩⟩:=m
    ·cases b
    ·simp at b;obtain ⟨rfl,_⟩:=b;have:=Q.block g (zz.1 D).1 (by simp);simp [World.frozen?,this,D]
   have b9:=aA a7;clear m k F t P a2 q A a7;cases hp:e o
   ·rw [hp] at x;have G:=aA hp;clear hp;go_wp2_with (first
     |(go_at_call 50;refine (aD x).mono ?_;rintro b T ⟨rfl,p⟩;have d7:=aC p L;have d8:=b9.o T (gM p);have r:=aA p;clear p)
     |go_in)
    go_roundw;case rel=>
     have c6:dN B T (.slice (some ⟨g,0,none⟩) ks.length cap) j:=bJ W.o r.o (zx _);obtain ⟨c7,c9⟩:=c6.set H.o.symm a o;have c8:=H.o;refine ⟨a+1,c+1,j.set a o,by go_num,by go_num,by omega,by omega,by rw [zr];exact c8,c7,?_,λl k=>?_,lK y.o (lK (gM r.o) c9)⟩
     ·rw [Y.o,G.o,<-Z.o,zt (by simp;omega),zm (zx _)];simp
     ·rw [List.getElem?_set_ne (by omega)];exact X.o l (by omega)
    case measure=>simp [intOf];omega
   ·rw [hp] at x;have G:=aA hp;clear hp;go_wp2_with (first
     |(go_at_call 50;refine (aD x).mono ?_;rintro b T ⟨rfl,p⟩;have r:=aA p;clear p)
     |go_in)
    go_roundw;case rel=>
     refine ⟨a,c+1,j,rfl,by go_num,by omega,by omega,H.o,bJ W.o r.o (zx _),?_,λl k=>X.o l (by omega),lK y.o (gM r.o)⟩;rw [Y.o,G.o,<-Z.o];simp
    case measure=>simp [intOf];omega
  ·have d0:c=ks.length:=by omega
   rw [d0,List.take_length] at k;have a9:(ks.filter λf=>!e f).length=a:=by rw [<-k,List.length_take];omega
   have e2:∀S,(Builtin.clear_ #[28] S #[.slice (some ⟨g,a,none⟩) (ks.length-a) (cap-a)]).run zy wr=.ok (.tuple #[]) (wr.setCells g a (zq (ks.length-a) (.int .i64 0))):=λS=>
    Lib.run_clear_slice wr _ 3 S (.int .i64 0) Tryz.underlying28 (λw=>by obtain ⟨f1,c4,c5,d9,e0⟩:=info_parts tM;simp [zeroValue,typeInfo,c4,c5]) rfl rfl g a _ _ (by omega) (λl k=>by
     obtain ⟨s,b,C⟩:=m.cell (i:=a+l) (by omega);cases b;rw [C];rfl) (λl k=>by
     obtain ⟨_,⟨b,_⟩|⟨s,a0,a1,b,_,D,_⟩⟩:=m
     ·cases b
     ·simp at b;obtain ⟨rfl,_⟩:=b;simp [World.frozen?,D])
   obtain ⟨d6,b3,d4,b4,b5⟩:=dN.cleared (ks.length-a) a wr j m A.symm;have a6:dN B (wr.setCells g a (zq (ks.length-a) (.int .i64 0))) (.slice (some ⟨g,0,none⟩) a cap) (ks.filter λf=>!e f):=by have:=b3.take (m:=a) (by omega);rw [b4,k] at this;exact this
   have b8:=aA a6;have y:=aA (lK t b5);have c1:=aA a9;have d1:¬(c:Int)<(ks.length:Int):=by omega
   have e6:(a:Int)<=(ks.length:Int):=by omega
   have e3:(a:Int)<=(cap:Int):=by omega
   have e8:(ks.length:Int)<=(cap:Int):=by omega
   clear m k F t b3 d4 b4 b5 a6 A a9;go_wp2;go_ret;rw [c1.o];exact ⟨rfl,b8.o,y.o⟩
