import Derived.Test.YtmelidkanelpbaaGreatDoorVClMH
import Derived.Test.YtmelidkanelpbaaGreatDoorRPrim0H
open Array renaming getElem?_eq_some_iff→zz,getElem?_eq_getElem→zw,getElem_modify_self→zv,size_modify→zr
open List renaming getElem?_eq_getElem→zs,getElem?_eq_some_iff→zp
open Nat renaming le_refl→zy,lt_of_lt_of_le→zn,zero_add→zm
open Or renaming inr→zl,inl→zk
namespace Go.Proofs.YtmelidkanelpbaaGreatDoor
open _root_.Go.Proofs.Tryz renaming prog→zu
open Value renaming ownBlock→zq
open World renaming cell?→zx,alloc_heap_new→zt,frozen?→zo
set_option maxHeartbeats 8000000
set_option maxRecDepth 100000
open Go.RowKit
variable{B cap g hp n q:Nat}{v:Value}{w w':World}
structure Cd where
 r:Int
 a:Int
 b:Int
 i:Int
 j:Int
 ad:Option Addr
 ln:Nat
 cp:Nat
 wt:Int
 nm:Int
 c:List Lt
def Cd.cells(x:Cd):List Value:=[.int .i64 x.r,.int .i64 x.a,.int .i64 x.b,.int .i64 x.i,.int .i64 x.j,.slice x.ad x.ln x.cp,.int .i64 x.wt,.int .i64 x.nm]
def Cd.agg(x:Cd):Value:=.agg #[.int .i64 x.r,.int .i64 x.a,.int .i64 x.b,.int .i64 x.i,.int .i64 x.j,.slice x.ad x.ln x.cp,.int .i64 x.wt,.int .i64 x.nm]
def gT(a:List Cd):List Value:=a.flatMap Cd.cells
theorem bDb:(zu.info? 73).map (λa=>(a.zero,a.size,a.bytes))=some (some (.agg #[.int .i64 0,.int .i64 0,.int .i64 0,.int .i64 0,.int .i64 0,.slice none 0 0,.int .i64 0,.int .i64 0]),8,80):=by kernel_rfl
theorem aO3(a:List Cd):(gT a).length=a.length*8:=by
 induction a with
 |nil=>rfl
 |cons x r ih=>simp [gT,Cd.cells] at ih ⊢;omega
theorem xD(b:Cd)(a:List Cd):gT (b::a)=b.cells++gT a:=rfl
theorem bDc(a b:List Cd):gT (a++b)=gT a++gT b:=by simp [gT]
theorem aC2(a:Cd):a.cells.length=8:=rfl
theorem sK:∀(c:List Cd) (a:Nat) (d:a<c.length) (b:Nat),b<8->(gT c)[a*8+b]?=(c[a]).cells[b]?
 |[],a,d,_,_=>by simp at d
 |x::c,0,_,b,ht=>by rw [xD,List.getElem?_append_left (by rw [aC2];omega)];simp
 |x::c,a+1,d,b,ht=>by
  have:=sK c a (by simpa using d) b ht;rw [xD,List.getElem?_append_right (by rw [aC2];omega),aC2,show (a+1)*8+b-8=a*8+b by omega,this];simp
def aC3(c:List Value)(b:Nat)(a:Cd):List Value:=(((((((c.set b (.int .i64 a.r)).set (b+1) (.int .i64 a.a)).set (b+2) (.int .i64 a.b)).set (b+3) (.int .i64 a.i)).set (b+4) (.int .i64 a.j)).set (b+5) (.slice a.ad a.ln a.cp)).set (b+6) (.int .i64 a.wt)).set (b+7) (.int .i64 a.nm)
theorem aO4:∀(b:List Cd) (a:Nat) (c:Cd),a<b.length->aC3 (gT b) (a*8) c=gT (b.set a c)
 |[],a,_,h=>by simp at h
 |y::b,0,c,_=>by simp [aC3,gT,Cd.cells]
 |y::b,a+1,c,h=>by
  have:=aO4 b a c (by simpa using h);rw [List.set_cons_succ,xD,xD,<-this];have d:(a+1)*8=a*8+8:=by omega
  simp only [aC3,d];simp [Cd.cells]
theorem sL{d:TypeId}{i:Nat}{f:List Value}(k:w.ownsRow B d i (.slice (some ⟨g,0,none⟩) n cap) n f)(b:Nat)(c:Value):(w.setCell ⟨g,b,none⟩ c).ownsRow B d i (.slice (some ⟨g,0,none⟩) n cap) n (f.set b c):=by
 obtain ⟨l,⟨a,_⟩|⟨x,u,j,a,m,e,o,r,t,s⟩⟩:=k
 ·cases a
 ·simp at a;obtain ⟨rfl,rfl⟩:=a;refine ⟨by simpa using l,zl ⟨g,cap,j.setIfInBounds b c,rfl,m,?_,o,r,by simpa using t,?_⟩⟩
  ·have p:=(zz.1 e).1;show (w.heap.modify g _)[g]?=_;rw [zw (by rw [zr];exact p),zv];rw [(zz.1 e).2];rfl
  ·rw [<-s];simp [List.take_set]
structure cG(B:Nat)(w:World)(hp:Nat)(v:Value)(L:List Cd):Prop where
 box:w.heap[hp]?=some (.cells #[v,.func (.func 29) #[] #[]] 100 (0,0))
 row:w.ownsRow B 73 8 v L.length (gT L)
 base:B<=hp
theorem cG.c0{b:List Cd}(a:cG B w hp v b):w.cell? ⟨hp,0,none⟩=some v/\w.cell? ⟨hp,1,none⟩=some (.func (.func 29) #[] #[]):=⟨by simp [zx,a.box],by simp [zx,a.box]⟩
theorem cG.cells{a:List Cd}(d:cG B w hp v a){k:Nat}(b:k<a.length):∃g cap,v=.slice (some ⟨g,0,none⟩) a.length cap/\w.cell? ⟨g,k*8,none⟩=some (.int .i64 a[k].r)/\w.cell? ⟨g,k*8+1,none⟩=some (.int .i64 a[k].a)/\w.cell? ⟨g,k*8+2,none⟩=some (.int .i64 a[k].b)/\w.cell? ⟨g,k*8+3,none⟩=some (.int .i64 a[k].i)/\
   w.cell? ⟨g,k*8+4,none⟩=some (.int .i64 a[k].j)/\w.cell? ⟨g,k*8+5,none⟩=some (.slice a[k].ad a[k].ln a[k].cp)/\w.cell? ⟨g,k*8+6,none⟩=some (.int .i64 a[k].wt)/\w.cell? ⟨g,k*8+7,none⟩=some (.int .i64 a[k].nm):=by
 obtain ⟨i,⟨_,f⟩|⟨g,cap,e,rfl,j,l,o⟩⟩:=d.row
 ·omega
 ·have c:=d.row;have m:=aO3 a;refine ⟨g,cap,rfl,?_,?_,?_,?_,?_,?_,?_,?_⟩
  ·rw [c.cellAt (k*8) (by omega)];exact sK a k b 0 (by omega)
  ·rw [c.cellAt (k*8+1) (by omega)];exact sK a k b 1 (by omega)
  ·rw [c.cellAt (k*8+2) (by omega)];exact sK a k b 2 (by omega)
  ·rw [c.cellAt (k*8+3) (by omega)];exact sK a k b 3 (by omega)
  ·rw [c.cellAt (k*8+4) (by omega)];exact sK a k b 4 (by omega)
  ·rw [c.cellAt (k*8+5) (by omega)];exact sK a k b 5 (by omega)
  ·rw [c.cellAt (k*8+6) (by omega)];exact sK a k b 6 (by omega)
  ·rw [c.cellAt (k*8+7) (by omega)];exact sK a k b 7 (by omega)
def gK(w:World)(g a:Nat)(x:Cd):World:=(((((((w.setCell ⟨g,a,none⟩ (.int .i64 x.r)).setCell ⟨g,a+1,none⟩ (.int .i64 x.a)).setCell ⟨g,a+2,none⟩ (.int .i64 x.b)).setCell ⟨g,a+3,none⟩ (.int .i64 x.i)).setCell ⟨g,a+4,none⟩ (.int .i64 x.j)).setCell ⟨g,a+5,none⟩ (.slice x.ad x.ln x.cp)).setCell ⟨g,a+6,none⟩ (.int .i64 x.wt)).setCell ⟨g,a+7,none⟩ (.int .i64 x.nm)
theorem bDd{b:Nat}{c:TypeId}{a:List Cd}{x:Cd}(d:w.ownsRow B c 8 (.slice (some ⟨g,0,none⟩) n cap) n (gT a))(e:b<a.length):(gK w g (b*8) x).ownsRow B c 8 (.slice (some ⟨g,0,none⟩) n cap) n (gT (a.set b x)):=by rw [<-aO4 a b x e];unfold gK aC3;exact sL (sL (sL (sL (sL (sL (sL (sL d _ _) _ _) _ _) _ _) _ _) _ _) _ _) _ _
theorem aO5(w:World)(g k:Nat)(x:Cd):w.grownBy (gK w g k x) (some g):=by
 unfold gK;have a:∀(d:World) (e:Nat) (v:Value),w.grownBy d (some g)->w.grownBy (d.setCell ⟨g,e,none⟩ v) (some g):=λd e v b=>by
  have c:=cN d ⟨g,e,none⟩ v;exact ⟨c.os.trans b.os,c.tape.trans b.tape,c.output.trans b.output,Nat.le_trans b.size c.size,λj f i=>(c.block j (zn f b.size) i).trans (b.block j f i)⟩
 refine a _ _ _ (a _ _ _ (a _ _ _ (a _ _ _ (a _ _ _ (a _ _ _ (a _ _ _ (a _ _ _ ?_)))))));exact ⟨rfl,rfl,rfl,zy _,λ_ _ _=>rfl⟩
theorem bDe(w:World)(g a q:Nat)(x:Cd)(b:q<a\/a+8<=q):(gK w g a x).cell? ⟨g,q,none⟩=w.cell? ⟨g,q,none⟩:=by unfold gK;iterate 8 rw [World.cell?_setCell_other _ _ _ _ (by intro b;simp only [Addr.mk.injEq] at b;omega)]
theorem cG.frozen{b:List Cd}(c:cG B w hp (.slice (some ⟨g,0,none⟩) n cap) b)(q:Nat):w.frozen? ⟨g,q,none⟩=false:=by
 obtain ⟨_,⟨a,_⟩|⟨i,e,f,a,j,d,_⟩⟩:=c.row
 ·cases a
 ·simp at a;obtain ⟨rfl,_⟩:=a;simp [zo,d]
def lO(a b:Cd):Bool:=if a.wt=b.wt then decide (a.nm<b.nm) else decide (a.wt<b.wt)
theorem aO6(a b:Cd)(w:World):Calls zu 29 #[a.agg,b.agg] w λc w'=>c=.returned (.bool (lO a b))/\aB w w':=by
 unfold Cd.agg;go_enter Tryz.func29,Tryz.ntmps29;go_wp2
 ·have e:a.wt≠b.wt:=by simpa using ‹(a.wt != b.wt)=true›
  go_ret;exact ⟨by simp [lO,e],((Below.refl _ w).alloc (zy _) _).alloc (by simp) _⟩
 ·have d:a.wt=b.wt:=by simpa using ‹(a.wt != b.wt)=false›
  go_ret;exact ⟨by simp [lO,d],((Below.refl _ w).alloc (zy _) _).alloc (by simp) _⟩
theorem cG.below{b:List Cd}(a:cG B w hp v b)(c:aB w w'):cG B w' hp v b:=
 ⟨(c.block _ (zz.1 a.box).1).trans a.box,bG a.row c (zy _),a.base⟩
theorem cG.put{k:Nat}{c:List Cd}{x:Cd}(b:cG B w hp (.slice (some ⟨g,0,none⟩) n cap) c)(i:n=c.length)(f:k<c.length):cG B (gK w g (k*8) x) hp (.slice (some ⟨g,0,none⟩) n cap) (c.set k x)/\w.grownBy (gK w g (k*8) x) (some g):=by
 subst i;obtain ⟨_,⟨a,_⟩|⟨m,j,l,a,_,e,_⟩⟩:=b.row
 ·cases a
 ·simp at a;obtain ⟨rfl,rfl⟩:=a;have d:=aO5 w g (k*8) x;refine ⟨⟨?_,?_,b.base⟩,d⟩
  ·rw [d.block hp (zz.1 b.box).1 (by
    intro a;cases a;rw [b.box] at e;cases e)]
   exact b.box
  ·have:=bDd (x:=x) b.row f;simpa using this
theorem lP{d e f:World}{c:Option Nat}(a:d.grownBy e c)(b:e.grownBy f c):d.grownBy f c:=
 ⟨b.os.trans a.os,b.tape.trans a.tape,b.output.trans a.output,Nat.le_trans a.size b.size,λk i j=>(b.block k (zn i a.size) j).trans (a.block k i j)⟩
theorem cG.mv{b:List Cd}(d:cG B w hp v b)(f:w.grownBy w' v.ownBlock):Mv [73] B w w':=by
 refine Mv.of_grown f (λk a=>?_);obtain ⟨_,⟨rfl,_⟩|⟨g,cap,c,rfl,e,i,_⟩⟩:=d.row
 ·cases a
 ·cases a;exact ⟨e,c,_,i,by simp⟩
def oC(a:List Cd)(b c:Nat)(d:b<a.length)(e:c<a.length):List Cd:=(a.set b a[c]).set c a[b]
theorem zQ{a:List Cd}{b c:Nat}(d:b<a.length)(e:c<a.length):(oC a b c d e).length=a.length:=by simp [oC]
theorem aO7(B hp:Nat)(v:Value)(a:List Cd)(d b:Nat)(w:World)(e:cG B w hp v a)(i:d<a.length)(j:b<a.length)(U:d≠b):Calls zu 95 #[.pointer (some ⟨hp,0,none⟩),.int .i64 d,.int .i64 b] w λf w'=>(∃r,f=.returned r)/\cG B w' hp v (oC a d b i j)/\w.grownBy w' v.ownBlock:=by
 obtain ⟨g,cap,rfl,W,X,Y,Z,a0,a1,a2,a3⟩:=e.cells i;obtain ⟨P,O,f,s,u,y,z,A,C,D,E⟩:=e.cells j;cases f;have N:=e.c0.1;have S:=e.frozen;have Q:(d:Int)<(a.length:Int):=by omega
 have R:(b:Int)<(a.length:Int):=by omega
 have c:=λt (V:t<8)=>bDe w g (d*8) (b*8+t) a[b] (by omega)
 have o:=(c 0 (by omega)).trans s;have F:=(c 1 (by omega)).trans u;have G:=(c 2 (by omega)).trans y;have H:=(c 3 (by omega)).trans z;have I:=(c 4 (by omega)).trans A;have J:=(c 5 (by omega)).trans C;have L:=(c 6 (by omega)).trans D;have M:=(c 7 (by omega)).trans E;clear c;unfold gK at o F G H I J L M;simp only [Nat.add_zero] at o;have p:=aA e;clear e;go_enter Tryz.func95,Tryz.ntmps95;have T:zu.follows .mixedOrders=true:=by kernel_rfl
 go_region;go_end0;have l:=p.o.put (x:=a[b]) rfl i;have m:=l.1.put (k:=b) (x:=a[d]) (by simp) (by simpa using j);refine ⟨⟨_,rfl⟩,?_,?_⟩
 ·exact m.1.below (aU ⟨1,rfl⟩)
 ·exact lP (lP l.2 m.2) (gM (aU ⟨1,rfl⟩))
def iH:Nat->List Cd->Nat->List Cd
 |0,L,_=>L
 |f+1,L,k=>if h:0<k/\k<L.length then (if lO (L[k]'h.2) (L[(k-1) / 2]'(by omega)) then iH f (oC L k ((k-1) / 2) h.2 (by omega)) ((k-1) / 2) else L) else L
theorem aG7:∀(f:Nat) (a:List Cd) (b:Nat),(iH f a b).length=a.length
 |0,_,_=>rfl
 |f+1,a,b=>by
  unfold iH;split
  ·split
   ·rw [aG7 f];exact zQ _ _
   ·rfl
  ·rfl
def aO8(w:World)(g b:Nat)(a:Cd):Prop:=w.cell? ⟨g,b*8,none⟩=some (.int .i64 a.r)/\w.cell? ⟨g,b*8+1,none⟩=some (.int .i64 a.a)/\w.cell? ⟨g,b*8+2,none⟩=some (.int .i64 a.b)/\w.cell? ⟨g,b*8+3,none⟩=some (.int .i64 a.i)/\
 w.cell? ⟨g,b*8+4,none⟩=some (.int .i64 a.j)/\w.cell? ⟨g,b*8+5,none⟩=some (.slice a.ad a.ln a.cp)/\w.cell? ⟨g,b*8+6,none⟩=some (.int .i64 a.wt)/\w.cell? ⟨g,b*8+7,none⟩=some (.int .i64 a.nm)
theorem cG.at{L:List Cd}(a:cG B w hp v L){k:Nat}(b:k<L.length):∃g cap,v=.slice (some ⟨g,0,none⟩) L.length cap/\aO8 w g k L[k]:=a.cells b
theorem bDf{f:Nat}{b:List Cd}{a:Nat}(e:0<a)(d:a<b.length):∃(c:Nat) (i:c<b.length),((a:Int)-1).tdiv 2=(c:Int)/\c<a/\iH (f+1) b a=if lO b[a] b[c] then iH f (oC b a c d i) c else b:=by
 refine ⟨(a-1) / 2,by omega,?_,by omega,?_⟩
 ·rw [show ((a:Int)-1)=((a-1:Nat):Int) by omega];rfl
 ·conv=>lhs;unfold iH
  rw [dif_pos ⟨e,d⟩]
def aC4(hp g n cap q c:Nat)(a b:Cd)(w':World):Prop:=w'.cell? ⟨hp,0,none⟩=some (.slice (some ⟨g,0,none⟩) n cap)/\w'.cell? ⟨hp,1,none⟩=some (.func (.func 29) #[] #[])/\w'.cell? ⟨g,q*8,none⟩=some (.int .i64 a.r)/\w'.cell? ⟨g,q*8+1,none⟩=some (.int .i64 a.a)/\w'.cell? ⟨g,q*8+2,none⟩=some (.int .i64 a.b)/\w'.cell? ⟨g,q*8+3,none⟩=some (.int .i64 a.i)/\w'.cell? ⟨g,q*8+4,none⟩=some (.int .i64 a.j)/\w'.cell? ⟨g,q*8+5,none⟩=some (.slice a.ad a.ln a.cp)/\w'.cell? ⟨g,q*8+6,none⟩=some (.int .i64 a.wt)/\w'.cell? ⟨g,q*8+7,none⟩=some (.int .i64 a.nm)/\w'.cell? ⟨g,c*8,none⟩=some (.int .i64 b.r)/\w'.cell? ⟨g,c*8+1,none⟩=some (.int .i64 b.a)/\w'.cell? ⟨g,c*8+2,none⟩=some (.int .i64 b.b)/\w'.cell? ⟨g,c*8+3,none⟩=some (.int .i64 b.i)/\w'.cell? ⟨g,c*8+4,none⟩=some (.int .i64 b.j)/\w'.cell? ⟨g,c*8+5,none⟩=some (.slice b.ad b.ln b.cp)/\w'.cell? ⟨g,c*8+6,none⟩=some (.int .i64 b.wt)/\w'.cell? ⟨g,c*8+7,none⟩=some (.int .i64 b.nm)
theorem aC4.below{b:Nat}{x y:Cd}(c:aC4 hp g n cap q b x y w)(a:aB w w'):aC4 hp g n cap q b x y w':=by obtain ⟨d,e,r,s,t,u,z,A,C,D,f,i,j,k,l,m,o,p⟩:=c;exact ⟨aC a d,aC a e,aC a r,aC a s,aC a t,aC a u,aC a z,aC a A,aC a C,aC a D,aC a f,aC a i,aC a j,aC a k,aC a l,aC a m,aC a o,aC a p⟩
theorem cG.two{a:List Cd}{c:Nat}(b:cG B w hp (.slice (some ⟨g,0,none⟩) a.length cap) a)(f:q<a.length)(i:c<a.length):aC4 hp g a.length cap q c a[q] a[c] w:=by obtain ⟨G,E,d,j,k,l,m,o,p,r,s⟩:=b.cells f;obtain ⟨H,F,e,t,u,x,y,z,A,C,D⟩:=b.cells i;cases d;cases e;exact ⟨b.c0.1,b.c0.2,j,k,l,m,o,p,r,s,t,u,x,y,z,A,C,D⟩
theorem bDg(B hp:Nat)(v:Value)(e:List Cd)(f:Nat)(w:World)(H:cG B w hp v e)(a1:f<e.length)(a9:e.length<=1000000000):Calls zu 72 #[.pointer (some ⟨hp,0,none⟩),.int .i64 f] w λi w'=>(∃Q,i=.returned Q)/\cG B w' hp v (iH f e f)/\w.grownBy w' v.ownBlock:=by
 have S:=aA H;clear H;go_enter Tryz.func72,Tryz.ntmps72;go_wp2;go_loopw [1] (λA wr=>∃(q d:Nat) (a:List Cd),A=.int .i64 q/\q<a.length/\q<=d/\a.length=e.length/\cG B wr hp v a/\w.grownBy wr v.ownBlock/\iH d a q=iH f e f) (λA _=>(intOf A).toNat);case atStart=>exact ⟨f,f,e,rfl,a1,zy _,rfl,S.o,⟨rfl,rfl,rfl,zy _,λ_ _ _=>rfl⟩,rfl⟩
 case round=>
  obtain ⟨q,d,a,rfl,k,b0,L,j,m,c⟩:=hrel;by_cases Z:0<q
  ·obtain ⟨d,rfl⟩ : ∃Y,d=Y+1:=⟨d-1,by omega⟩;obtain ⟨b,o,a0,b5,P⟩:=bDf (f:=d) Z k;rw [P] at c;obtain ⟨g,cap,rfl,_⟩:=j.at k;have N:=j.two k o;have R:=aA (λ(l:World) (a7:cG B l hp (.slice (some ⟨g,0,none⟩) a.length cap) a)=>aO7 B hp _ a q b l a7 k o (by omega));generalize hM':oC a q b k o=M' at *;have M:M'.length=a.length:=by rw [<-hM'];exact zQ _ _
   have C:=aA (λ(l:World) (a6:∃t,l=wr.drewN t)=>(aO6 a[q] a[b] l).mono (R':=λi p=>i=.returned (.bool (lO a[q] a[b]))/\aB wr p) (λi p c=>by
    obtain ⟨t,rfl⟩:=a6;exact ⟨c.1,(aU ⟨t,rfl⟩).trans c.2⟩))
   generalize a[q]=x at *;generalize a[b]=y at *;unfold Cd.agg at C;have X:=aA N;obtain ⟨d6,d7,e6,e7,e8,e9,f0,f1,f2,f3,d8,d9,e0,e1,e2,e3,e4,e5⟩:=N;have r:=aA j;have s:=aA m;have E:=aA c;have W:=aA (show a.length=e.length from L);have b2:(0:Int)<(q:Int):=by omega
   have b3:(0:Int)<=(q:Int):=by omega
   have b6:(0:Int)<=(b:Int):=by omega
   have b1:(q:Int)<(a.length:Int):=by omega
   have b4:(b:Int)<(a.length:Int):=by omega
   have a3:wrap64 ((q:Int)-1)=(q:Int)-1:=by unfold wrap64;omega
   have a5:wrap64 (b:Int)=(b:Int):=by unfold wrap64;omega
   have a4:wrap64 (((q:Int)-1).tdiv 2)=(b:Int):=by rw [a0];unfold wrap64;omega
   clear c P j m hM' L;generalize hml:a.length=ml at *;have V:=aA hml;clear hml;go_wp2;go_region_held3 (λw'=>w'.cell? ⟨hp,0,none⟩=some (.slice (some ⟨g,0,none⟩) ml cap)/\w'.cell? ⟨hp,1,none⟩=some (.func (.func 29) #[] #[])/\w'.cell? ⟨g,q*8,none⟩=some (.int .i64 x.r)/\w'.cell? ⟨g,q*8+1,none⟩=some (.int .i64 x.a)/\w'.cell? ⟨g,q*8+2,none⟩=some (.int .i64 x.b)/\w'.cell? ⟨g,q*8+3,none⟩=some (.int .i64 x.i)/\w'.cell? ⟨g,q*8+4,none⟩=some (.int .i64 x.j)/\w'.cell? ⟨g,q*8+5,none⟩=some (.slice x.ad x.ln x.cp)/\w'.cell? ⟨g,q*8+6,none⟩=some (.int .i64 x.wt)/\w'.cell? ⟨g,q*8+7,none⟩=some (.int .i64 x.nm)/\w'.cell? ⟨g,b*8,none⟩=some (.int .i64 y.r)/\w'.cell? ⟨g,b*8+1,none⟩=some (.int .i64 y.a)/\w'.cell? ⟨g,b*8+2,none⟩=some (.int .i64 y.b)/\w'.cell? ⟨g,b*8+3,none⟩=some (.int .i64 y.i)/\w'.cell? ⟨g,b*8+4,none⟩=some (.int .i64 y.j)/\w'.cell? ⟨g,b*8+5,none⟩=some (.slice y.ad y.ln y.cp)/\w'.cell? ⟨g,b*8+6,none⟩=some (.int .i64 y.wt)/\w'.cell? ⟨g,b*8+7,none⟩=some (.int .i64 y.nm)) (go_keep)
    (first
     |(go_at_call 29;refine (aD C _ (by first|exact ⟨0,rfl⟩|exact ⟨1,rfl⟩|exact ⟨_,rfl⟩)).mono ?_;rintro i p ⟨rfl,u⟩;obtain ⟨b7,b8,c7,c8,c9,d0,d1,d2,d3,d4,b9,c0,c1,c2,c3,c4,c5,c6⟩:=X.o.below u;have D:=aA u;clear u)
     |go_in)
   have J:=r.o.below D.o;have F:=aA J;have G:=aA (lP s.o (gM D.o));clear J a3 a4 a5;go_wp2_with (first
    |(go_at_call 95;refine (aD R p F.o).mono ?_;rintro i d5 ⟨⟨Q,rfl⟩,I,O⟩;have T:=aA I;have U:=aA (lP G.o O);clear I O)
    |go_in)
   ·have z:lO x y=false:=by simpa using ‹(!lO x y)=true›
    refine bodyPost_ret (results_none rfl _ _ _) rfl ?_;have c:=E.o;rw [aI (by simp [z])] at c;rw [<-c];exact ⟨⟨_,rfl⟩,by rw [V.o];exact F.o,G.o⟩
   ·have z:lO x y=true:=by simpa using ‹(!lO x y)=false›
    go_roundw;case rel=>
     have c:=E.o;rw [aH z] at c;exact ⟨b,d,M',rfl,by rw [M];exact o,by omega,by rw [M];exact W.o,T.o,U.o,c⟩
    case measure=>simp [intOf];omega
  ·have a2:q=0:=by omega
   subst a2;have a8:iH d a 0=a:=by
    cases d with
    |zero=>rfl
    |succ d=>unfold iH;rw [dif_neg (by omega)]
   rw [a8] at c;have r:=aA j;have s:=aA m;clear j m;go_wp2;go_end0;rw [<-c];exact ⟨⟨_,rfl⟩,r.o,s.o⟩
def eR(a:List Cd)(q:Nat):Nat->Nat
 |0=>q
 |t+1=>if h:2*q+1+t<a.length/\eR a q t<a.length then (if lO (a[2*q+1+t]'h.1) (a[eR a q t]'h.2) then 2*q+1+t else eR a q t) else eR a q t
theorem aG8(a:List Cd)(q:Nat):∀t,eR a q t=q\/(q<eR a q t/\eR a q t<2*q+1+t/\eR a q t<a.length)
 |0=>zk rfl
 |t+1=>by
  unfold eR;split
  ·split
   ·right;omega
   ·rcases aG8 a q t with h|h
    ·exact zk h
    ·right;omega
  ·rcases aG8 a q t with h|h
   ·exact zk h
   ·right;omega
theorem aO9{a:List Cd}{t:Nat}(b:a.length<=2*q+1+t):eR a q (t+1)=eR a q t:=by
 conv=>lhs;unfold eR
 rw [dif_neg (by omega)]
theorem bDh{a:List Cd}{b:Nat}(c:2*q+1+b<a.length)(d:eR a q b<a.length):eR a q (b+1)=if lO a[2*q+1+b] a[eR a q b] then 2*q+1+b else eR a q b:=by
 conv=>lhs;unfold eR
 rw [dif_pos ⟨c,d⟩]
def kY:Nat->List Cd->Nat->List Cd
 |0,L,_=>L
 |f+1,L,q=>if h:eR L q 2≠q/\q<L.length/\eR L q 2<L.length then kY f (oC L q (eR L q 2) h.2.1 h.2.2) (eR L q 2) else L
theorem aOa:∀(f:Nat) (a:List Cd) (q:Nat),(kY f a q).length=a.length
 |0,_,_=>rfl
 |f+1,a,q=>by
  unfold kY;split
  ·rw [aOa f];exact zQ _ _
  ·rfl
theorem aOb{f:Nat}{a:List Cd}(b:eR a q 2=q):kY f a q=a:=by
 cases f with
 |zero=>rfl
 |succ f=>unfold kY;rw [dif_neg (by omega)]
theorem aOc{f:Nat}{a:List Cd}{b:Nat}(e:eR a q 2=b)(i:b≠q)(c:q<a.length)(d:b<a.length):kY (f+1) a q=kY f (oC a q b c d) b:=by
 subst e;conv=>lhs;unfold kY
 rw [dif_pos ⟨i,c,d⟩]
theorem bDi(B hp:Nat)(v:Value)(e:List Cd)(w:World)(h:cG B w hp v e)(d5:e.length<=1000000000):Calls zu 73 #[.pointer (some ⟨hp,0,none⟩),.int .i64 0] w λj w'=>(∃a0,j=.returned a0)/\cG B w' hp v (kY e.length e 0)/\w.grownBy w' v.ownBlock:=by
 obtain ⟨L,D,rfl⟩:=bA h.row;have b8:=aA h;clear h;go_enter Tryz.func73,Tryz.ntmps73;go_wp2;go_loopw [1] (λZ wr=>∃(q k:Nat) (b:List Cd),Z=.int .i64 q/\(q<b.length\/q=0)/\b.length<=q+k/\b.length=e.length/\cG B wr hp (.slice L e.length D) b/\w.grownBy wr (Value.slice L e.length D).ownBlock/\kY k b q=kY e.length e 0) (λZ _=>e.length-(intOf Z).toNat);case atStart=>exact ⟨0,e.length,e,rfl,zl rfl,by omega,rfl,b8.o,⟨rfl,rfl,rfl,zy _,λ_ _ _=>rfl⟩,rfl⟩
 case round=>
  obtain ⟨q,k,b,rfl,e4,e3,b0,C,H,F⟩:=hrel;have e5:q<=e.length:=by omega
  have p:=aA C;have r:=aA H;have N:=aA F;have P:=aA b0;clear F C H b0;go_wp2;go_loopw [4,5] (λa c wr=>∃d:Nat,d<=2/\a=.int .i64 (eR b q d)/\c=.int .i64 (2*q+1+d:Nat)/\cG B wr hp (.slice L e.length D) b/\w.grownBy wr (Value.slice L e.length D).ownBlock) (λ_ c _=>2*q+3-(intOf c).toNat);case atStart=>exact ⟨0,by omega,rfl,by simp,p.o,r.o⟩
  case round=>
   obtain ⟨d,c8,rfl,rfl,C,H⟩:=hrel;have Y:=aG8 b q d;have d3:=C.c0.1;have p:=aA C;have r:=aA H;clear C H;by_cases b3:d<=1/\2*q+1+d<e.length
   ·obtain ⟨d8,c5⟩:=b3;have R:=P.o;have o:eR b q d<b.length:=by omega
    have T:2*q+1+d<b.length:=by omega
    have b4:=bDh T o;obtain ⟨c,y⟩ : ∃c,2*q+1+d=c:=⟨_,rfl⟩;obtain ⟨a,u⟩ : ∃a,eR b q d=a:=⟨_,rfl⟩;have a5:aM (∃f i,f=b[2*q+1+d]/\i=b[eR b q d]/\eR b q (d+1)=if lO f i then c else a):=aA ⟨_,_,rfl,rfl,by rw [<-y,<-u];exact b4⟩;obtain ⟨f,i,b5,b6,b2⟩:=a5.o;have Q:=p.o;rw [<-R] at Q;obtain ⟨g,cap,c1,c3⟩:=Q.at T;clear c3;cases c1;have S:=Q.two T o;rw [<-b5,<-b6,R] at S;simp only [y,u] at S ⊢;have a2:=aA (λ(b7:World) (c9:∃j,b7=wr.drewN j)=>(aO6 f i b7).mono (R':=λj a1=>j=.returned (.bool (lO f i))/\aB wr a1) (λj a1 F=>by
     obtain ⟨c0,rfl⟩:=c9;exact ⟨F.1,(aU ⟨c0,rfl⟩).trans F.2⟩))
    unfold Cd.agg at a2;have b9:=aA S;obtain ⟨g4,g5,h4,h5,h6,h7,h8,h9,i0,i1,g6,g7,g8,g9,h0,h1,h2,h3⟩:=S;have d1:=aA o;have a4:=aA b2;have e1:(c:Int)<=2*(q:Int)+2:=by omega
    have e2:(0:Int)<=(c:Int):=by omega
    have d7:(0:Int)<=(a:Int):=by omega
    have e0:(c:Int)<(e.length:Int):=by omega
    have d6:(a:Int)<(e.length:Int):=by omega
    have d9:c<=2*q+2:=by omega
    have a6:=aA (show c=2*q+1+d from y.symm);clear b4 b5 b6 Q Y R y u b2 a5 o T c5;generalize hml:e.length=ml at *;have d2:=aA hml;clear hml;go_wp2;go_region_held3 (λw'=>w'.cell? ⟨hp,0,none⟩=some (.slice (some ⟨g,0,none⟩) ml D)/\w'.cell? ⟨hp,1,none⟩=some (.func (.func 29) #[] #[])/\w'.cell? ⟨g,c*8,none⟩=some (.int .i64 f.r)/\w'.cell? ⟨g,c*8+1,none⟩=some (.int .i64 f.a)/\w'.cell? ⟨g,c*8+2,none⟩=some (.int .i64 f.b)/\w'.cell? ⟨g,c*8+3,none⟩=some (.int .i64 f.i)/\w'.cell? ⟨g,c*8+4,none⟩=some (.int .i64 f.j)/\w'.cell? ⟨g,c*8+5,none⟩=some (.slice f.ad f.ln f.cp)/\w'.cell? ⟨g,c*8+6,none⟩=some (.int .i64 f.wt)/\w'.cell? ⟨g,c*8+7,none⟩=some (.int .i64 f.nm)/\w'.cell? ⟨g,a*8,none⟩=some (.int .i64 i.r)/\w'.cell? ⟨g,a*8+1,none⟩=some (.int .i64 i.a)/\w'.cell? ⟨g,a*8+2,none⟩=some (.int .i64 i.b)/\w'.cell? ⟨g,a*8+3,none⟩=some (.int .i64 i.i)/\w'.cell? ⟨g,a*8+4,none⟩=some (.int .i64 i.j)/\w'.cell? ⟨g,a*8+5,none⟩=some (.slice i.ad i.ln i.cp)/\w'.cell? ⟨g,a*8+6,none⟩=some (.int .i64 i.wt)/\w'.cell? ⟨g,a*8+7,none⟩=some (.int .i64 i.nm)) (go_keep)
     (first
      |(go_at_call 29;refine (aD a2 _ (by first|exact ⟨0,rfl⟩|exact ⟨1,rfl⟩|exact ⟨_,rfl⟩)).mono ?_;rintro j a1 ⟨rfl,o⟩;obtain ⟨e6,e7,f6,f7,f8,f9,g0,g1,g2,g3,e8,e9,f0,f1,f2,f3,f4,f5⟩:=b9.o.below o;have a3:=aA o;clear o)
      |go_in)
    have z:=aA (p.o.below a3.o);have A:=aA (lP r.o (gM a3.o));go_wp2
    ·have X:lO f i=true:=by assumption
     go_roundw;case rel=>
      have E:=a4.o;rw [aH X] at E;have:=a6.o;exact ⟨d+1,by omega,by rw [E],by have:(c:Int)+1=((2*q+1+(d+1):Nat):Int):=(by omega);rw [<-this],z.o,A.o⟩
     case measure=>simp [intOf];omega
    ·have X:lO f i=false:=by assumption
     go_roundw;case rel=>
      have E:=a4.o;rw [aI (by simp [X])] at E;have:=a6.o;exact ⟨d+1,by omega,by rw [E],by have:(c:Int)+1=((2*q+1+(d+1):Nat):Int):=(by omega);rw [<-this],z.o,A.o⟩
     case measure=>simp [intOf];omega
   ·have R:=P.o;have b1:eR b q 2=eR b q d:=by
     rcases Nat.lt_or_ge d 2 with h|h
     ·have t:b.length<=2*q+1+d:=by omega
      have a7:=aO9 t;rcases (show d=0\/d=1 by omega) with rfl|rfl
      ·rw [aO9 (t:=1) (by omega),a7]
      ·exact a7
     ·rw [show d=2 by omega]
    rw [<-b1] at Y ⊢;obtain ⟨a,u⟩ : ∃a,eR b q 2=a:=⟨_,rfl⟩;rw [u] at Y ⊢;have c7:¬(2*q+1+d<=2*q+2)\/¬(2*q+1+d<e.length):=by omega
    obtain ⟨c,y⟩ : ∃c,2*q+1+d=c:=⟨_,rfl⟩;rw [y] at c7 ⊢;have O:=aA u;clear u b1 b3 c8 y;have M:=aA (λ(a8:q<b.length) (a9:a<b.length) (c6:q≠a)=>aO7 B hp (.slice L e.length D) b q a wr p.o a8 a9 c6);by_cases a8:c<=2*q+2
    ·have a9:¬c<e.length:=by omega
     have c2:(c:Int)<=2*(q:Int)+2:=by omega
     have d4:¬(c:Int)<(e.length:Int):=by omega
     by_cases x:a=q
     ·subst x;go_wp2;refine bodyPost_ret (results_none rfl _ _ _) rfl ?_;rw [<-N.o,aOb O.o];exact ⟨⟨_,rfl⟩,p.o,r.o⟩
     ·have m:q<b.length:=by omega
      have l:a<b.length:=by omega
      have c4:¬(a:Int)=(q:Int):=by omega
      obtain ⟨k,rfl⟩ : ∃W,k=W+1:=⟨k-1,by omega⟩;have G:=aOc (f:=k) O.o x m l;have J:=zQ m l;have U:=aA (aD M m l (λj=>x j.symm));generalize oC b q a m l=M' at *;have V:=aA G;have s:=aA J;clear G J M;go_wp2_with (first
       |(go_at_call 95;refine (aD U).mono ?_;rintro j d0 ⟨⟨a0,rfl⟩,t,I⟩;have z:=aA t;have A:=aA (lP r.o I);clear t I)
       |go_in)
      go_roundw;case rel=>exact ⟨a,k,M',rfl,zk (by rw [s.o];exact l),by rw [s.o];omega,by rw [s.o];exact P.o,z.o,A.o,by rw [<-N.o,V.o]⟩
      case measure=>simp [intOf];omega
    ·have c2:¬(c:Int)<=2*(q:Int)+2:=by omega
     by_cases x:a=q
     ·subst x;go_wp2;refine bodyPost_ret (results_none rfl _ _ _) rfl ?_;rw [<-N.o,aOb O.o];exact ⟨⟨_,rfl⟩,p.o,r.o⟩
     ·have m:q<b.length:=by omega
      have l:a<b.length:=by omega
      have c4:¬(a:Int)=(q:Int):=by omega
      obtain ⟨k,rfl⟩ : ∃W,k=W+1:=⟨k-1,by omega⟩;have G:=aOc (f:=k) O.o x m l;have J:=zQ m l;have U:=aA (aD M m l (λj=>x j.symm));generalize oC b q a m l=M' at *;have V:=aA G;have s:=aA J;clear G J M;go_wp2_with (first
       |(go_at_call 95;refine (aD U).mono ?_;rintro j d0 ⟨⟨a0,rfl⟩,t,I⟩;have z:=aA t;have A:=aA (lP r.o I);clear t I)
       |go_in)
      go_roundw;case rel=>exact ⟨a,k,M',rfl,zk (by rw [s.o];exact l),by rw [s.o];omega,by rw [s.o];exact P.o,z.o,A.o,by rw [<-N.o,V.o]⟩
      case measure=>simp [intOf];omega
theorem bDj(c:Cd):∀b∈c.cells,b.oneCell'=true:=by intro b a;simp [Cd.cells] at a;rcases a with rfl|rfl|rfl|rfl|rfl|rfl|rfl|rfl<;>rfl
theorem cG.frz{a:List Cd}(b:cG B w hp v a)(c:Nat):w.frozen? ⟨hp,c,none⟩=false:=by simp [zo,b.box]
theorem cG.more{a:World}{d:Value}{e:List Cd}{x:Cd}(b:cG B w hp v e)(j:a.ownsRow B 73 8 d (e.length+1) (gT e++x.cells))(i:w.grownBy a v.ownBlock):a.cell? ⟨hp,0,none⟩=some v/\a.frozen? ⟨hp,0,none⟩=false/\cG B (a.setCell ⟨hp,0,none⟩ d) hp d (e++[x])/\Mv [73,100] B w (a.setCell ⟨hp,0,none⟩ d):=by
 have c:a.heap[hp]?=some (.cells #[v,.func (.func 29) #[] #[]] 100 (0,0)):=by rw [i.block hp (zz.1 b.box).1 (λl=>dZ b.row b.box (by decide) l.symm)];exact b.box
 have r:=dZ j c (by decide);have p:=(zz.1 c).1;refine ⟨by simp [zx,c],by simp [zo,c],⟨?_,?_,b.base⟩,?_⟩
 ·show (a.heap.modify hp _)[hp]?=_;rw [zw (by rw [zr];exact p),zv,(zz.1 c).2];rfl
 ·have:=dQ j (cN a ⟨hp,0,none⟩ d) (zl r);rw [bDc];simpa [gT] using this
 ·refine Mv.trans (V:=a) (Mv.of_grown i (λs f=>?_)) (Mv.of_grown (cN a ⟨hp,0,none⟩ d) (λs f=>by cases f;exact ⟨b.base,_,_,c,by simp⟩));obtain ⟨_,⟨rfl,_⟩|⟨g,cap,k,rfl,m,o,_⟩⟩:=b.row
  ·cases f
  ·cases f;exact ⟨m,k,_,o,by simp⟩
theorem bDk(B hp:Nat)(v:Value)(c:List Cd)(a:Cd)(w:World)(i:cG B w hp v c)(a4:c.length<=1000000)(a3:B<=w.heap.size):Calls zu 45 #[.pointer (some ⟨hp,0,none⟩),a.agg] w λt w'=>(∃C,t=.returned C)/\∃Y,cG B w' hp Y (iH c.length (c++[a]) c.length)/\Mv [73,100] B w w':=by
 obtain ⟨D,E,rfl⟩:=bA i.row;have G:=aA i;clear i;unfold Cd.agg;go_enter Tryz.func45,Tryz.ntmps45;go_wp2_with fail;obtain ⟨b,A,e,d⟩ : ∃b,w.alloc (.cells #[.int .i64 a.r,.int .i64 a.a,.int .i64 a.b,.int .i64 a.i,.int .i64 a.j,.slice a.ad a.ln a.cp,.int .i64 a.wt,.int .i64 a.nm] 73)=b/\aB w b/\b.heap[w.heap.size]?=some (.cells #[.int .i64 a.r,.int .i64 a.a,.int .i64 a.b,.int .i64 a.i,.int .i64 a.j,.slice a.ad a.ln a.cp,.int .i64 a.wt,.int .i64 a.nm] 73 (0,0)):=⟨_,rfl,(Below.refl _ w).alloc (zy _) _,zt w _⟩;simp only [A];clear A;have j:=G.o.below e;have s:=j.c0.1;have R:∀m,(b.alloc m).cell? ⟨hp,0,none⟩=some (.slice D c.length E):=λm=>aC ((Below.refl _ b).alloc (zy _) m) s
 have I:b.cell? ⟨w.heap.size,0,none⟩=some (.int .i64 a.r):=by simp [zx,d]
 have J:b.cell? ⟨w.heap.size,1,none⟩=some (.int .i64 a.a):=by simp [zx,d]
 have L:b.cell? ⟨w.heap.size,2,none⟩=some (.int .i64 a.b):=by simp [zx,d]
 have M:b.cell? ⟨w.heap.size,3,none⟩=some (.int .i64 a.i):=by simp [zx,d]
 have N:b.cell? ⟨w.heap.size,4,none⟩=some (.int .i64 a.j):=by simp [zx,d]
 have O:b.cell? ⟨w.heap.size,5,none⟩=some (.slice a.ad a.ln a.cp):=by simp [zx,d]
 have P:b.cell? ⟨w.heap.size,6,none⟩=some (.int .i64 a.wt):=by simp [zx,d]
 have Q:b.cell? ⟨w.heap.size,7,none⟩=some (.int .i64 a.nm):=by simp [zx,d]
 have X:=e.size;have k:=j.below (aU ⟨1,rfl⟩);have z:b.drew.ownsRow B 73 8 (.slice D c.length E) c.length (gT c):=k.row;have p:=aA k;have o:=aA e;have a6:zu.follows .mixedOrders=true:=by kernel_rfl
 clear j d k e;go_region_law (refine oU ?g1 (.tmp 8) (.tmp 10) 98 73 ?g2 (.agg #[.int .i64 0,.int .i64 0,.int .i64 0,.int .i64 0,.int .i64 0,.slice none 0 0,.int .i64 0,.int .i64 0]) 8 80 Tryz.underlying98 bDb ?g3 ?g4 ?g5 B _ c.length (gT c) ?g6 (z.alloc _) ?g7 ?g8 b.heap.size 1 a.cells ?g9 ?g10 (aLd b.drew #[.int .i64 a.r,.int .i64 a.a,.int .i64 a.b,.int .i64 a.i,.int .i64 a.j,.slice a.ad a.ln a.cp,.int .i64 a.wt,.int .i64 a.nm] 73) (bDj a) ?_;(case g1=>rfl);(case g2=>rfl);(case g3=>rfl);(case g4=>decide);(case g5=>decide);(case g6=>rfl);(case g7=>omega);(case g8=>simp;omega);(case g9=>rfl);(case g10=>rfl);intro a7 a1 l x;obtain ⟨T,U,u,y⟩:=cG.more (p.o.below ((Below.refl _ b.drew).alloc (zy _) _)) l x;have f:=aA u;have r:=aA y;obtain ⟨Z,a0,rfl⟩:=bA l;clear l x u y);all_goals
  have a2:=f.o.c0.1;have H:=aA ((Mv.of_below (S:=[73,100]) (B:=B) (o.o.trans (((aU ⟨1,rfl⟩).alloc (zy _) _).mono X))).trans r.o);clear T U r p o I J L M N O P Q s R z;generalize a1.setCell ⟨hp,0,none⟩ (.slice Z (c.length+1) a0)=w4 at *;have F:=aA (bDg B hp _ (c++[a]) c.length w4 f.o (by simp) (by simp;omega));have a5:((c.length:Int)+1)-1=(c.length:Int):=by omega
  go_wp2_with (first
   |(go_at_call 72;refine (aD F).mono ?_;rintro t a8 ⟨⟨C,rfl⟩,V,W⟩)
   |go_in)
  go_end0;exact ⟨⟨_,rfl⟩,_,V,H.o.trans ((f.o.mv W).mono (by simp) (zy _))⟩
def iJ:Cd:=⟨0,0,0,0,0,none,0,0,0,0,[]⟩
def jU(a:List Cd):List Cd:=match a.getLast? with
 |none=>[]
 |some y=>kY (a.length-1) ((a.set 0 y).take (a.length-1)) 0
theorem bDl(w:World):∃a,(w.alloc (.cells #[.int .i64 0,.int .i64 0,.int .i64 0,.int .i64 0,.int .i64 0,.slice none 0 0,.int .i64 0,.int .i64 0] 73)).alloc (.cells #[.int .i64 0,.int .i64 0,.int .i64 0,.int .i64 0,.int .i64 0,.slice none 0 0,.int .i64 0,.int .i64 0] 73)=a/\aB w a/\a.heap.size=w.heap.size+2/\
  a.heap[w.heap.size]?=some (.cells #[.int .i64 0,.int .i64 0,.int .i64 0,.int .i64 0,.int .i64 0,.slice none 0 0,.int .i64 0,.int .i64 0] 73 (0,0))/\a.heap[w.heap.size+1]?=some (.cells #[.int .i64 0,.int .i64 0,.int .i64 0,.int .i64 0,.int .i64 0,.slice none 0 0,.int .i64 0,.int .i64 0] 73 (0,0)):=by
 refine ⟨_,rfl,((Below.refl _ w).alloc (zy _) _).alloc (by simp) _,by simp,(Below.heap_alloc _ _ _ (by simp)).trans (zt w _),?_⟩;have:=zt (w.alloc (.cells #[.int .i64 0,.int .i64 0,.int .i64 0,.int .i64 0,.int .i64 0,.slice none 0 0,.int .i64 0,.int .i64 0] 73)) (.cells #[.int .i64 0,.int .i64 0,.int .i64 0,.int .i64 0,.int .i64 0,.slice none 0 0,.int .i64 0,.int .i64 0] 73);rwa [World.size_alloc] at this
theorem bDm(B hp:Nat)(v:Value)(w:World)(a:cG B w hp v []):Calls zu 46 #[.pointer (some ⟨hp,0,none⟩)] w λe w'=>e=.returned (.tuple #[iJ.agg,.bool false])/\aB w w':=by
 obtain ⟨f,i,rfl⟩:=bA a.row;simp only [List.length_nil] at a;have d:=a.c0.1;have j:∀b c,((w.alloc b).alloc c).cell? ⟨hp,0,none⟩=some (.slice f 0 i):=λb c=>aC (((Below.refl _ w).alloc (zy _) b).alloc (by simp) c) d
 clear a d;go_enter Tryz.func46,Tryz.ntmps46;go_wp2;refine bodyPost_ret (v:=.tuple #[iJ.agg,.bool false]) (by simp [results,Tryz.results46,go_sem,iJ,Cd.agg];try rfl) rfl ?_;exact ⟨rfl,((Below.refl _ w).alloc (zy _) _).alloc (by simp) _⟩
def jG(w:World)(a:Nat)(x:Cd):Prop:=w.heap[a]?=some (.cells #[.int .i64 x.r,.int .i64 x.a,.int .i64 x.b,.int .i64 x.i,.int .i64 x.j,.slice x.ad x.ln x.cp,.int .i64 x.wt,.int .i64 x.nm] 73 (0,0))
theorem jG.cells{a:Nat}{x:Cd}(b:jG w a x):w.cell? ⟨a,0,none⟩=some (.int .i64 x.r)/\w.cell? ⟨a,1,none⟩=some (.int .i64 x.a)/\w.cell? ⟨a,2,none⟩=some (.int .i64 x.b)/\w.cell? ⟨a,3,none⟩=some (.int .i64 x.i)/\w.cell? ⟨a,4,none⟩=some (.int .i64 x.j)/\w.cell? ⟨a,5,none⟩=some (.slice x.ad x.ln x.cp)/\w.cell? ⟨a,6,none⟩=some (.int .i64 x.wt)/\w.cell? ⟨a,7,none⟩=some (.int .i64 x.nm):=by refine ⟨?_,?_,?_,?_,?_,?_,?_,?_⟩<;>simp [zx,show w.heap[a]?=_ from b]
theorem jG.frz{a:Nat}{d:Cd}(b:jG w a d)(c:Nat):w.frozen? ⟨a,c,none⟩=false:=by simp [zo,show w.heap[a]?=_ from b]
theorem jG.grown{a:Nat}{x:Cd}{c:Option Nat}(b:jG w a x)(d:w.grownBy w' c)(e:some a≠c):jG w' a x:=(d.block a (zz.1 b).1 e).trans b
theorem jG.below{a:Nat}{x:Cd}(b:jG w a x)(c:aB w w'):jG w' a x:=(c.block a (zz.1 b).1).trans b
theorem jG.put{b:Nat}{x y:Cd}(f:jG w b x):jG (gK w b 0 y) b y:=by
 have a:∀(c:World) (d:Array Value) (k:Nat) (v:Value),c.heap[b]?=some (.cells d 73 (0,0))->(c.setCell ⟨b,k,none⟩ v).heap[b]?=some (.cells (d.setIfInBounds k v) 73 (0,0)):=λc d k v e=>by
  have i:=(zz.1 e).1;show (c.heap.modify b _)[b]?=_;rw [zw (by rw [zr];exact i),zv,(zz.1 e).2];rfl
 unfold jG gK;simp only [zm];rw [a _ _ 7 _ (a _ _ 6 _ (a _ _ 5 _ (a _ _ 4 _ (a _ _ 3 _ (a _ _ 2 _ (a _ _ 1 _ (a _ _ 0 _ f)))))))];simp
theorem aOd:∀(b:List Cd) (a:Nat),(gT b).take (a*8)=gT (b.take a)
 |[],a=>by simp [gT]
 |x::b,0=>by simp [gT]
 |x::b,a+1=>by
  rw [xD,List.take_succ_cons,xD,<-aOd b a,show (a+1)*8=x.cells.length+a*8 by rw [aC2];omega,List.take_length_add_append]
theorem cG.other{b:Nat}{c:List Cd}(a:cG B w hp v c)(d:w.grownBy w' (some b))(f:hp≠b)(e:v.ownBlock≠some b):cG B w' hp v c:=
 ⟨(d.block hp (zz.1 a.box).1 (by simp;omega)).trans a.box,dQ a.row d (zl e),a.base⟩
theorem cG.shrink{b:List Cd}(a:cG B w hp (.slice (some ⟨g,0,none⟩) n cap) b){m:Nat}(k:m<=b.length):cG B (w.setCell ⟨hp,0,none⟩ (.slice (some ⟨g,0,none⟩) m cap)) hp (.slice (some ⟨g,0,none⟩) m cap) (b.take m)/\w.grownBy (w.setCell ⟨hp,0,none⟩ (.slice (some ⟨g,0,none⟩) m cap)) (some hp):=by
 have j:=(zz.1 a.box).1;have o:=dZ a.row a.box (by decide);refine ⟨⟨?_,?_,a.base⟩,cN w ⟨hp,0,none⟩ _⟩
 ·show (w.heap.modify hp _)[hp]?=_;rw [zw (by rw [zr];exact j),zv,(zz.1 a.box).2];rfl
 ·refine dQ ?_ (cN w ⟨hp,0,none⟩ _) (zl (by simpa [zq] using o));obtain ⟨u,⟨c,_⟩|⟨t,s,e,c,f,i,x,l,r,p⟩⟩:=a.row
  ·cases c
  ·simp at c;obtain ⟨rfl,_,rfl⟩:=c;have d:(b.take m).length=m:=by simp;omega
   rw [d];refine ⟨by rw [aO3,d],zl ⟨g,cap,e,rfl,f,i,by omega,l,r,?_⟩⟩;rw [<-aOd,<-p,List.take_take,Nat.min_eq_left (Nat.mul_le_mul_right 8 k)]
theorem cG.get{a:List Cd}(e:cG B w hp (.slice (some ⟨g,0,none⟩) n cap) a){k:Nat}{x:Cd}(f:a[k]?=some x):aO8 w g k x:=by obtain ⟨i,d⟩:=zp.1 f;obtain ⟨l,j,b,c⟩:=e.at i;simp at b;obtain ⟨rfl,_⟩:=b;rw [d] at c;exact c
theorem bDn(B hp:Nat)(v:Value)(d:List Cd)(w:World)(P:cG B w hp v d)(Q:0<d.length)(j4:d.length<=1000000)(h0:B<=w.heap.size):Calls zu 46 #[.pointer (some ⟨hp,0,none⟩)] w λk w'=>k=.returned (.tuple #[d[0].agg,.bool true])/\∃i7,cG B w' hp i7 (jU d)/\Mv [73,100] B w w':=by
 obtain ⟨a,L⟩ : ∃a,d.length=a+1:=⟨d.length-1,by omega⟩;obtain ⟨g,cap,rfl,h1⟩:=P.at Q;clear h1;obtain ⟨b,a0⟩ : ∃b,d[a]=b:=⟨_,rfl⟩;obtain ⟨c,Z⟩ : ∃c,d[0]=c:=⟨_,rfl⟩;have d1:jU d=kY a ((d.set 0 b).take a) 0:=by
  unfold jU;have:d.getLast?=some b:=by rw [List.getLast?_eq_getElem?,L,Nat.add_sub_cancel,zs (by omega),a0]
  rw [this,L];rfl
 rw [Z,d1];clear d1;have e2:d[a]?=some b:=by rw [zs (by omega),a0]
 have e1:d[0]?=some c:=by rw [zs Q,Z]
 have b6:=aA e1;have b7:=aA e2;have G:=aA L;have k2:(d.length:Int)-1=(a:Int):=by omega
 have j9:¬((d.length:Int)=0):=by omega
 have j8:(0:Int)<(d.length:Int):=by omega
 have k4:(a:Int)<(d.length:Int):=by omega
 have k3:(a:Int)<=(d.length:Int):=by omega
 have k5:(0:Int)<=(a:Int):=by omega
 have k6:wrap64 ((d.length:Int)-1)=(a:Int):=by unfold wrap64;omega
 have E:=aA P;clear P Z a0 L e1 e2 Q;generalize hle:d.length=ml at *;have F:=aA hle;clear hle;go_enter Tryz.func46,Tryz.ntmps46;obtain ⟨f,h7,R,h5,d2,c8⟩:=bDl w;have H:=E.o.below R;have b8:=H.c0.1;have g6:∀e,(f.alloc e).cell? ⟨hp,0,none⟩=some (.slice (some ⟨g,0,none⟩) ml cap):=λe=>aC ((Below.refl _ f).alloc (zy _) e) b8
 obtain ⟨o,p,r,s,t,u,x,y⟩:=H.get b6.o;simp only [Nat.zero_mul,zm] at o p r s t u x y;have f8:=λe=>aC ((Below.refl _ f).alloc (zy _) e) o
 have f9:=λe=>aC ((Below.refl _ f).alloc (zy _) e) p
 have g0:=λe=>aC ((Below.refl _ f).alloc (zy _) e) r
 have g1:=λe=>aC ((Below.refl _ f).alloc (zy _) e) s
 have g2:=λe=>aC ((Below.refl _ f).alloc (zy _) e) t
 have g3:=λe=>aC ((Below.refl _ f).alloc (zy _) e) u
 have g4:=λe=>aC ((Below.refl _ f).alloc (zy _) e) x
 have g5:=λe=>aC ((Below.refl _ f).alloc (zy _) e) y
 have b1:=aA H;clear H;have k1:zu.follows .mixedOrders=true:=by kernel_rfl
 go_wp2;clear h7;go_region;have j6:g<w.heap.size:=(cU E.o.row g rfl).2;have j7:hp<w.heap.size:=(zz.1 E.o.box).1;have k0:(a:Int)<=(cap:Int):=by
  obtain ⟨_,⟨k,_⟩|⟨j3,i9,j0,k,_,_,j5,_⟩⟩:=E.o.row
  ·cases k
  ·simp at k;have:=F.o;omega
 have h6:∃i,(f.alloc (.cells #[.int .i64 c.r,.int .i64 c.a,.int .i64 c.b,.int .i64 c.i,.int .i64 c.j,.slice c.ad c.ln c.cp,.int .i64 c.wt,.int .i64 c.nm] 73)).drew=i/\aB f i/\jG i (w.heap.size+2) c:=by refine ⟨_,rfl,((Below.refl _ f).alloc (zy _) _).trans ((aU ⟨1,rfl⟩).mono (by simp)),?_⟩;rw [<-h5];exact zt f _
 obtain ⟨i,d7,A,c1⟩:=h6;simp only [d7];clear d7;have d3:jG i w.heap.size iJ:=jG.below (w:=f) d2 A;have c9:jG i (w.heap.size+1) iJ:=jG.below (w:=f) c8 A;have l:=b1.o.below A;have b2:=aA (Mv.of_below (S:=[73,100]) (B:=B) (bK R A));clear d2 c8 A R b1 b8 g6 o p r s t u x y f8 f9 g0 g1 g2 g3 g4 g5;have g7:=l.c0.1;obtain ⟨o,p,r,s,t,u,x,y⟩:=l.get b6.o;simp only [Nat.zero_mul,zm] at o p r s t u x y;obtain ⟨a2,a3,a4,a5,a6,a7,a8,a9⟩:=l.get b7.o;have V:=l.frozen;have N:=aA l;clear l;go_wp2;go_region;have X:=N.o.put (k:=0) (x:=b) F.o.symm (by have:=G.o;have:=F.o;omega);have d8:((((((((i.setCell ⟨g,0,none⟩ (.int .i64 b.r)).setCell ⟨g,1,none⟩ (.int .i64 b.a)).setCell ⟨g,2,none⟩ (.int .i64 b.b)).setCell ⟨g,3,none⟩ (.int .i64 b.i)).setCell ⟨g,4,none⟩ (.int .i64 b.j)).setCell ⟨g,5,none⟩ (.slice b.ad b.ln b.cp)).setCell ⟨g,6,none⟩ (.int .i64 b.wt)).setCell ⟨g,7,none⟩ (.int .i64 b.nm))=gK i g (0*8) b:=rfl;simp only [d8];clear d8 o p r s t u x y a2 a3 a4 a5 a6 a7 a8 a9 g7 V;have T:Below (gK i g (0*8) b).heap.size (gK i g (0*8) b) (gK i g (0*8) b).drew:=aU ⟨1,rfl⟩;have z:=X.1.below T;have C:=lP X.2 (gM T);have d4:=d3.grown C (by simp;omega);have d0:=c9.grown C (by simp;omega);have c2:=c1.grown C (by simp;omega);have b3:=aA (b2.o.trans ((N.o.mv (w':=(gK i g (0*8) b).drew) C).mono (by simp) (zy _)));clear X T C d3 c9 c1 b2 N;generalize (gK i g (0*8) b).drew=w4 at *;have e3:(d.set 0 b)[a]?=some b:=by
  have b9:=b7.o;have g9:=(zp.1 b9).1;by_cases h4:a=0
  ·subst h4;simp [g9]
  ·rw [List.getElem?_set_ne (by omega)];exact b9
 have g8:=z.c0.1;obtain ⟨a2,a3,a4,a5,a6,a7,a8,a9⟩:=z.get e3;obtain ⟨e4,e5,e6,e7,e8,e9,f0,f1⟩:=d0.cells;simp only [iJ] at e4 e5 e6 e7 e8 e9 f0 f1;have V:=z.frozen;have O:=aA z;clear z;go_wp2;go_region;have D:(d.set 0 b).length=ml:=by rw [List.length_set];exact F.o
 have Y:=O.o.put (k:=a) (x:=iJ) D.symm (by rw [D];have:=G.o;omega);have d9:((((((((w4.setCell ⟨g,a*8,none⟩ (.int .i64 0)).setCell ⟨g,a*8+1,none⟩ (.int .i64 0)).setCell ⟨g,a*8+2,none⟩ (.int .i64 0)).setCell ⟨g,a*8+3,none⟩ (.int .i64 0)).setCell ⟨g,a*8+4,none⟩ (.int .i64 0)).setCell ⟨g,a*8+5,none⟩ (.slice none 0 0)).setCell ⟨g,a*8+6,none⟩ (.int .i64 0)).setCell ⟨g,a*8+7,none⟩ (.int .i64 0))=gK w4 g (a*8) iJ:=rfl;simp only [d9];clear d9 e4 e5 e6 e7 e8 e9 f0 f1 a2 a3 a4 a5 a6 a7 a8 a9 g8 V;have U:Below (gK w4 g (a*8) iJ).heap.size (gK w4 g (a*8) iJ) (gK w4 g (a*8) iJ).drew:=aU ⟨1,rfl⟩;have m:=Y.1.below U;have I:=lP Y.2 (gM U);have d5:=d4.grown I (by simp;omega);have c3:=c2.grown I (by simp;omega);have b4:=aA (b3.o.trans ((O.o.mv (w':=(gK w4 g (a*8) iJ).drew) I).mono (by simp) (zy _)));clear Y U I d4 d0 c2 b3 O;generalize (gK w4 g (a*8) iJ).drew=w5 at *;have i8:=m.c0.1;have j1:=m.frz;have j:=m.shrink (m:=a) (by rw [List.length_set,D];have:=G.o;omega);have c7:((d.set 0 b).set a iJ).take a=(d.set 0 b).take a:=by rw [List.take_set_of_le (zy _)]
 rw [c7] at j;have d6:=d5.grown j.2 (by simp;omega);have c4:=c3.grown j.2 (by simp;omega);have f5:=aA (b4.o.trans (Mv.of_grown (S:=[73,100]) (B:=B) j.2 (λh8 W=>by cases W;exact ⟨m.base,_,_,m.box,by simp⟩)));have h3:((d.set 0 b).take a).length=a:=by rw [List.length_take,D];have:=G.o;omega
 have b0:=aA (bDi B hp _ ((d.set 0 b).take a) _ j.1 (by omega));rw [h3] at b0;have f7:=aA d6;have f2:=aA c4;have f3:=aA j.1;clear d5 c3 b4 m j d6 c4 c7 e3 D;go_wp2_with (first
  |(go_at_call 73;refine (aD b0).mono ?_;rintro k a1 ⟨⟨m3,rfl⟩,c0,J⟩;have M:=f7.o.grown J (by simp [zq];omega);have c5:=f2.o.grown J (by simp [zq];omega);obtain ⟨k7,k8,k9,l0,l1,l2,l3,l4⟩:=c5.cells;obtain ⟨l5,l6,l7,l8,l9,m0,m1,m2⟩:=M.cells;have j2:=M.frz;have b5:=aA M;have f4:=aA c0;have f6:=aA (f5.o.trans ((f3.o.mv J).mono (by simp) (zy _)));clear M c5 c0 J)
  |go_in)
 have e0:((((((((a1.setCell ⟨w.heap.size,0,none⟩ (.int .i64 c.r)).setCell ⟨w.heap.size,1,none⟩ (.int .i64 c.a)).setCell ⟨w.heap.size,2,none⟩ (.int .i64 c.b)).setCell ⟨w.heap.size,3,none⟩ (.int .i64 c.i)).setCell ⟨w.heap.size,4,none⟩ (.int .i64 c.j)).setCell ⟨w.heap.size,5,none⟩ (.slice c.ad c.ln c.cp)).setCell ⟨w.heap.size,6,none⟩ (.int .i64 c.wt)).setCell ⟨w.heap.size,7,none⟩ (.int .i64 c.nm))=gK a1 w.heap.size 0 c:=rfl;simp only [e0];clear e0;have h2:=b5.o.put (y:=c);have c6:=aO5 a1 w.heap.size 0 c;obtain ⟨h9,i0,i1,i2,i3,i4,i5,i6⟩:=h2.cells;refine bodyPost_ret (v:=.tuple #[c.agg,.bool true]) (by simp [results,Tryz.results46,go_sem,h9,i0,i1,i2,i3,i4,i5,i6,Cd.agg];try rfl) rfl ?_;exact ⟨rfl,_,f4.o.other c6 (by omega) (by simp [zq];omega),f6.o.trans (Mv.of_grown c6 (λh8 W=>by cases W;exact ⟨h0,_,_,b5.o,by simp⟩))⟩
