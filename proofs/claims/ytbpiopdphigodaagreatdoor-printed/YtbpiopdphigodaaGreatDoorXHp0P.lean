import Derived.Test.YtbpiopdphigodaaGreatDoorONumberP
import Derived.Handy
import Derived.Deep.RegionHeld3
import Derived.Lib.SliceRun
open Array renaming getElem?_eq_some_iff→zz
open List renaming findIdx_lt_length→zw,take_succ_eq_append_getElem→zv,any_eq_true→zu,getElem_mem→zt,length_set→zs,replicate→zr,getElem?_eq_getElem→zq,take_take→zp,getElem_of_mem→zo,take_set_of_le→zn
open Nat renaming le_refl→zy,lt_of_lt_of_le→zl
namespace Go.Proofs.YtbpiopdphigodaaGreatDoor
open _root_.Go.Proofs.Tryz renaming prog→zx
set_option maxHeartbeats 8000000
set_option maxRecDepth 100000
open Go.RowKit
variable{ks:List Nat}{B cap g hp n:Nat}{v:Value}{w:World}
structure Cd where
 r:Int
 a:Int
 b:Int
 i:Int
 j:Int
 ad:Option Addr
 ln:Nat
 cp:Nat
 wt:Int
 nm:Int
 c:List Lt
def Cd.cells(x:Cd):List Value:=[.int .i64 x.r,.int .i64 x.a,.int .i64 x.b,.int .i64 x.i,.int .i64 x.j,.slice x.ad x.ln x.cp,.int .i64 x.wt,.int .i64 x.nm]
def Cd.agg(x:Cd):Value:=.agg #[.int .i64 x.r,.int .i64 x.a,.int .i64 x.b,.int .i64 x.i,.int .i64 x.j,.slice x.ad x.ln x.cp,.int .i64 x.wt,.int .i64 x.nm]
def gG(a:List Cd):List Value:=a.flatMap Cd.cells
theorem aY6:(zx.info? 96).map (λa=>(a.zero,a.size,a.bytes))=some (some (.agg #[.int .i64 0,.int .i64 0,.int .i64 0,.int .i64 0,.int .i64 0,.slice none 0 0,.int .i64 0,.int .i64 0]),8,80):=by kernel_rfl
theorem aKb(a:List Cd):(gG a).length=a.length*8:=by
 induction a with
 |nil=>rfl
 |cons x r ih=>simp [gG,Cd.cells] at ih ⊢;omega
theorem uV(b:Cd)(a:List Cd):gG (b::a)=b.cells++gG a:=rfl
theorem aY7(a b:List Cd):gG (a++b)=gG a++gG b:=by simp [gG]
theorem zV(a:Cd):a.cells.length=8:=rfl
theorem qY:∀(c:List Cd) (a:Nat) (d:a<c.length) (b:Nat),b<8->(gG c)[a*8+b]?=(c[a]).cells[b]?
 |[],a,d,_,_=>by simp at d
 |x::c,0,_,b,ht=>by rw [uV,List.getElem?_append_left (by rw [zV];omega)];simp
 |x::c,a+1,d,b,ht=>by
  have:=qY c a (by simpa using d) b ht;rw [uV,List.getElem?_append_right (by rw [zV];omega),zV,show (a+1)*8+b-8=a*8+b by omega,this];simp
def zW(c:List Value)(b:Nat)(a:Cd):List Value:=(((((((c.set b (.int .i64 a.r)).set (b+1) (.int .i64 a.a)).set (b+2) (.int .i64 a.b)).set (b+3) (.int .i64 a.i)).set (b+4) (.int .i64 a.j)).set (b+5) (.slice a.ad a.ln a.cp)).set (b+6) (.int .i64 a.wt)).set (b+7) (.int .i64 a.nm)
theorem aKc:∀(b:List Cd) (a:Nat) (c:Cd),a<b.length->zW (gG b) (a*8) c=gG (b.set a c)
 |[],a,_,h=>by simp at h
 |y::b,0,c,_=>by simp [zW,gG,Cd.cells]
 |y::b,a+1,c,h=>by
  have:=aKc b a c (by simpa using h);rw [List.set_cons_succ,uV,uV,<-this];have d:(a+1)*8=a*8+8:=by omega
  simp only [zW,d];simp [Cd.cells]
theorem qZ{d:TypeId}{i:Nat}{f:List Value}(k:w.ownsRow B d i (.slice (some ⟨g,0,none⟩) n cap) n f)(b:Nat)(c:Value):(w.setCell ⟨g,b,none⟩ c).ownsRow B d i (.slice (some ⟨g,0,none⟩) n cap) n (f.set b c):=by
 obtain ⟨l,⟨a,_⟩|⟨u,t,j,a,m,e,o,q,s,r⟩⟩:=k
 ·cases a
 ·simp at a;obtain ⟨rfl,rfl⟩:=a;refine ⟨by simpa using l,Or.inr ⟨g,cap,j.setIfInBounds b c,rfl,m,?_,o,q,by simpa using s,?_⟩⟩
  ·have p:=(zz.1 e).1;show (w.heap.modify g _)[g]?=_;rw [Array.getElem?_eq_getElem (by rw [Array.size_modify];exact p),Array.getElem_modify_self];rw [(zz.1 e).2];rfl
  ·rw [<-r];simp [List.take_set]
structure bZ(B:Nat)(w:World)(hp:Nat)(v:Value)(L:List Cd):Prop where
 box:w.heap[hp]?=some (.cells #[v,.func (.func 41) #[] #[]] 120 (0,0))
 row:w.ownsRow B 96 8 v L.length (gG L)
 base:B<=hp
theorem bZ.c0{b:List Cd}(a:bZ B w hp v b):w.cell? ⟨hp,0,none⟩=some v/\w.cell? ⟨hp,1,none⟩=some (.func (.func 41) #[] #[]):=⟨by simp [World.cell?,a.box],by simp [World.cell?,a.box]⟩
theorem bZ.cells{a:List Cd}(d:bZ B w hp v a){k:Nat}(b:k<a.length):∃g cap,v=.slice (some ⟨g,0,none⟩) a.length cap/\w.cell? ⟨g,k*8,none⟩=some (.int .i64 a[k].r)/\w.cell? ⟨g,k*8+1,none⟩=some (.int .i64 a[k].a)/\w.cell? ⟨g,k*8+2,none⟩=some (.int .i64 a[k].b)/\w.cell? ⟨g,k*8+3,none⟩=some (.int .i64 a[k].i)/\
   w.cell? ⟨g,k*8+4,none⟩=some (.int .i64 a[k].j)/\w.cell? ⟨g,k*8+5,none⟩=some (.slice a[k].ad a[k].ln a[k].cp)/\w.cell? ⟨g,k*8+6,none⟩=some (.int .i64 a[k].wt)/\w.cell? ⟨g,k*8+7,none⟩=some (.int .i64 a[k].nm):=by
 obtain ⟨i,⟨_,f⟩|⟨g,cap,e,rfl,j,l,o⟩⟩:=d.row
 ·omega
 ·have c:=d.row;have m:=aKb a;refine ⟨g,cap,rfl,?_,?_,?_,?_,?_,?_,?_,?_⟩
  ·rw [c.cellAt (k*8) (by omega)];exact qY a k b 0 (by omega)
  ·rw [c.cellAt (k*8+1) (by omega)];exact qY a k b 1 (by omega)
  ·rw [c.cellAt (k*8+2) (by omega)];exact qY a k b 2 (by omega)
  ·rw [c.cellAt (k*8+3) (by omega)];exact qY a k b 3 (by omega)
  ·rw [c.cellAt (k*8+4) (by omega)];exact qY a k b 4 (by omega)
  ·rw [c.cellAt (k*8+5) (by omega)];exact qY a k b 5 (by omega)
  ·rw [c.cellAt (k*8+6) (by omega)];exact qY a k b 6 (by omega)
  ·rw [c.cellAt (k*8+7) (by omega)];exact qY a k b 7 (by omega)
def fW(w:World)(g a:Nat)(x:Cd):World:=(((((((w.setCell ⟨g,a,none⟩ (.int .i64 x.r)).setCell ⟨g,a+1,none⟩ (.int .i64 x.a)).setCell ⟨g,a+2,none⟩ (.int .i64 x.b)).setCell ⟨g,a+3,none⟩ (.int .i64 x.i)).setCell ⟨g,a+4,none⟩ (.int .i64 x.j)).setCell ⟨g,a+5,none⟩ (.slice x.ad x.ln x.cp)).setCell ⟨g,a+6,none⟩ (.int .i64 x.wt)).setCell ⟨g,a+7,none⟩ (.int .i64 x.nm)
theorem aY8{b:Nat}{c:TypeId}{a:List Cd}{x:Cd}(d:w.ownsRow B c 8 (.slice (some ⟨g,0,none⟩) n cap) n (gG a))(e:b<a.length):(fW w g (b*8) x).ownsRow B c 8 (.slice (some ⟨g,0,none⟩) n cap) n (gG (a.set b x)):=by rw [<-aKc a b x e];unfold fW zW;exact qZ (qZ (qZ (qZ (qZ (qZ (qZ (qZ d _ _) _ _) _ _) _ _) _ _) _ _) _ _) _ _
theorem aKd(w:World)(g k:Nat)(x:Cd):w.grownBy (fW w g k x) (some g):=by
 unfold fW;have a:∀(d:World) (e:Nat) (v:Value),w.grownBy d (some g)->w.grownBy (d.setCell ⟨g,e,none⟩ v) (some g):=λd e v b=>by
  have c:=cJ d ⟨g,e,none⟩ v;exact ⟨c.os.trans b.os,c.tape.trans b.tape,c.output.trans b.output,Nat.le_trans b.size c.size,λj f i=>(c.block j (zl f b.size) i).trans (b.block j f i)⟩
 refine a _ _ _ (a _ _ _ (a _ _ _ (a _ _ _ (a _ _ _ (a _ _ _ (a _ _ _ (a _ _ _ ?_)))))));exact ⟨rfl,rfl,rfl,zy _,λ_ _ _=>rfl⟩
theorem aY9(w:World)(g b a:Nat)(x:Cd)(c:a<b\/b+8<=a):(fW w g b x).cell? ⟨g,a,none⟩=w.cell? ⟨g,a,none⟩:=by unfold fW;iterate 8 rw [World.cell?_setCell_other _ _ _ _ (by intro c;simp only [Addr.mk.injEq] at c;omega)]
theorem bZ.frozen{b:List Cd}(c:bZ B w hp (.slice (some ⟨g,0,none⟩) n cap) b)(e:Nat):w.frozen? ⟨g,e,none⟩=false:=by
 obtain ⟨_,⟨a,_⟩|⟨j,f,i,a,k,d,_⟩⟩:=c.row
 ·cases a
 ·simp at a;obtain ⟨rfl,_⟩:=a;simp [World.frozen?,d]
def kU(a b:Cd):Bool:=if a.wt=b.wt then decide (a.nm<b.nm) else decide (a.wt<b.wt)
theorem aKe(a b:Cd)(w:World):Calls zx 41 #[a.agg,b.agg] w λc f=>c=.returned (.bool (kU a b))/\aB w f:=by
 unfold Cd.agg;go_enter Tryz.func41,Tryz.ntmps41;go_wp2
 ·have e:a.wt≠b.wt:=by simpa using ‹(a.wt != b.wt)=true›
  go_ret;exact ⟨by simp [kU,e],((Below.refl _ w).alloc (zy _) _).alloc (by simp) _⟩
 ·have d:a.wt=b.wt:=by simpa using ‹(a.wt != b.wt)=false›
  go_ret;exact ⟨by simp [kU,d],((Below.refl _ w).alloc (zy _) _).alloc (by simp) _⟩
theorem bZ.below{w':World}{b:List Cd}(a:bZ B w hp v b)(c:aB w w'):bZ B w' hp v b:=
 ⟨(c.block _ (zz.1 a.box).1).trans a.box,bF a.row c (zy _),a.base⟩
theorem bZ.put{k:Nat}{c:List Cd}{x:Cd}(b:bZ B w hp (.slice (some ⟨g,0,none⟩) n cap) c)(i:n=c.length)(f:k<c.length):bZ B (fW w g (k*8) x) hp (.slice (some ⟨g,0,none⟩) n cap) (c.set k x)/\w.grownBy (fW w g (k*8) x) (some g):=by
 subst i;obtain ⟨_,⟨a,_⟩|⟨m,j,l,a,_,e,_⟩⟩:=b.row
 ·cases a
 ·simp at a;obtain ⟨rfl,rfl⟩:=a;have d:=aKd w g (k*8) x;refine ⟨⟨?_,?_,b.base⟩,d⟩
  ·rw [d.block hp (zz.1 b.box).1 (by
    intro a;cases a;rw [b.box] at e;cases e)]
   exact b.box
  ·have:=aY8 (x:=x) b.row f;simpa using this
theorem kV{d e f:World}{c:Option Nat}(a:d.grownBy e c)(b:e.grownBy f c):d.grownBy f c:=
 ⟨b.os.trans a.os,b.tape.trans a.tape,b.output.trans a.output,Nat.le_trans a.size b.size,λk i j=>(b.block k (zl i a.size) j).trans (a.block k i j)⟩
theorem bZ.mv{w':World}{b:List Cd}(d:bZ B w hp v b)(f:w.grownBy w' v.ownBlock):Mv [96] B w w':=by
 refine Mv.of_grown f (λk a=>?_);obtain ⟨_,⟨rfl,_⟩|⟨g,cap,c,rfl,e,i,_⟩⟩:=d.row
 ·cases a
 ·cases a;exact ⟨e,c,_,i,by simp⟩
def nX(a:List Cd)(b c:Nat)(d:b<a.length)(e:c<a.length):List Cd:=(a.set b a[c]).set c a[b]
theorem xA{a:List Cd}{b c:Nat}(d:b<a.length)(e:c<a.length):(nX a b c d e).length=a.length:=by simp [nX]
theorem aKf(B hp:Nat)(v:Value)(a:List Cd)(d b:Nat)(w:World)(e:bZ B w hp v a)(i:d<a.length)(j:b<a.length)(U:d≠b):Calls zx 118 #[.pointer (some ⟨hp,0,none⟩),.int .i64 d,.int .i64 b] w λf o=>(∃r,f=.returned r)/\bZ B o hp v (nX a d b i j)/\w.grownBy o v.ownBlock:=by
 obtain ⟨g,cap,rfl,W,X,Y,Z,a0,a1,a2,a3⟩:=e.cells i;obtain ⟨P,O,f,s,u,y,z,A,C,D,E⟩:=e.cells j;cases f;have N:=e.c0.1;have S:=e.frozen;have Q:(d:Int)<(a.length:Int):=by omega
 have R:(b:Int)<(a.length:Int):=by omega
 have c:=λt (V:t<8)=>aY9 w g (d*8) (b*8+t) a[b] (by omega)
 have p:=(c 0 (by omega)).trans s;have F:=(c 1 (by omega)).trans u;have G:=(c 2 (by omega)).trans y;have H:=(c 3 (by omega)).trans z;have I:=(c 4 (by omega)).trans A;have J:=(c 5 (by omega)).trans C;have L:=(c 6 (by omega)).trans D;have M:=(c 7 (by omega)).trans E;clear c;unfold fW at p F G H I J L M;simp only [Nat.add_zero] at p;have q:=aA e;clear e;go_enter Tryz.func118,Tryz.ntmps118;have T:zx.follows .mixedOrders=true:=by kernel_rfl
 go_region;go_end0;have l:=q.o.put (x:=a[b]) rfl i;have m:=l.1.put (k:=b) (x:=a[d]) (by simp) (by simpa using j);refine ⟨⟨_,rfl⟩,?_,?_⟩
 ·exact m.1.below (aQ ⟨1,rfl⟩)
 ·exact kV (kV l.2 m.2) (fX (aQ ⟨1,rfl⟩))
def dQ(B:Nat)(w:World)(v:Value)(ks:List Nat):Prop:=w.ownsRow B 3 1 v ks.length (ks.map λa=>Value.int .i64 (a:Nat))
theorem dQ.cell{a:Option Addr}(c:dQ B w (.slice a n cap) ks){i:Nat}(d:i<ks.length):∃g,a=some ⟨g,0,none⟩/\w.cell? ⟨g,i,none⟩=some (.int .i64 (ks[i]:Nat)):=by
 have e:w.ownsRow B 3 1 (.slice a n cap) ks.length (ks.map λk=>Value.int .i64 (k:Nat)):=c;obtain ⟨_,⟨_,b⟩|⟨g,f,j,b,_⟩⟩:=c
 ·omega
 ·simp at b;refine ⟨g,b.1,?_⟩;obtain ⟨rfl,rfl,rfl⟩:=b;rw [e.cellAt i (by simpa using d)];simp [d]
theorem dQ.shape(b:dQ B w v ks):∃a cap,v=.slice a ks.length cap:=aY b
def nY(p:Nat->Bool)(ks:List Nat):Int:=if ks.findIdx p<ks.length then (ks.findIdx p:Nat) else -1
theorem aKg{p:Nat->Bool}{a:Nat}(d:a<ks.length)(f:p ks[a]=true)(i:∀b (c:b<a),p (ks[b]'(by omega))=false):nY p ks=(a:Nat):=by have e:ks.findIdx p=a:=(List.findIdx_eq d).2 ⟨f,λb c=>by simpa using i b c⟩;unfold nY;rw [e,aG d]
theorem aDj{p:Nat->Bool}(d:∀a (b:a<ks.length),p ks[a]=false):nY p ks=-1:=by
 have c:ks.findIdx p=ks.length:=List.findIdx_eq_length.2 (λf e=>by
  obtain ⟨a,b,rfl⟩:=zo e;exact d a b)
 unfold nY;rw [c,aF (by omega)]
theorem aYa{p:Nat->Bool}:decide (0<=nY p ks)=ks.any p:=by
 unfold nY;split
 ·rename_i a;rw [show decide (0<=((ks.findIdx p:Nat):Int))=true by simp];rw [zw] at a;exact (zu.2 a).symm
 ·rename_i a;rw [zw] at a;have:ks.any p=false:=by
   rw [Bool.eq_false_iff];exact λb=>a (zu.1 b)
  rw [this];rfl
def aKh(w:World)(c d:Nat)(p:Nat->Bool)(ks:List Nat):Prop:=∀b∈ks,∀a,aB w a->Calls zx 99 #[.int .i64 (b:Nat),.pointer (some ⟨c,0,none⟩),.pointer (some ⟨d,0,none⟩)] a λe f=>e=.returned (.bool (p b))/\aB a f
theorem aYb(B A C:Nat)(p:Nat->Bool)(z:Option Addr)(cap:Nat)(ks:List Nat)(w:World)(e:dQ B w (.slice z ks.length cap) ks)(Q:ks.length<=1000000)(F:aKh w A C p ks):Calls zx 103 #[.slice z ks.length cap,.func (.func 99) #[] #[.pointer (some ⟨A,0,none⟩),.pointer (some ⟨C,0,none⟩)]] w λr J=>r=.returned (.int .i64 (nY p ks))/\aB w J:=by
 have H:=aA F;have G:=aA e;clear F e;go_enter Tryz.func103,Tryz.ntmps103;go_wp2;go_loopw [8] (λx wr=>∃b:Nat,b<=ks.length/\x=.int .i64 b/\(∀a (d:a<ks.length),a<b->p ks[a]=false)/\aB w wr) (λx _=>ks.length-(intOf x).toNat);case atStart=>exact ⟨0,Nat.zero_le _,rfl,λa _ e=>by omega,Below.refl _ _⟩
 case round=>
  obtain ⟨b,N,rfl,E,c⟩:=hrel;have o:=aA E;have l:=aA c;clear E;by_cases u:b<ks.length
  ·obtain ⟨g,rfl,s⟩:=G.o.cell u;have I:=aD c s;have P:(b:Int)<(ks.length:Int):=by omega
   obtain ⟨k,j⟩ : ∃k,ks[b]=k:=⟨_,rfl⟩;rw [j] at s I;have i:=aA (H.o k (by rw [<-j];exact zt u) wr c);have y:=aA j;have D:=c.size;clear s j c;cases hp:p k
   ·rw [hp] at i;have q:=aA hp;clear hp;go_wp2_with (first
     |(go_at_call 99;refine (aC i).mono ?_;rintro r L ⟨rfl,f⟩;have m:=aA (l.o.trans (f.mono D));clear f)
     |go_in)
    go_roundw;case rel=>exact ⟨b+1,by omega,by go_num,λa d M=>by
     rcases (show a<b\/a=b by omega) with e|rfl
     ·exact o.o a d e
     ·rw [y.o];exact q.o,m.o⟩
    case measure=>simp [intOf];omega
   ·rw [hp] at i;have q:=aA hp;clear hp;go_wp2_with (first
     |(go_at_call 99;refine (aC i).mono ?_;rintro r L ⟨rfl,f⟩;have m:=aA (l.o.trans (f.mono D));clear f)
     |go_in)
    go_ret;have t:=aKg u (by rw [y.o];exact q.o) (λa d=>o.o a (by omega) d);exact ⟨by rw [t];rfl,m.o⟩
  ·have O:b=ks.length:=by omega
   clear c;go_wp2;go_ret;have t:=aDj (λa d=>o.o a d (by omega));exact ⟨by rw [t];rfl,l.o⟩
theorem aYc(B b c:Nat)(p:Nat->Bool)(a:Option Addr)(cap:Nat)(ks:List Nat)(w:World)(e:dQ B w (.slice a ks.length cap) ks)(o:ks.length<=1000000)(j:aKh w b c p ks):Calls zx 98 #[.slice a ks.length cap,.func (.func 99) #[] #[.pointer (some ⟨b,0,none⟩),.pointer (some ⟨c,0,none⟩)]] w λd s=>d=.returned (.bool (ks.any p))/\aB w s:=by
 have k:=aA (aYb B b c p a cap ks w e o j);have f:=aYa (p:=p) (ks:=ks);clear e j;generalize nY p ks=r at *;generalize ks.any p=q at *;have l:=aA f;clear f;go_enter Tryz.func98,Tryz.ntmps98;go_wp2_with (go_at_call 103;refine (aC k).mono ?_;rintro d t ⟨rfl,i⟩;have m:=aA i;clear i);go_ret;exact ⟨by rw [<-l.o];rfl,m.o⟩
def aKi(w:World)(c d:Nat)(f:Nat->Bool)(ks:List Nat):Prop:=∀b∈ks,∀a,aB w a->Calls zx 76 #[.int .i64 (b:Nat),.pointer (some ⟨c,0,none⟩),.pointer (some ⟨d,0,none⟩)] a λe i=>e=.returned (.bool (f b))/\aB a i
theorem aKj(B A C:Nat)(p:Nat->Bool)(z:Option Addr)(cap:Nat)(ks:List Nat)(w:World)(e:dQ B w (.slice z ks.length cap) ks)(Q:ks.length<=1000000)(F:aKi w A C p ks):Calls zx 103 #[.slice z ks.length cap,.func (.func 76) #[] #[.pointer (some ⟨A,0,none⟩),.pointer (some ⟨C,0,none⟩)]] w λs J=>s=.returned (.int .i64 (nY p ks))/\aB w J:=by
 have H:=aA F;have G:=aA e;clear F e;go_enter Tryz.func103,Tryz.ntmps103;go_wp2;go_loopw [8] (λi wr=>∃b:Nat,b<=ks.length/\i=.int .i64 b/\(∀a (d:a<ks.length),a<b->p ks[a]=false)/\aB w wr) (λi _=>ks.length-(intOf i).toNat);case atStart=>exact ⟨0,Nat.zero_le _,rfl,λa _ e=>by omega,Below.refl _ _⟩
 case round=>
  obtain ⟨b,N,rfl,E,c⟩:=hrel;have q:=aA E;have m:=aA c;clear E;by_cases x:b<ks.length
  ·obtain ⟨g,rfl,t⟩:=G.o.cell x;have I:=aD c t;have P:(b:Int)<(ks.length:Int):=by omega
   obtain ⟨l,k⟩ : ∃l,ks[b]=l:=⟨_,rfl⟩;rw [k] at t I;have j:=aA (H.o l (by rw [<-k];exact zt x) wr c);have y:=aA k;have D:=c.size;clear t k c;cases hp:p l
   ·rw [hp] at j;have r:=aA hp;clear hp;go_wp2_with (first
     |(go_at_call 76;refine (aC j).mono ?_;rintro s L ⟨rfl,f⟩;have o:=aA (m.o.trans (f.mono D));clear f)
     |go_in)
    go_roundw;case rel=>exact ⟨b+1,by omega,by go_num,λa d M=>by
     rcases (show a<b\/a=b by omega) with e|rfl
     ·exact q.o a d e
     ·rw [y.o];exact r.o,o.o⟩
    case measure=>simp [intOf];omega
   ·rw [hp] at j;have r:=aA hp;clear hp;go_wp2_with (first
     |(go_at_call 76;refine (aC j).mono ?_;rintro s L ⟨rfl,f⟩;have o:=aA (m.o.trans (f.mono D));clear f)
     |go_in)
    go_ret;have u:=aKg x (by rw [y.o];exact r.o) (λa d=>q.o a (by omega) d);exact ⟨by rw [u];rfl,o.o⟩
  ·have O:b=ks.length:=by omega
   clear c;go_wp2;go_ret;have u:=aDj (λa d=>q.o a d (by omega));exact ⟨by rw [u];rfl,m.o⟩
theorem dQ.set(b:dQ B w (.slice (some ⟨g,0,none⟩) n cap) ks)(c:n=ks.length)(a x:Nat):dQ B (w.setCell ⟨g,a,none⟩ (.int .i64 (x:Nat))) (.slice (some ⟨g,0,none⟩) n cap) (ks.set a x)/\w.grownBy (w.setCell ⟨g,a,none⟩ (.int .i64 (x:Nat))) (some g):=by subst c;have:=qZ (w:=w) b a (.int .i64 (x:Nat));refine ⟨?_,cJ w ⟨g,a,none⟩ _⟩;unfold dQ;rw [zs,List.map_set];exact this
theorem dQ.take(c:dQ B w (.slice (some ⟨g,0,none⟩) n cap) ks){m:Nat}(r:m<=ks.length):dQ B w (.slice (some ⟨g,0,none⟩) m cap) (ks.take m):=by
 obtain ⟨p,⟨a,_⟩|⟨o,l,b,a,d,e,q,i,k,j⟩⟩:=c
 ·cases a
 ·simp at a;obtain ⟨rfl,_,rfl⟩:=a;have f:(ks.take m).length=m:=by simp;omega
  unfold dQ;rw [f];refine ⟨by simp;omega,Or.inr ⟨g,cap,b,rfl,d,e,by omega,i,k,?_⟩⟩;rw [List.map_take,<-j,zp];congr 1
  omega
theorem dQ.cleared{B:Nat}{g n cap:Nat}:∀(m a:Nat) (w:World) (ks:List Nat),dQ B w (.slice (some ⟨g,0,none⟩) n cap) ks->n=ks.length->
  ∃b,dQ B (w.setCells g a (zr m (.int .i64 0))) (.slice (some ⟨g,0,none⟩) n cap) b/\b.length=ks.length/\b.take a=ks.take a/\w.grownBy (w.setCells g a (zr m (.int .i64 0))) (some g)
 |0,a,w,ks,h,_=>⟨ks,h,rfl,rfl,⟨rfl,rfl,rfl,zy _,λ_ _ _=>rfl⟩⟩
 |m+1,a,w,ks,h,hn=>by
  obtain ⟨c,d⟩:=h.set hn a 0;obtain ⟨b,e,f,i,j⟩:=dQ.cleared m (a+1) _ _ c (by rw [zs];exact hn);refine ⟨b,e,by rw [f,zs],?_,kV d j⟩;have:=congrArg (List.take a) i;rw [zp,zp,Nat.min_eq_left (Nat.le_succ a),zn (zy _)] at this;exact this
def aYd(w:World)(g c d:Nat)(p:Nat->Bool)(ks:List Nat):Prop:=∀b∈ks,∀a,w.grownBy a (some g)->Calls zx 76 #[.int .i64 (b:Nat),.pointer (some ⟨c,0,none⟩),.pointer (some ⟨d,0,none⟩)] a λe f=>e=.returned (.bool (p b))/\aB a f
theorem aKk{p:Nat->Bool}{a:Nat}(c:a<ks.length):(ks.take (a+1)).filter (λb=>!p b)=(ks.take a).filter (λb=>!p b)++if p ks[a] then [] else [ks[a]]:=by rw [zv c,List.filter_append];cases h:p ks[a]<;>simp [h]
theorem aYe(B c d:Nat)(b:Nat->Bool)(a:Option Addr)(cap:Nat)(ks:List Nat)(w:World)(j:dQ B w (.slice a ks.length cap) ks)(q:ks.length<=1000000)(m:aKi w c d b ks)(e:ks.any b=false):Calls zx 75 #[.slice a ks.length cap,.func (.func 76) #[] #[.pointer (some ⟨c,0,none⟩),.pointer (some ⟨d,0,none⟩)]] w λi r=>i=.returned (.slice a ks.length cap)/\aB w r:=by
 have f:=aA (aKj B c d b a cap ks w j q m);have l:nY b ks=-1:=aDj (λs p=>by
  rw [Bool.eq_false_iff];intro hp;rw [zu.2 ⟨_,zt p,hp⟩] at e;cases e)
 rw [l] at f;clear j m e l;go_enter Tryz.func75,Tryz.ntmps75;go_wp2_with (first
  |(go_at_call 103;refine (aC f).mono ?_;rintro i t ⟨rfl,k⟩;have o:=aA k;clear k)
  |go_in)
 go_ret;exact ⟨rfl,o.o⟩
theorem aYf(B H I:Nat)(d:Nat->Bool)(g cap:Nat)(ks:List Nat)(w:World)(y:dQ B w (.slice (some ⟨g,0,none⟩) ks.length cap) ks)(d2:ks.length<=1000000)(N:aYd w g H I d ks)(b1:ks.any d=true):Calls zx 75 #[.slice (some ⟨g,0,none⟩) ks.length cap,.func (.func 76) #[] #[.pointer (some ⟨H,0,none⟩),.pointer (some ⟨I,0,none⟩)]] w λb b5=>b=.returned (.slice (some ⟨g,0,none⟩) (ks.filter λe=>!d e).length cap)/\dQ B b5 (.slice (some ⟨g,0,none⟩) (ks.filter λe=>!d e).length cap) (ks.filter λe=>!d e)/\w.grownBy b5 (some g):=by
 have T:=aA (aKj B H I d _ cap ks w y d2 (λe d1 t P=>N e d1 t (fX P)));have L:ks.findIdx d<ks.length:=zw.2 (zu.1 b1);obtain ⟨f,D⟩ : ∃f,ks.findIdx d=f:=⟨_,rfl⟩;have a4:nY d ks=(f:Nat):=by unfold nY;rw [aG L,D]
 rw [D] at L;have a9:d ks[f]=true:=by have:=List.findIdx_getElem (xs:=ks) (p:=d) (w:=by omega);simpa [D] using this
 have a3:(ks.take f).filter (λe=>!d e)=ks.take f:=by
  rw [List.filter_eq_self];intro m p;obtain ⟨c,a7,rfl⟩:=zo p;have e6:c<f:=by simp at a7;omega
  have:=List.not_of_lt_findIdx (xs:=ks) (p:=d) (i:=c) (by omega);rw [List.getElem_take];simpa using this
 have b0:(ks.take (f+1)).filter (λe=>!d e)=ks.take f:=by rw [aKk L,a3,aG a9,List.append_nil]
 rw [a4] at T;have e0:ks.length<=cap:=by
  obtain ⟨_,⟨b,_⟩|⟨r,Z,a0,b,_,_,A,_⟩⟩:=y
  ·cases b
  ·simp at b;omega
 have c2:=aA b0;have b9:=aA y;have c1:=aA N;have e9:((f:Int)==-1)=false:=by rw [beq_eq_false_iff_ne];omega
 clear y N b1 a4 D a9 a3 b0;go_enter Tryz.func75,Tryz.ntmps75;go_wp2_with (first
  |(go_at_call 103;refine (aC T).mono ?_;rintro b f1 ⟨rfl,a2⟩;have U:=aA a2;clear a2)
  |go_in)
 have e8:(f:Int)<(ks.length:Int):=by omega
 go_loopw [5,6] (λd4 Q wr=>∃(a c:Nat) (i:List Nat),d4=.int .i64 a/\Q=.int .i64 c/\c<=ks.length/\a<c/\i.length=ks.length/\dQ B wr (.slice (some ⟨g,0,none⟩) ks.length cap) i/\i.take a=(ks.take c).filter (λe=>!d e)/\(∀k,c<=k->i[k]?=ks[k]?)/\w.grownBy wr (some g)) (λ_ Q _=>ks.length-(intOf Q).toNat);case atStart=>exact ⟨f,f+1,ks,rfl,by simp,by omega,by omega,rfl,bF b9.o U.o (zy _),c2.o.symm,λ_ _=>rfl,fX U.o⟩
 case round=>
  obtain ⟨a,c,i,rfl,rfl,a7,e4,z,l,j,E,s⟩:=hrel;by_cases M:c<ks.length
  ·obtain ⟨m,p⟩ : ∃m,ks[c]=m:=⟨_,rfl⟩;have a1:i[c]'(by omega)=m:=by
    have:=E c (zy _);rw [zq (by omega),zq M,p] at this;exact Option.some.inj this
   obtain ⟨r,b,A⟩:=l.cell (i:=c) (by omega);cases b;rw [a1] at A;obtain ⟨b6,J⟩ : ∃b6:Nat,wr.cell? ⟨g,a,none⟩=some (.int .i64 (b6:Nat)):=by obtain ⟨r,b,J⟩:=l.cell (i:=a) (by omega);cases b;exact ⟨_,J⟩
   have u:=aA (c1.o m (by rw [<-p];exact zt M) wr s);have O:=aKk (p:=d) M;rw [p] at O;have d0:(c:Int)<(ks.length:Int):=by omega
   have e3:(a:Int)<(ks.length:Int):=by omega
   have V:=aA l;have Y:=aA j;have W:=aA E;have x:=aA s;have X:=aA O;have G:=aA z;have a6:∀t,wr.grownBy t none->t.frozen? ⟨g,a,none⟩=false:=λt P=>by
    obtain ⟨_,⟨b,_⟩|⟨r,Z,a0,b,_,C,_⟩⟩:=l
    ·cases b
    ·simp at b;obtain ⟨rfl,_⟩:=b;have:=P.block g (zz.1 C).1 (by simp);simp [World.frozen?,this,C]
   have b8:=aA a6;clear l j E s O a1 p z a6;cases hp:d m
   ·rw [hp] at u;have F:=aA hp;clear hp;go_wp2_with (first
     |(go_at_call 76;refine (aC u).mono ?_;rintro b S ⟨rfl,o⟩;have d6:=aD o J;have d7:=b8.o S (fX o);have q:=aA o;clear o)
     |go_in)
    go_roundw;case rel=>
     have c5:dQ B S (.slice (some ⟨g,0,none⟩) ks.length cap) i:=bF V.o q.o (zy _);obtain ⟨c6,c8⟩:=c5.set G.o.symm a m;have c7:=G.o;refine ⟨a+1,c+1,i.set a m,by go_num,by go_num,by omega,by omega,by rw [zs];exact c7,c6,?_,λk j=>?_,kV x.o (kV (fX q.o) c8)⟩
     ·rw [X.o,F.o,<-Y.o,zv (by simp;omega),zn (zy _)];simp
     ·rw [List.getElem?_set_ne (by omega)];exact W.o k (by omega)
    case measure=>simp [intOf];omega
   ·rw [hp] at u;have F:=aA hp;clear hp;go_wp2_with (first
     |(go_at_call 76;refine (aC u).mono ?_;rintro b S ⟨rfl,o⟩;have q:=aA o;clear o)
     |go_in)
    go_roundw;case rel=>
     refine ⟨a,c+1,i,rfl,by go_num,by omega,by omega,G.o,bF V.o q.o (zy _),?_,λk j=>W.o k (by omega),kV x.o (fX q.o)⟩;rw [X.o,F.o,<-Y.o];simp
    case measure=>simp [intOf];omega
  ·have c9:c=ks.length:=by omega
   rw [c9,List.take_length] at j;have a8:(ks.filter λe=>!d e).length=a:=by rw [<-j,List.length_take];omega
   have e1:∀R,(Builtin.clear_ #[33] R #[.slice (some ⟨g,a,none⟩) (ks.length-a) (cap-a)]).run zx wr=.ok (.tuple #[]) (wr.setCells g a (zr (ks.length-a) (.int .i64 0))):=λR=>
    Lib.run_clear_slice wr _ 3 R (.int .i64 0) Tryz.underlying33 (λw=>by obtain ⟨f0,c3,c4,d8,d9⟩:=info_parts sI;simp [zeroValue,typeInfo,c3,c4]) rfl rfl g a _ _ (by omega) (λk j=>by
     obtain ⟨r,b,A⟩:=l.cell (i:=a+k) (by omega);cases b;rw [A];rfl) (λk j=>by
     obtain ⟨_,⟨b,_⟩|⟨r,Z,a0,b,_,C,_⟩⟩:=l
     ·cases b
     ·simp at b;obtain ⟨rfl,_⟩:=b;simp [World.frozen?,C])
   obtain ⟨d5,b2,d3,b3,b4⟩:=dQ.cleared (ks.length-a) a wr i l z.symm;have a5:dQ B (wr.setCells g a (zr (ks.length-a) (.int .i64 0))) (.slice (some ⟨g,0,none⟩) a cap) (ks.filter λe=>!d e):=by have:=b2.take (m:=a) (by omega);rw [b3,j] at this;exact this
   have b7:=aA a5;have x:=aA (kV s b4);have c0:=aA a8;have d0:¬(c:Int)<(ks.length:Int):=by omega
   have e5:(a:Int)<=(ks.length:Int):=by omega
   have e2:(a:Int)<=(cap:Int):=by omega
   have e7:(ks.length:Int)<=(cap:Int):=by omega
   clear l j E s b2 d3 b3 b4 a5 z a8;go_wp2;go_ret;rw [c0.o];exact ⟨rfl,b7.o,x.o⟩
