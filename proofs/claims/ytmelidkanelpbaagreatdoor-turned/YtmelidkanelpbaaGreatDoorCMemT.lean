import Derived.Test.YtmelidkanelpbaaGreatDoorShelfT
import Derived.Deep.RegionHeld3
open Bool renaming and_eq_true→zp
open List renaming eq_nil_of_length_eq_zero→zv,map_append→zs,length_append→zr
open Nat renaming le_refl→zw,zero_le→zi
open Prod renaming fst→zm
namespace Go.Proofs.YtmelidkanelpbaaGreatDoor
open _root_.Go.Proofs.Tryz renaming prog→zq,ntmps115→zk,func115→zj
open Value renaming ownBlock→zy
open World renaming cell?_setCell_other→zz,cell?_setCell_same→zx,block_lt_of_cell?→zu,setCell→zt,frozen?_of_block→zo,cell?_of_block→zn,frozen?→zl
open Go.RowKit Go.Shelf
set_option maxHeartbeats 2000000
set_option maxRecDepth 100000
variable{l:List Nd}{xs:List Value}{B g n:Nat}{dv v:Value}{w w':World}{L:bG}
def lN(w:World)(B b:Nat):Prop:=b<B\/∀c a d,w.heap[b]?=some (.cells c a d)->a≠136/\a≠3
structure Fr(B:Nat)(w w':World):Prop where
 os:w'.os=w.os
 tape:w'.tape=w.tape
 output:w'.output=w.output
 size:w.heap.size<=w'.heap.size
 block:∀k,k<w.heap.size->lN w B k->w'.heap[k]?=w.heap[k]?
theorem Fr.refl(B:Nat)(w:World):Fr B w w:=⟨rfl,rfl,rfl,zw _,λ_ _ _=>rfl⟩
theorem lN.fr{a:Nat}(h:lN w B a)(i:a<w.heap.size)(e:Fr B w w'):lN w' B a:=by
 have d:=e.block a i h;rcases h with h|h
 ·exact Or.inl h
 ·exact Or.inr λc b f j=>h c b f (by rw [<-d];exact j)
theorem Fr.trans{B:Nat}{a b c:World}(d:Fr B a b)(k:Fr B b c):Fr B a c:=
 ⟨k.os.trans d.os,k.tape.trans d.tape,k.output.trans d.output,Nat.le_trans d.size k.size,λi e f=>by
  rw [k.block i (Nat.lt_of_lt_of_le e d.size) (f.fr e d),d.block i e f]⟩
theorem Fr.of_below(a:aB w w'):Fr B w w':=⟨a.os,a.tape,a.output,a.size,λk b _=>a.block k b⟩
theorem Fr.below(a:Fr B w w')(c:B<=w.heap.size):Below B w w':=⟨a.os,a.tape,a.output,a.size,λk b=>a.block k (by omega) (Or.inl b)⟩
theorem Fr.cell(c:Fr B w w'){a:Addr}{v:Value}(b:w.cell? a=some v)(d:lN w B a.block):w'.cell? a=some v:=
 (zn (c.block _ (zu w a b) d)).trans b
theorem Fr.alloc{a:World}(c:Fr B a w)(b:Obj):Fr B a (w.alloc b):=c.trans (.of_below ((Below.refl _ _).alloc (zw _) b))
theorem Fr.drawn{a b:World}(c:Fr B a w)(d:∃n,b=w.drewN n):Fr B a b:=c.trans (.of_below (aS d))
structure fP(w:World)(B:Nat)(a:Option Addr)(l:List Nd):Prop where
 nodes:dV w a l
 low:∀p,a=some p->p.block<B
theorem fP.fr{b:Option Addr}(a:fP w B b l)(d:Fr B w w'):fP w' B b l:=
 ⟨⟨a.nodes.few,a.nodes.short,λm k=>by
  obtain ⟨f,o,c,i,j⟩:=a.nodes.cell m k;have e:=a.low _ c;exact ⟨f,o,c,d.cell i (Or.inl e),d.cell j (Or.inl e)⟩⟩,a.low⟩
structure dD(w:World)(B:Nat)(a:Option Addr)(c:List Lt):Prop where
 few:c.length<=8
 cell:∀k (h:k<c.length),∃b o aa cap,a=some ⟨b,o,none⟩/\lN w B b/\w.cell? ⟨b,o+k*2,none⟩=some (.bool c[k].1)/\w.cell? ⟨b,o+k*2+1,none⟩=some (.slice aa c[k].2.length cap)/\c[k].2.length<=cap/\fP w B aa c[k].2
theorem dD.fr{c:Option Addr}{d:List Lt}(e:dD w B c d)(a:Fr B w w'):dD w' B c d:=
 ⟨e.few,λs r=>by
  obtain ⟨j,t,i,k,m,b,f,o,q,p⟩:=e.cell s r;exact ⟨j,t,i,k,m,b.fr (zu w _ f) a,a.cell f b,a.cell o b,q,p.fr a⟩⟩
def zR(w:World)(B:Nat)(c:Option (List Nd))(v:Value):Prop:=
 match c with
 |none=>v=.slice none 0 0
 |some t=>∃a b,v=.slice (some a) t.length b/\fP w B (some a) t
theorem zR.fr{a:Option (List Nd)}(b:zR w B a v)(e:Fr B w w'):zR w' B a v:=by
 cases a with
 |none=>exact b
 |some t=>obtain ⟨c,d,f,i⟩:=b;exact ⟨c,d,f,i.fr e⟩
structure cB(w:World)(B g:Nat)(dv:Value)(L:bG):Prop where
 low:B<=g
 blk:∃cs,w.heap[g]?=some (.cells cs 136 (0,0))
 among:w.cell? ⟨g,0,none⟩=some dv
 term:∀x:Nat,x<60->∃v,w.cell? ⟨g,1+x,none⟩=some v/\zR w B (look L (x:Int)) v
 bound:∃bv,w.cell? ⟨g,61,none⟩=some bv/\w.ownsRow B 3 1 bv L.length (L.map λp=>.int .i64 p.1)
 ok:mJ L
theorem cB.frozen(a:cB w B g dv L)(j:Nat):w.frozen? ⟨g,j,none⟩=false:=by obtain ⟨c,b⟩:=a.blk;simp [zl,b]
theorem cB.lt(a:cB w B g dv L):g<w.heap.size:=zu w _ a.among
theorem cB.below(a:cB w B g dv L)(k:aB w w'):cB w' B g dv L:=by
 obtain ⟨d,b,c⟩:=a.bound;refine ⟨a.low,?_,aC k a.among,λx i=>?_,⟨d,aC k b,bJ c k (zw _)⟩,a.ok⟩
 ·obtain ⟨e,f⟩:=a.blk;exact ⟨e,by rw [k.block g a.lt];exact f⟩
 ·obtain ⟨v,j,m⟩:=a.term x i;exact ⟨v,aC k j,m.fr (Fr.of_below k)⟩
theorem cB.drawn(a:cB w B g dv L)(b:∃n,w'=w.drewN n):cB w' B g dv L:=a.below (aS b)
theorem aPm{b:Nat}(c:w.ownsRow B 3 1 v n xs)(a:v.ownBlock=some b):¬lN w B b:=by
 obtain ⟨_,⟨rfl,_⟩|⟨g,e,f,rfl,i,d,_⟩⟩:=c
 ·simp [zy] at a
 ·simp [zy] at a;subst a;rintro (hs|hs)
  ·omega
  ·exact (hs _ _ _ d).2 rfl
theorem Fr.grownInts(c:w.ownsRow B 3 1 v n xs)(a:w.grownBy w' v.ownBlock):Fr B w w':=
 ⟨a.os,a.tape,a.output,a.size,λf d e=>a.block f d (λb=>aPm c b.symm e)⟩
theorem cB.apart(c:cB w B g dv L){v:Value}{n:Nat}{xs:List Value}(e:w.ownsRow B 3 1 v n xs):some g≠v.ownBlock:=by
 intro a;obtain ⟨_,⟨rfl,_⟩|⟨k,f,j,rfl,m,d,_⟩⟩:=e
 ·simp [zy] at a
 ·simp [zy] at a;subst a;obtain ⟨i,b⟩:=c.blk;rw [d] at b;simp at b
theorem zS{a:TypeId}{c:Nat}(f:w.ownsRow B a c v n xs){p:Addr}(m:some p.block≠v.ownBlock)(q:Value):(w.setCell p q).ownsRow B a c v n xs:=by
 obtain ⟨b,⟨rfl,i⟩|⟨g,d,e,rfl,j,k,o⟩⟩:=f
 ·exact ⟨b,Or.inl ⟨rfl,i⟩⟩
 ·refine ⟨b,Or.inr ⟨g,d,e,rfl,j,?_,o⟩⟩;rw [heap_setCell_other _ _ _ _ (λa=>m (by simp [zy,a])),k]
def oG(w:World)(g:Nat):Prop:=∃a,w.heap[g]?=some (.cells a 136 (0,0))
theorem oG.set(b:oG w g)(j:Nat)(u:Value):oG (w.setCell ⟨g,j,none⟩ u) g:=by obtain ⟨a,c⟩:=b;exact ⟨_,heap_setCell_same w g j a _ u c⟩
theorem oG.grown{b:Option Nat}(d:oG w g)(e:w.grownBy w' b)(f:some g≠b):oG w' g:=by obtain ⟨c,a⟩:=d;exact ⟨c,by rw [e.block g (Array.getElem?_eq_some_iff.1 a).1 f];exact a⟩
theorem Fr.setB(i:B<=g)(c:oG w g)(e:Nat)(f:Value):Fr B w (w.setCell ⟨g,e,none⟩ f):=by
 refine ⟨rfl,rfl,rfl,by simp [zt],λj _ hs=>heap_setCell_other _ _ _ _ (λa=>?_)⟩;simp at a;subst a;rcases hs with hs|hs
 ·omega
 ·obtain ⟨b,d⟩:=c;exact (hs b _ _ d).1 rfl
theorem aPn{a b:Nat}{d:List Nd}(e:look L (a:Int)=none):look (L++[((a:Int),d)]) (b:Int)=if b=a then some d else look L (b:Int):=by
 rw [xZ];by_cases c:b=a
 ·subst c;rw [e];simp
 ·have:¬(b:Int)=(a:Int):=by omega
  simp [c,this]
theorem cB.more{b:World}{c i:Nat}{u e:Value}{a:Addr}{f:List Nd}{o:Obj}(d:cB w B g dv L)(T:c<60)(z:look L (c:Int)=none)(O:fP w B (some a) f)(U:aQ f 1=true)(N:f.length<=60)
  (A:w.ownsRow B 3 1 u L.length (L.map λp=>.int .i64 p.1)) (k:((w.setCell ⟨g,1+c,none⟩ (.slice (some a) f.length i)).alloc o).grownBy b u.ownBlock)
  (C:b.ownsRow B 3 1 e (L.length+1) ((L.map λp=>.int .i64 p.1)++[.int .i64 (c:Int)])):cB (b.setCell ⟨g,61,none⟩ e) B g dv (L++[((c:Int),f)])/\Fr B w (b.setCell ⟨g,61,none⟩ e):=by
 have j:=d.apart A;have G:oG (w.setCell ⟨g,1+c,none⟩ (.slice (some a) f.length i)) g:=oG.set d.blk _ _;have Y:=zS A (p:=⟨g,1+c,none⟩) j (.slice (some a) f.length i);have J:Fr B w (w.setCell ⟨g,1+c,none⟩ (.slice (some a) f.length i)):=Fr.setB d.low d.blk _ _;have r:oG b g:=(G.grown (World.grownBy_alloc _ o none) (by simp)).grown k j;have M:Fr B w b:=(J.alloc o).trans (Fr.grownInts (Y.alloc o) k);have t:Fr B w (b.setCell ⟨g,61,none⟩ e):=M.trans (Fr.setB d.low r _ _);have E:∀q v,q≠1+c->q≠61->w.cell? ⟨g,q,none⟩=some v->(b.setCell ⟨g,61,none⟩ e).cell? ⟨g,q,none⟩=some v:=by intro q v a1 a2 m;rw [zz b _ _ _ (by first|(simp;done)|(simp;omega))];refine k.cell (aC ((Below.refl _ _).alloc (zw _) o) ?_) j;rw [zz w _ _ _ (by first|(simp;done)|(simp;omega))];exact m
 have X:(b.setCell ⟨g,61,none⟩ e).cell? ⟨g,1+c,none⟩=some (.slice (some a) f.length i):=by rw [zz b _ _ _ (by first|(simp;done)|(simp;omega))];obtain ⟨v,m,_⟩:=d.term c T;exact k.cell (aC ((Below.refl _ _).alloc (zw _) o) (zx w _ _ m)) j
 have I:∃F,b.cell? ⟨g,61,none⟩=some F:=by obtain ⟨H,R,_⟩:=d.bound;refine ⟨H,k.cell (aC ((Below.refl _ _).alloc (zw _) o) ?_) j⟩;rw [zz w _ _ _ (by first|(simp;done)|(simp;omega))];exact R
 obtain ⟨F,V⟩:=I;have Q:some g≠e.ownBlock:=by
  intro s;obtain ⟨_,⟨rfl,_⟩|⟨a4,i,a0,rfl,a3,S,_⟩⟩:=C
  ·simp [zy] at s
  ·simp [zy] at s;subst s;obtain ⟨Z,y⟩:=r;rw [S] at y;simp at y
 refine ⟨⟨d.low,r.set _ _,E 0 dv (by omega) (by omega) d.among,λx W=>?_,⟨e,zx b _ _ V,?_⟩,d.ok.snoc z (by omega) (by omega) U N⟩,t⟩
 ·rw [aPn z];by_cases D:x=c
  ·subst D;rw [aI rfl];exact ⟨_,X,a,i,rfl,O.fr t⟩
  ·rw [aH D];obtain ⟨v,m,P⟩:=d.term x W;exact ⟨v,E _ v (by omega) (by omega) m,P.fr t⟩
 ·have:=zS C (p:=⟨g,61,none⟩) Q e;simpa using this
theorem cB.less{M:bG}(c:cB w B g dv (L++M))(e:oG w' g)(s:Fr B w w')
  (o:w'.cell? ⟨g,0,none⟩=some dv) (z:∀a:Nat,a<60->w'.cell? ⟨g,1+a,none⟩=if (a:Int)∈M.map zm then some (.slice none 0 0) else w.cell? ⟨g,1+a,none⟩) (p:(w'.cell? ⟨g,61,none⟩).isSome=true) {bv':Value}
  (k:w'.ownsRow B 3 1 bv' L.length (L.map λA=>.int .i64 A.1)):cB (w'.setCell ⟨g,61,none⟩ bv') B g dv L/\Fr B w (w'.setCell ⟨g,61,none⟩ bv'):=by
 have f:Fr B w (w'.setCell ⟨g,61,none⟩ bv'):=s.trans (Fr.setB c.low e _ _);obtain ⟨H,x⟩:=Option.isSome_iff_exists.1 p;have r:some g≠bv'.ownBlock:=by
  intro b;obtain ⟨_,⟨rfl,_⟩|⟨G,C,E,rfl,F,u,_⟩⟩:=k
  ·simp [zy] at b
  ·simp [zy] at b;subst b;obtain ⟨D,i⟩:=e;rw [u] at i;simp at i
 refine ⟨⟨c.low,e.set _ _,by rw [zz w' _ _ _ (by simp)];exact o,λa m=>?_,⟨bv',zx w' _ _ x,zS k (p:=⟨g,61,none⟩) r bv'⟩,c.ok.left⟩,f⟩;rw [zz w' _ _ _ (by first|(simp;done)|(simp;omega)),z a m];obtain ⟨v,y,q⟩:=c.term a m;by_cases d:(a:Int)∈M.map zm
 ·rw [aI d];refine ⟨_,rfl,?_⟩;have:look L (a:Int)=none:=by
   cases hl:look L (a:Int) with
   |none=>rfl
   |some t=>
    exfalso;have j:=c.ok.once;rw [zs,List.nodup_append] at j;exact j.2.2 _ (List.mem_map.2 ⟨_,aAn hl,rfl⟩) _ d rfl
  rw [this];rfl
 ·rw [aH d];refine ⟨v,y,?_⟩;have b:look (L++M) (a:Int)=look L (a:Int):=by
   rw [yA];have:look M (a:Int)=none:=by
    cases hl:look M (a:Int) with
    |none=>rfl
    |some t=>exact absurd (List.mem_map.2 ⟨_,aAn hl,rfl⟩) d
   rw [this];simp
  rw [<-b];exact q.fr f
theorem aPo(k:Option Addr)(t:Nat)(l:List Nd)(w:World)(d:dV w k l)(p:kQ w):Calls zq 101 #[.slice k l.length t] w λe w'=>e=.returned (.bool (gD l))/\aB w w':=by
 have c:=aYh k t l w d p;by_cases b:iX l=true
 ·cases l with
  |nil=>rw [aUm] at b;exact absurd b (by simp)
  |cons n0 r=>
   rw [b] at c;obtain ⟨F,G,rfl,m,o⟩:=d.cell 0 (by simp);simp only [List.getElem_cons_zero,Nat.zero_mul,Nat.add_zero] at m o;obtain ⟨s,x⟩:=n0;simp only at m o;have j:=aA (show gD ((s,x)::r) = !s.toList.isEmpty by simp [gD,b,aL]);have f:=aA c;have y:=aA (λE=>pL s x E);have C:=d.few;simp only [List.length_cons] at C;clear c b d p;go_enter Tryz.func101,Tryz.ntmps101;go_wp2_with (first
    |(go_at_call 116;refine (aD f).mono ?_;rintro e D ⟨rfl,a⟩;have H:=aC a m;have I:=aC a o;have i:=aA a;have A:=a.size;clear a)
    |(go_at_call 67;refine (aD y _).mono ?_;rintro e J ⟨rfl,u⟩;have z:=aA (i.o.trans (u.mono A));clear u))
   go_ret;exact ⟨dI j.o.symm,z.o⟩
 ·have q:iX l=false:=by simpa using b
  rw [q] at c;have j:=aA (show gD l=false by simp [gD,q]);have f:=aA c;clear c b q d p;go_enter Tryz.func101,Tryz.ntmps101;go_wp2_with (go_at_call 116;refine (aD f).mono ?_;rintro e D ⟨rfl,a⟩;have i:=aA a;clear a);go_ret;exact ⟨dI j.o.symm,i.o⟩
theorem aPp(B g j:Nat)(a:Int)(c:Addr)(b f:List Nd)(dv:Value)(L:bG)(w:World)(d:cB w B g dv L)(y:0<=a)(z:a<60)(m:fP w B (some c) b)(r:look L a=some f):Calls zq 135 #[.pointer (some ⟨g,0,none⟩),.int .i64 a,.slice (some c) b.length j] w λk w'=>k=.returned (.bool (decide (f=b)))/\cB w' B g dv L/\Fr B w w':=by
 obtain ⟨e,rfl⟩ : ∃e:Nat,a=e:=⟨a.toNat,by omega⟩;obtain ⟨v,A,p⟩:=d.term e (by omega);rw [r] at p;obtain ⟨u,x,rfl,o⟩:=p;have s:=aA (aK3 (some u) (some c) x j f b w o.nodes m.nodes);have t:=aA d;clear d m o r;go_enter Tryz.func135,Tryz.ntmps135;go_wp2_with (go_at_call 55;refine (aD s).mono ?_;rintro k C ⟨rfl,q⟩;have i:=aA q;clear q);go_ret;exact ⟨rfl,t.o.drawn i.o,(Fr.refl _ _).drawn i.o⟩
theorem aPq(B g q:Nat)(b:Int)(i:Addr)(d:List Nd)(dv:Value)(L:bG)(w:World)(a:cB w B g dv L)(R:0<=b)(S:b<60)(r:fP w B (some i) d)(k:look L b=none)(t:aQ d 1=true)(H:d.length<=60):Calls zq 135 #[.pointer (some ⟨g,0,none⟩),.int .i64 b,.slice (some i) d.length q] w λG w'=>G=.returned (.bool true)/\cB w' B g dv (L++[(b,d)])/\Fr B w w':=by
 obtain ⟨Q,I,J,M,N⟩:=info_parts tM;obtain ⟨c,rfl⟩ : ∃c:Nat,b=c:=⟨b.toNat,by omega⟩;obtain ⟨v,Z,s⟩:=a.term c (by omega);rw [k] at s;obtain rfl:v=.slice none 0 0:=s;obtain ⟨F,O,f⟩:=a.bound;have U:=a.frozen (1+c);have P:=a.frozen 61;have j:=a.apart f;have X:=a.ok.few;have Y:=a.low;have W:=a.lt;have z:=aA a;have u:=zS f (p:=⟨g,1+c,none⟩) j (.slice (some i) d.length q);have C:=aA f;have A:=aA r;have y:=aA k;have D:=aA t;have o:=aA j;clear a f r k t j;go_enter Tryz.func135,Tryz.ntmps135;go_wp2_with (first
  |(at_builtin;refine wpList_append_own _ rfl _ _ 28 rfl B 3 Q (.int .i64 0) 1 8 Tryz.underlying28 I J M N rfl (by decide) _ _ _ rfl (u.alloc _) ⟨w.heap.size,0,none⟩ 1 1 [.int .i64 (c:Int)] (by rfl) rfl ?d1 ?d2 ?d3 ?d4 ?d5 ?_)
  |go_in)
 case d1=>exact sG _ _ _ _ (by simp [zt])
 case d2=>exact aG2 _
 case d3=>unfold maxLen;omega
 case d4=>omega
 case d5=>simp [zt];omega
 intro a0 x m e _;obtain ⟨a1,a2,rfl⟩:=aZ m;have E:=aA (z.o.more (by omega) y.o A.o D.o H C.o e m);have T:x.cell? ⟨g,61,none⟩=some F:=e.cell (aC ((Below.refl _ _).alloc (zw _) _) (by rw [zz w _ _ _ (by first|(simp;done)|(simp;omega))];exact O)) o.o;have V:x.frozen? ⟨g,61,none⟩=false:=by rw [zo (e.block g (by simp [zt];omega) o.o),zo (a:=⟨g,61,none⟩) (heap_alloc_old _ _ (show g<_ by simp [zt];omega)),World.frozen?_setCell];exact P
 clear m e u;go_wp2;go_ret;exact ⟨rfl,E.o⟩
theorem aPr{b:ByteArray}{a:Int}(e:cZ (b,a)=true)(d:¬b.toList.isEmpty=true):0<=a/\a<=5/\aX (b,a)=a.toNat:=by
 have c:eR b=true/\0<=a/\a<=5:=by simpa [cZ,aL,d] using e
 exact ⟨c.2.1,c.2.2,by unfold aX aL;rw [aH d]⟩
theorem aPs(C:Option Addr)(I:Nat)(l:List Nd)(c i:Nat)(w:World)(F:dV w C l)(T:l.length<=60)(O:aQ (l.drop c) (1+i)=true)(N:c<=l.length):Calls zq 134 #[.slice C l.length I,.int .i64 c] w λs w'=>s=.returned (.int .i64 ((c+aO (l.drop c) 1:Nat)))/\aB w w':=by
 go_enter Tryz.func134,Tryz.ntmps134;go_wp2;go_loopw [1,5] (λx P wr=>∃a b:Nat,a<=l.length/\b<=1+5*a/\x=.int .i64 a/\P=.int .i64 b/\aB w wr/\c+aO (l.drop c) 1=a+aO (l.drop a) b/\aQ (l.drop a) (b+i)=true) (λx _ _=>l.length-(intOf x).toNat);case atStart=>exact ⟨c,1,N,by omega,rfl,rfl,Below.refl _ _,rfl,O⟩
 case round=>
  obtain ⟨a,b,U,V,rfl,rfl,d,m,e⟩:=hrel;cases b with
  |zero=>
   have q:=aA m;have p:=aA d;clear m d e;go_wp2;go_ret;exact ⟨xE (by rw [q.o];simp),p.o⟩
  |succ b=>
   have t:a<l.length:=aJc (q:=b+i) (by rw [<-e];congr 1;omega);obtain ⟨S,Y,rfl,D,E⟩:=F.cell a t;have J:=aC d D;have M:=aC d E;rw [aUy l a b t] at m;rw [show b+1+i=(b+i)+1 by omega,aDh l a (b+i) t,zp] at e;obtain ⟨u,e⟩:=e;generalize l[a]=nd at *;obtain ⟨y,z⟩:=nd;simp only at J M;clear D E F;have G:=d.size;have p:=aA d;have q:=aA m;have A:=aA e;have o:=aA (λR=>aEo y z R);clear d m e;by_cases f:y.toList.isEmpty=true
   ·have j:aM (aX (y,z)=0):=aA (jK f);rw [aI f] at o;clear u f;go_wp2_with (go_at_call 121;refine (aD o _).mono ?_;rintro s Q ⟨rfl,k⟩;have r:=aA (p.o.trans (k.mono G));clear k);go_roundw;case rel=>exact ⟨a+1,b,by omega,by omega,by go_num,by go_num,r.o,by rw [q.o,j.o];simp;omega,by have:=A.o;rw [j.o] at this;rw [<-this];congr 1⟩
    case measure=>simp [intOf];omega
   ·obtain ⟨W,X,H⟩:=aPr u f;have j:=aA H;rw [aH f] at o;clear u H f;go_wp2_with (go_at_call 121;refine (aD o _).mono ?_;rintro s Q ⟨rfl,k⟩;have r:=aA (p.o.trans (k.mono G));clear k);go_roundw;case rel=>exact ⟨a+1,b+z.toNat,by omega,by omega,by go_num,by go_num,r.o,by rw [q.o,j.o];omega,by have:=A.o;rw [j.o] at this;rw [<-this];congr 1;omega⟩
    case measure=>simp [intOf];omega
theorem dV.sub{d c:Nat}(e:dV w (some ⟨d,c,none⟩) l)(a n:Nat):dV w (some ⟨d,c+a*2,none⟩) ((l.drop a).take n):=by
 have q:((l.drop a).take n).length<=l.length-a:=by simp;omega
 refine ⟨by have:=e.few;omega,λb o=>?_,λb o=>?_⟩
 ·have f:a+b<l.length:=by omega
  have:=e.short (a+b) f;simpa using this
 ·have f:a+b<l.length:=by omega
  obtain ⟨i,p,j,k,m⟩:=e.cell (a+b) f;obtain ⟨rfl,rfl⟩ : d=i/\c=p:=by simpa using j
  refine ⟨d,c+a*2,rfl,?_,?_⟩
  ·rw [show c+a*2+b*2=c+(a+b)*2 by omega];simpa using k
  ·rw [show c+a*2+b*2+1=c+(a+b)*2+1 by omega];simpa using m
theorem fP.sub{a c:Nat}(d:fP w B (some ⟨a,c,none⟩) l)(b n:Nat):fP w B (some ⟨a,c+b*2,none⟩) ((l.drop b).take n):=
 ⟨d.nodes.sub b n,λf e=>by simp at e;subst e;exact d.low ⟨a,c,none⟩ rfl⟩
theorem zT(c:Array Value)(a:TypeId)(d:a≠136)(e:a≠3):lN (w.alloc (.cells c a)) B w.heap.size:=
 Or.inr λi f j b=>by
  rw [heap_alloc_new] at b;simp at b;rw [<-b.2.1];exact ⟨d,e⟩
theorem aGe{i:Program}{k d e:Nat}{p q:Value}{o:Value}{f:bG}{j:Array Value}(_:cB w B g dv L)(y:lN w B d)(z:lN w B e)(s:w.cell? ⟨d,1,none⟩=some p)(t:w.cell? ⟨e,1,none⟩=some q)
  (r:∀a,(∃n,a=w.drewN n)->Calls i k j a λb w'=>b=.returned o/\cB w' B g dv f/\Fr B a w'):∀a,(∃n,a=w.drewN n)->Calls i k j a λb w'=>b=.returned o/\cB w' B g dv f/\Fr B w w'/\w'.cell? ⟨d,1,none⟩=some p/\w'.cell? ⟨e,1,none⟩=some q:=by
 intro a m;refine (r a m).mono ?_;rintro b w' ⟨rfl,x,u⟩;have c:Fr B w w':=((Fr.refl _ _).drawn m).trans u;exact ⟨rfl,x,c,c.cell s y,c.cell t z⟩
theorem aCf(B g:Nat)(dv:Value)(L:bG)(w:World)(m p:Bool)(y s:Option Addr)(J i:Nat)(c a:List Nd)(t:cB w B g dv L)(f0:fP w B y c)(f3:fP w B s a)(k4:a.length<=i)(j9:aQ c 1=true)(k0:aQ a 1=true)(k2:c.length<=60)(i6:a.length<=60):Calls zq 114 #[.pointer (some ⟨g,0,none⟩),.agg #[.bool m,.slice y c.length J],.agg #[.bool p,.slice s a.length i]] w λA w'=>∃(d9:Bool) (c2:bG),A=.returned (.bool d9)/\cB w' B g dv c2/\Fr B w w'/\(∃a5,c2=L++a5)/\(d9=true->jX (m,c) (p,a) L=some c2)/\(d9=false->jX (m,c) (p,a) L=none):=by
 have a6:aB w ((w.alloc (.cells #[.bool m,.slice y c.length J] 86)).alloc (.cells #[.bool p,.slice s a.length i] 86)):=((Below.refl _ _).alloc (zw _) _).alloc (by simp) _;have f5:=t.below a6;have f1:=f0.fr (Fr.of_below a6);have f4:=f3.fr (Fr.of_below a6);have f6:lN ((w.alloc (.cells #[.bool m,.slice y c.length J] 86)).alloc (.cells #[.bool p,.slice s a.length i] 86)) B (w.heap.size+1):=by have:=zT (w:=w.alloc (.cells #[.bool m,.slice y c.length J] 86)) (B:=B) #[.bool p,.slice s a.length i] 86 (by decide) (by decide);simpa using this
 have f8:((w.alloc (.cells #[.bool m,.slice y c.length J] 86)).alloc (.cells #[.bool p,.slice s a.length i] 86)).cell? ⟨w.heap.size+1,1,none⟩=some (.slice s a.length i):=by simp
 have b0:aM (Fr B w ((w.alloc (.cells #[.bool m,.slice y c.length J] 86)).alloc (.cells #[.bool p,.slice s a.length i] 86))):=aA (Fr.of_below a6);have e3:=aA f5;have h6:=aA f1;have h7:=aA f4;have e5:=aA f6;have h8:=aA f8;clear t f0 f3 a6 f5 f1 f4 f6 f8;by_cases d5:m=p
 ·subst d5;have a4:aM (jX (m,c) (m,a) L=dH c a L):=aA (by simp [jX]);go_enter Tryz.func114,Tryz.ntmps114;go_wp2;generalize hW:((w.alloc (.cells #[.bool m,.slice y c.length J] 86)).alloc (.cells #[.bool m,.slice s a.length i] 86))=W at *;have e6:=aA hW;clear hW;go_loopw [7,19] (λG d6 wr=>∃(e b j:Nat) (d:bG),e<=c.length/\b<=a.length/\d6=.int .i64 e/\G=.int .i64 b/\cB wr B g dv d/\Fr B W wr/\(∃a5,d=L++a5)/\aQ (c.drop e) j=true/\aQ (a.drop b) j=true/\dH c a L=dH (c.drop e) (a.drop b) d)
   (λ_ d6 _=>c.length-(intOf d6).toNat)
  case atStart=>exact ⟨0,0,1,L,zi _,zi _,rfl,rfl,e3.o,Fr.refl _ _,⟨[],by simp⟩,j9,k0,rfl⟩
  case round=>
   obtain ⟨e,b,j,d,k9,g3,rfl,rfl,t,C,b4,N,X,a8⟩:=hrel;by_cases V:e<c.length
   ·obtain ⟨j,rfl⟩ : ∃j8,j=j8+1:=by
     cases j with
     |zero=>rw [aC7 c e V] at N;simp at N
     |succ j=>exact ⟨j,rfl⟩
    have c4:b<a.length:=aJc X;have f2:=h6.o.fr C;have c3:=h7.o.fr C;obtain ⟨k3,l2,rfl,i7,i9⟩:=f2.nodes.cell e V;obtain ⟨z,F,rfl,e8,e9⟩:=c3.nodes.cell b c4;have c8:wr.cell? ⟨w.heap.size+1,1,none⟩=some (.slice (some ⟨z,F,none⟩) a.length i):=C.cell h8.o e5.o;have c5:=λG=>aV0 c a e b d G V
    have c7:=aV1 c a e b d V;have g7:=aV2 c a e b d V c4;have a9:=N;rw [aDh c e j V,zp] at a9;obtain ⟨g8,a9⟩:=a9;have d0:aQ (a.drop b) (1+j)=true:=by rw [<-X];congr 1;omega
    have h0:=aD9 (a.drop b) 1 j d0;have d1:=X;rw [aDh a b j c4,zp] at d1;generalize hnd:c[e]=nd at *;obtain ⟨o,f⟩:=nd;simp only at i7 i9 c5 c7;have a3:=aA a8;have e2:=aA c5;have i0:=aA c7;have e4:=aA g7;have c1:=aA a9;have i4:=aA d1;have c0:=aA h0;have i1:=aA g8;have I:=aA b4;have a1:=aA t;have Q:=aA C;have e1:=aA c3;have i5:=aA d0;have h1:=C.size;have l1:w.heap.size+2<=wr.heap.size:=by rw [<-e6.o] at h1;simpa using h1
    clear N a9 X d0 d1 h0 a8 c5 c7 g7 g8 b4 t C c3 f2 hnd;have Z:=aA (λH=>pL o f H);have f7:aB wr (wr.alloc (.cells #[.string o,.int .i64 f] 117)):=(Below.refl _ _).alloc (zw _) _;have k1:=aA f7;clear f7;by_cases O:o.toList.isEmpty=true
    ·rw [O] at Z;have j7:=aJb i1.o O;obtain ⟨d3,d4⟩:=j7;simp only at d3 d4;have e7:aM (aX (o,f)=0):=aA (jK O);have R:aM (aL (o,f)=true):=aA O;clear O;obtain ⟨r,U⟩ : ∃r,r=b+aO (a.drop b) 1:=⟨_,rfl⟩;have g1:=sU (a.drop b) 1;have g2:=aUn (a.drop b) 0 (by intro j1;have:=congrArg List.length j1;simp at this;omega);simp at g1 g2;have k6:b<r:=by omega
     have g4:r<=a.length:=by omega
     have g6:((a.drop b).take (aO (a.drop b) 1)).length=r-b:=by simp;omega
     have j3:(b:Int)<=(r:Int):=by omega
     have k7:(r:Int)<=(i:Int):=by omega
     have k8:¬i=b:=by omega
     have b9:=aA g6;have b1:=aA U;have h5:=aA (λH (j6:dV H (some ⟨z,F,none⟩) a)=>by have:=aPs (some ⟨z,F,none⟩) i a b j H j6 i6 i5.o g3;rw [<-U] at this;exact this);clear U g1 g2 g6;go_wp2_with (first
      |(go_at_call 67;refine (aD Z _).mono ?_;rintro A e0 ⟨rfl,u⟩;obtain ⟨d7,d8,k⟩:=jB u;have x:=aA k;have i3:aM (Fr B _ e0):=aA (Fr.of_below u);have j5:=k.size;have c9:=aC k c8;clear u k)
      |(go_at_call 134;refine (aD h5 _ ((e1.o.fr (Fr.of_below x.o)).nodes)).mono ?_;rintro A h3 ⟨rfl,T⟩;have l3:=aC T d7;have h2:=aC T d8;have g9:=aC T c9;have b3:=aA (x.o.trans (T.mono j5));have i2:=aA ((i3.o).trans (Fr.of_below T));clear T))
     have b6:lN h3 B wr.heap.size:=by have j2:=zT (w:=wr) (B:=B) #[.string o,.int .i64 f] 117 (by decide) (by decide);exact j2.fr (by simp) (i2.o)
     have b7:lN h3 B (w.heap.size+1):=(e5.o.fr (by rw [<-e6.o];simp) Q.o).fr (by omega) (Fr.of_below b3.o);have S:=a1.o.below b3.o;have b5:=(e1.o.fr (Fr.of_below b3.o)).sub b (aO (a.drop b) 1);have b8:=aA (Q.o.trans (Fr.of_below b3.o));cases hl:look d f with
     |none=>
      have P:=aA (aGe S b6 b7 h2 g9 (λH a7=>by have:=aPq B g (i-b) f ⟨z,F+b*2,none⟩ ((a.drop b).take (aO (a.drop b) 1)) dv d H (S.drawn a7) d3 d4 (b5.fr ((Fr.refl _ _).drawn a7)) hl c0.o.1 (by rw [b9.o];omega);rw [b9.o] at this;exact this));have b2:=aA hl;clear b6 b7 S b5 hl;go_region_held3 (λw'=>w'.cell? ⟨wr.heap.size,1,none⟩=some (.int .i64 f)/\w'.cell? ⟨w.heap.size+1,1,none⟩=some (.slice (some ⟨z,F,none⟩) a.length i)) (go_keep) ((go_at_call 135;refine (aD P _ (by first|exact ⟨0,rfl⟩|exact ⟨_,rfl⟩|exact mB _ _ _)).mono ?_;rintro A h4 ⟨rfl,E,D,f9,g0⟩;have a2:=aA E;have a0:=aA D;clear E D));have q:aM (dH c a L=dH (c.drop (e+1)) (a.drop r) (d++[(f,(a.drop b).take (aO (a.drop b) 1))])):=aA (by rw [a3.o,i0.o R.o b2.o,b1.o]);go_wp2;go_roundw;case rel=>exact ⟨e+1,r,j,d++[(f,(a.drop b).take (aO (a.drop b) 1))],by omega,g4,by go_num,rfl,a2.o,b8.o.trans a0.o,(by obtain ⟨a5,t⟩:=I.o;exact ⟨a5++[(f,(a.drop b).take (aO (a.drop b) 1))],by rw [t];simp⟩),(by have:=c1.o;rw [e7.o] at this;exact this),(by have:=c0.o.2;rw [List.drop_drop,<-b1.o] at this;exact this),q.o⟩
      case measure=>simp [intOf];omega
     |some G=>
      have P:=aA (aGe S b6 b7 h2 g9 (λH a7=>by have:=aPp B g (i-b) f ⟨z,F+b*2,none⟩ ((a.drop b).take (aO (a.drop b) 1)) G dv d H (S.drawn a7) d3 d4 (b5.fr ((Fr.refl _ _).drawn a7)) hl;rw [b9.o] at this;exact this));have b2:=aA hl;clear b6 b7 S b5 hl;by_cases Y:G=(a.drop b).take (aO (a.drop b) 1)
      ·rw [eZ Y] at P;have q:aM (dH c a L=dH (c.drop (e+1)) (a.drop r) d):=aA (by rw [a3.o,e2.o G R.o b2.o,aI Y,b1.o]);clear Y;go_region_held3 (λw'=>w'.cell? ⟨wr.heap.size,1,none⟩=some (.int .i64 f)/\w'.cell? ⟨w.heap.size+1,1,none⟩=some (.slice (some ⟨z,F,none⟩) a.length i)) (go_keep) ((go_at_call 135;refine (aD P _ (by first|exact ⟨0,rfl⟩|exact ⟨_,rfl⟩|exact mB _ _ _)).mono ?_;rintro A h4 ⟨rfl,E,D,f9,g0⟩;have a2:=aA E;have a0:=aA D;clear E D));go_wp2;go_roundw;case rel=>exact ⟨e+1,r,j,d,by omega,g4,by go_num,rfl,a2.o,b8.o.trans a0.o,I.o,(by have:=c1.o;rw [e7.o] at this;exact this),(by have:=c0.o.2;rw [List.drop_drop,<-b1.o] at this;exact this),q.o⟩
       case measure=>simp [intOf];omega
      ·rw [fZ Y] at P;have q:aM (dH c a L=none):=aA (by rw [a3.o,e2.o G R.o b2.o,aH Y]);clear Y;go_region_held3 (λw'=>w'.cell? ⟨wr.heap.size,1,none⟩=some (.int .i64 f)/\w'.cell? ⟨w.heap.size+1,1,none⟩=some (.slice (some ⟨z,F,none⟩) a.length i)) (go_keep) ((go_at_call 135;refine (aD P _ (by first|exact ⟨0,rfl⟩|exact ⟨_,rfl⟩|exact mB _ _ _)).mono ?_;rintro A h4 ⟨rfl,E,D,f9,g0⟩;have a2:=aA E;have a0:=aA D;clear E D));go_wp2;go_ret;exact ⟨false,d,rfl,a2.o,b0.o.trans (b8.o.trans a0.o),I.o,by simp,λ_=>a4.o.trans q.o⟩
    ·have d2:o.toList.isEmpty=false:=by simpa using O
     rw [d2] at Z;have R:aM (aL (o,f)=false):=aA d2;clear O d2;have g:=xF;have l0:=xH o a[b].1 f a[b].2;have c6:=xG (o,f) a[b];simp only at c6;have j3:(b:Int)<(a.length:Int):=by omega
     by_cases M:(o,f)=a[b]
     ·rw [eZ M] at c6;have q:aM (dH c a L=dH (c.drop (e+1)) (a.drop (b+1)) d):=aA (by rw [a3.o,e4.o R.o,aI M]);have h9:=aA M;clear M;go_wp2_with (first
       |(go_at_call 67;refine (aD Z _).mono ?_;rintro A e0 ⟨rfl,u⟩;obtain ⟨d7,d8,k⟩:=jB u;have x:=aA k;have c9:=aC k c8;have i8:=aC k e8;have j0:=aC k e9;clear u k))
      go_quiet (fail);go_wp2;go_roundw;case rel=>exact ⟨e+1,b+1,j+aX (o,f),d,by omega,by omega,by go_num,by go_num,(a1.o.below x.o).drawn (by first|exact mB _ _ _|exact ⟨_,rfl⟩),(Q.o.trans (Fr.of_below x.o)).drawn (by first|exact mB _ _ _|exact ⟨_,rfl⟩),I.o,c1.o,(by have:=i4.o.2;rw [<-h9.o] at this;exact this),q.o⟩
      case measure=>simp [intOf];omega
     ·rw [fZ M] at c6;have q:aM (dH c a L=none):=aA (by rw [a3.o,e4.o R.o,aH M]);clear M;go_wp2_with (first
       |(go_at_call 67;refine (aD Z _).mono ?_;rintro A e0 ⟨rfl,u⟩;obtain ⟨d7,d8,k⟩:=jB u;have x:=aA k;have c9:=aC k c8;have i8:=aC k e8;have j0:=aC k e9;clear u k))
      go_quiet (fail);go_wp2;go_ret;exact ⟨false,d,rfl,(a1.o.below x.o).drawn (by first|exact mB _ _ _|exact ⟨_,rfl⟩),b0.o.trans ((Q.o.trans (Fr.of_below x.o)).drawn (by first|exact mB _ _ _|exact ⟨_,rfl⟩)),I.o,by simp,λ_=>a4.o.trans q.o⟩
   ·have g5:c.drop e=[]:=List.drop_eq_nil_of_le (by omega);rw [g5] at N a8;have j4:j=0:=by simpa [aQ] using N
    subst j4;have U:=aV3 g3 X;have q:aM (dH c a L=some d):=aA (by rw [a8,aUz a b d U]);have a1:=aA t;have Q:=aA C;have I:=aA b4;clear t C b4 g5 N a8 X U;go_wp2;go_ret;exact ⟨true,d,rfl,a1.o,b0.o.trans Q.o,I.o,λ_=>a4.o.trans q.o,by simp⟩
 ·have k5:(!m==p)=true:=by cases m<;>cases p<;>simp_all
  have a4:aM (jX (m,c) (p,a) L=none):=aA (by simp [jX,d5]);clear d5;go_enter Tryz.func114,Tryz.ntmps114;go_wp2;go_ret;exact ⟨false,L,rfl,e3.o,b0.o,⟨[],by simp⟩,by simp,λ_=>a4.o⟩
theorem aGf{c:TypeId}{a m:Nat}(b:w.ownsRow B c 1 (.slice (some ⟨g,0,none⟩) n a) n xs)(t:m<=n):w.ownsRow B c 1 (.slice (some ⟨g,0,none⟩) m a) m (xs.take m):=by
 obtain ⟨r,⟨b,_⟩|⟨f,d,e,o,i,j,s,p,q,k⟩⟩:=b
 ·simp at b
 ·obtain ⟨rfl,rfl⟩ : g=f/\a=d:=by simpa using o
  refine ⟨by simp;omega,Or.inr ⟨g,a,e,rfl,i,j,by omega,p,q,?_⟩⟩;rw [<-k,List.take_take];congr 1
  omega
structure tQ(w wr:World)(B g:Nat)(dv bv:Value)(M:bG):Prop where
 blk:oG wr g
 fr:Fr B w wr
 rest:∀k,k≠g->wr.heap[k]?=w.heap[k]?
 among:wr.cell? ⟨g,0,none⟩=some dv
 term:∀x:Nat,x<60->wr.cell? ⟨g,1+x,none⟩=if (x:Int)∈M.map zm then some (.slice none 0 0) else w.cell? ⟨g,1+x,none⟩
 bound:wr.cell? ⟨g,61,none⟩=some bv
theorem tQ.start{a:Value}(b:cB w B g dv L)(c:w.cell? ⟨g,61,none⟩=some a):tQ w w B g dv a []:=
 ⟨b.blk,Fr.refl _ _,λ_ _=>rfl,b.among,λd _=>by simp,c⟩
theorem tQ.step{w wr:World}{B g b:Nat}{dv c:Value}{M:bG}{p:Int×List Nd}(a:tQ w wr B g dv c M)(i:B<=g)(r:b<60)(e:p.1=(b:Int))(j:∃f,wr.cell? ⟨g,1+b,none⟩=some f):tQ w (wr.setCell ⟨g,1+b,none⟩ (.slice none 0 0)) B g dv c (M++[p]):=by
 obtain ⟨f,k⟩:=j;refine ⟨a.blk.set _ _,a.fr.trans (Fr.setB i a.blk _ _),λq d=>by rw [heap_setCell_other _ _ _ _ (by simpa using d)];exact a.rest q d,?_,λx m=>?_,?_⟩
 ·rw [zz wr _ _ _ (by first|(simp;done)|(simp;omega))];exact a.among
 ·by_cases o:x=b
  ·subst o;rw [zx wr _ _ k,aI (by simp [e])]
  ·rw [zz wr _ _ _ (by first|(simp;done)|(simp;omega)),a.term x m];have:((x:Int)∈(M++[p]).map zm)↔((x:Int)∈M.map zm):=by
    rw [zs,List.mem_append];simp [e];omega
   simp only [this]
 ·rw [zz wr _ _ _ (by first|(simp;done)|(simp;omega))];exact a.bound
theorem aCg(B g:Nat)(dv:Value)(L M:bG)(w:World)(c:cB w B g dv (L++M)):Calls zq 115 #[.pointer (some ⟨g,0,none⟩),.int .i64 (L.length:Nat)] w λq w'=>q=.returned (.tuple #[])/\cB w' B g dv L/\Fr B w w':=by
 obtain ⟨b8,o,i⟩:=c.bound;have N:=c.ok.few;simp only [zr] at N;have H:=λb6=>c.frozen b6
 have b3:=c.low;have p:=c.apart i;have f:=aA c;have b4:=i;obtain ⟨_,⟨rfl,a0⟩|⟨d,k,b9,rfl,c0,a9,D,c6,R,Q⟩⟩:=b4
 ·have a2:L=[]/\M=[]:=by
   simp only [zr] at a0;exact ⟨zv (by omega),zv (by omega)⟩
  obtain ⟨rfl,rfl⟩:=a2;have a7:=H 61;have m:=aA (cB.less (M:=[]) c c.blk (Fr.refl _ _) c.among (λx _=>by simp) (by rw [o];rfl) (bv':=.slice none 0 0) (World.ownsRow_nil _ _ _ _));clear c i p;go_enter zj,zk;go_wp2;go_loopw [13] (λj wr=>j=.int .i64 0/\wr=w) (λ_ _=>0);case atStart=>exact ⟨rfl,rfl⟩
  case round=>
   obtain ⟨rfl,rfl⟩:=hrel;go_wp2;go_end0;exact ⟨rfl,m.o⟩
 ·simp only [zr] at D Q o i p R;have E:∀a,a<M.length->∃e:Nat,e<60/\(M[a]?).map zm=some (e:Int)/\w.cell? ⟨d,L.length+a,none⟩=some (.int .i64 (e:Int)):=by
   intro a t;have c4:=f.o.ok.keys M[a] (List.mem_append_right _ (List.getElem_mem _));refine ⟨M[a].1.toNat,by omega,by simp [t];omega,?_⟩;have:=World.ownsRow.cellAt i (L.length+a) (by omega);rw [this];rw [zs,List.getElem?_append_right (by simp)];simp [t];omega
  have I:d≠g:=by intro q;exact p (by simp [zy,q])
  have s:=aGf i (m:=L.length) (by omega);rw [zs,List.take_left' (by simp)] at s;have C:=aA s;have A:=aA E;have c2:(0:Int)<=(L.length:Int):=by omega
  have b1:(L.length:Int)<=((L.length+M.length:Nat):Int):=by omega
  have c3:(L.length:Int)<=(k:Int):=by omega
  have b2:(L.length:Int)<=(L.length:Int)+(M.length:Int):=by omega
  clear c i s a9 R Q p E;by_cases a6:k=L.length
  ·have a3:M=[]:=zv (by omega);subst a3;subst a6;have a7:=H 61;have m:=aA (cB.less (M:=[]) f.o f.o.blk (Fr.refl _ _) f.o.among (λx _=>by simp) (by rw [o];rfl) C.o);simp only [List.length_nil,Nat.add_zero] at o;clear D A b1 b2 N;go_enter zj,zk;go_wp2;go_loopw [13] (λj wr=>j=.int .i64 0/\wr=w) (λ_ _=>0);case atStart=>exact ⟨rfl,rfl⟩
   case round=>
    obtain ⟨rfl,rfl⟩:=hrel;go_wp2;go_end0;exact ⟨rfl,m.o⟩
  ·go_enter zj,zk;go_wp2;have T:=aA (tQ.start f.o o);go_loopw [13] (λj wr=>∃a:Nat,a<=M.length/\j=.int .i64 a/\tQ w wr B g dv (.slice (some ⟨d,0,none⟩) (L.length+M.length) k) (M.take a)) (λj _=>M.length-(intOf j).toNat);case atStart=>exact ⟨0,zi _,rfl,T.o⟩
   case round=>
    obtain ⟨a,t,rfl,b⟩:=hrel;by_cases u:a<M.length
    ·obtain ⟨e,y,O,F⟩:=A.o a u;have c1:wr.cell? ⟨d,L.length+a,none⟩=some (.int .i64 (e:Int)):=by rw [zn (b.rest d I)];exact F
     have G:∃S,wr.cell? ⟨g,1+e,none⟩=some S:=by
      rw [b.term e y];obtain ⟨v,z,_⟩:=f.o.term e y;split
      ·exact ⟨_,rfl⟩
      ·exact ⟨v,z⟩
     have a8:wr.frozen? ⟨g,1+e,none⟩=false:=by obtain ⟨W,r⟩:=b.blk;simp [zl,r]
     have U:=aA (b.step b3 y (p:=M[a]) (by simpa [u] using O) G);obtain ⟨S,c5⟩:=G;clear F b O;go_wp2;go_roundw;case rel=>exact ⟨a+1,by omega,by go_num,by rw [List.take_succ_eq_append_getElem u];exact U.o⟩
     case measure=>simp [intOf];omega
    ·have J:M.take a=M:=List.take_of_length_le (by omega);rw [J] at b;have a5:=b.bound;have a8:wr.frozen? ⟨g,61,none⟩=false:=by
      obtain ⟨W,r⟩:=b.blk;simp [zl,r]
     have P:wr.ownsRow B 3 1 (.slice (some ⟨d,0,none⟩) L.length k) L.length (L.map λb7=>.int .i64 b7.1):=by
      obtain ⟨a1,⟨Z,_⟩|⟨Y,V,X,z,a4,b0,b5⟩⟩:=C.o
      ·simp at Z
      ·obtain ⟨rfl,rfl⟩ : d=Y/\k=V:=by simpa using z
       exact ⟨a1,Or.inr ⟨d,k,X,rfl,a4,by rw [b.rest d I];exact b0,b5⟩⟩
     have m:=aA (cB.less f.o b.blk b.fr b.among b.term (by rw [a5];rfl) P);clear b J P;go_wp2;go_end0;exact ⟨rfl,m.o⟩
