import Derived.Test.YtmelidkanelpbaaGreatDoorCWaysT
import Derived.Lib.AppendZeros
import Derived.Laws.Tables
import Derived.Deep.Cut
import Derived.Test.YtmelidkanelpbaaGreatDoorXSr0T
open Array renaming getElem?_eq_getElem→zr,replicate→zj
open List renaming getElem_mem→zw,mem_append→zv,eq_nil_of_length_eq_zero→zu,range→zp,mem_flatMap→zl
open Nat renaming le_refl→zx,eq_zero_or_pos→zo,le_trans→zm
open Or renaming inr→zt,inl→zs
namespace Go.Proofs.YtmelidkanelpbaaGreatDoor
open _root_.Go.Proofs.Tryz renaming prog→zy,underlying51→zq
open World renaming block_lt_of_cell?→zz,ownsRow_nil→zn
open Go.RowKit Go.Shelf Go.WideMaps
set_option maxHeartbeats 4000000
set_option maxRecDepth 100000
variable{c:List Lt}{w:World}
theorem aP4(w:World)(b a:Nat)(d:Value)(f:d.cells.size=2)(g:b<=a)(e:a<=maxLen):(w.drew.alloc (.cells (Builtin.zeroCells d.cells b++Builtin.zeroCells d.cells (a-b)) 86)).ownsRow w.heap.size 86 2 (.slice (some ⟨w.heap.size,0,none⟩) 0 a) 0 []:=by
 refine ⟨by simp,.inr ⟨w.heap.size,a,_,rfl,zx _,heap_alloc_new w.drew _,Nat.zero_le _,e,?_,by simp⟩⟩;simp only [Array.size_append,size_zeroCells,f,<-Nat.add_mul];congr 1
 omega
theorem aP5(a:Nat)(w:World)(s:a<=16):Calls zy 133 #[.slice none 0 0,.int .i64 a] w λi e=>∃d,i=.returned d/\e.ownsRow w.heap.size 86 2 d 0 []/\aB w e:=by
 obtain ⟨p,j,k,q,l⟩:=info_parts tO;by_cases b:a=0
 ·subst b;go_enter Tryz.func133,Tryz.ntmps133;go_wp2;go_ret;exact ⟨_,rfl,zn _ _ _ _,Below.refl _ _⟩
 ·have n:=grownCap_ge w a 0 86;have o:=grownCap_le_maxLen w a 0 86 (by unfold maxLen;omega);have m:=aA (Lib.run_append_nil_zeros (P:=zy) w 51 3 51 86 p (.agg #[.bool false,.slice none 0 0]) .i64 .i64 zq Tryz.underlying3 j k a (by omega) (by omega) (by omega) (by rw [l];omega));have g:=aA (aP4 w a (grownCap w a 0 86) (.agg #[.bool false,.slice none 0 0]) rfl n o);have r:(0:Int)<=(grownCap w a 0 86:Int):=by omega
  have t:(0:Int)<(a:Int):=by omega
  have f:aM (aB w (w.drew.alloc (.cells (Builtin.zeroCells (Value.agg #[.bool false,.slice none 0 0]).cells a++Builtin.zeroCells (Value.agg #[.bool false,.slice none 0 0]).cells (grownCap w a 0 86-a)) 86))):=aA ((aS (w:=w) (w1:=w.drew) ⟨1,rfl⟩).alloc (zx _) _);clear b;go_enter Tryz.func133,Tryz.ntmps133;go_wp2_with (first
   |(at_builtin;refine Lib.wpList_append_run _ rfl _ _ _ _ rfl _ _ rfl rfl _ _ (aD m) ?_)
   |go_in)
  go_ret;exact ⟨_,rfl,g.o,f.o⟩
theorem aG5(a b:List (Lt×Value)):bF (a++b)=bF a++bF b:=by simp [bF]
theorem aG6(w:World)(e:Nat)(b:List (Lt×Value))(g:∀p∈b,qD w e p.2 p.1.2):∀d∈bF b,d.oneCell'=true:=by
 intro d a;simp only [bF,zl] at a;obtain ⟨p,i,a⟩:=a;obtain ⟨j,k,f,_⟩:=g p i;simp at a;rcases a with rfl|rfl
 ·rfl
 ·rw [f];rfl
theorem dD.cells{B d f:Nat}(C:dD w B (some ⟨d,f,none⟩) c):∃P:List (Lt×Value),P.map Prod.fst=c/\(∀p∈P,qD w B p.2 p.1.2)/\∀j m,(bF P)[j]?=some m->w.cell? ⟨d,f+j,none⟩=some m:=by
 obtain ⟨g,q⟩:=Deep.choose_lt (α:=Value) (n:=c.length) (p:=λk v=>∀a:k<c.length,qD w B v c[k].2/\w.cell? ⟨d,f+k*2,none⟩=some (.bool c[k].1)/\w.cell? ⟨d,f+k*2+1,none⟩=some v) (λk a=>by
  obtain ⟨x,H,u,y,e,_,o,i,D,E⟩:=C.cell k a;obtain ⟨rfl,rfl⟩ : d=x/\f=H:=by simpa using e
  exact ⟨_,λ_=>⟨⟨u,y,rfl,D,E⟩,o,i⟩⟩)
 have r:((zp c.length).map λk=>((c[k]?).getD (false,[]),g k)).length=c.length:=by simp
 refine ⟨(zp c.length).map λk=>((c[k]?).getD (false,[]),g k),?_,λp G=>?_,λj m b=>?_⟩
 ·rw [List.map_map];refine List.ext_getElem (by simp) λk o i=>?_
  simp [i]
 ·obtain ⟨k,a,rfl⟩:=List.mem_map.1 G;have l:k<c.length:=by simpa using a
  simp only [List.getElem?_eq_getElem l,Option.getD_some];exact (q k l l).1
 ·have F:j<(bF ((zp c.length).map λk=>((c[k]?).getD (false,[]),g k))).length:=(List.getElem?_eq_some_iff.1 b).1;rw [aCa,r] at F;have a:j / 2<c.length:=by omega
  obtain ⟨s,t⟩:=xN ((zp c.length).map λk=>((c[k]?).getD (false,[]),g k)) (j / 2) (by rw [r];exact a);simp [a] at s t;obtain ⟨_,z,A⟩:=q (j / 2) a a;rcases Nat.mod_two_eq_zero_or_one j with h0|h0
  ·have e:j=j / 2*2:=by omega
   rw [e] at b ⊢;rw [s] at b;simp at b;rw [<-b];exact z
  ·have e:j=j / 2*2+1:=by omega
   rw [e] at b ⊢;rw [t] at b;simp at b;rw [<-b,<-Nat.add_assoc];exact A
theorem aP6(u N E L a8 F M a9:Nat)(i l:List Lt)(w:World)(G:dD w u (some ⟨E,L,none⟩) i)(H:dD w u (some ⟨F,M,none⟩) l)(c0:w.cell? ⟨N,0,none⟩=some (.slice (some ⟨E,L,none⟩) i.length a8))(c1:w.cell? ⟨N,1,none⟩=some (.slice (some ⟨F,M,none⟩) l.length a9)):Calls zy 113 #[.slice (some ⟨N,0,none⟩) 2 2] w λd b1=>∃P,d=.returned P/\iY w u w.heap.size b1 P (i++l)/\aB w b1:=by
 obtain ⟨a7,X,Y,Z,a0⟩:=info_parts tO;have c3:=G.few;have c4:=H.few;obtain ⟨b,I,V,a2⟩:=G.cells;obtain ⟨g,J,W,a3⟩:=H.cells;have a4:b.length=i.length:=by rw [<-I];simp
 have a5:g.length=l.length:=by rw [<-J];simp
 have b2:=aA (aP5 (i.length+l.length) w (by omega));have q:=aA a4;have r:=aA a5;have b4:=aA a2;have b5:=aA a3;have S:=aA V;have T:=aA W;have b7:=aA I;have b8:=aA J;clear G H I J V W a2 a3 a4 a5;go_enter Tryz.func113,Tryz.ntmps113;go_wp2;go_loop [3,11] (λO o=>∃a p:Nat,a<=2/\o=.int .i64 a/\O=.int .i64 p/\p<=16/\((a=0/\p=0)\/(a=1/\p=i.length)\/(a=2/\p=i.length+l.length))) (λ_ o=>2-(intOf o).toNat);case atStart=>exact ⟨0,0,by omega,rfl,rfl,by omega,zs ⟨rfl,rfl⟩⟩
 case round=>
  obtain ⟨a,p,b9,rfl,rfl,c5,t⟩:=hrel;rcases t with ⟨rfl,rfl⟩|⟨rfl,t⟩|⟨rfl,t⟩
  ·go_wp2;go_round;case rel=>exact ⟨1,i.length,by omega,by go_num,by go_num,by omega,zt (zs ⟨rfl,rfl⟩)⟩
   case measure=>simp [intOf]
  ·have U:=aA t;clear t;go_wp2;go_round;case rel=>exact ⟨2,p+l.length,by omega,by go_num,by go_num,by have:=U.o;omega,zt (zt ⟨rfl,by rw [U.o]⟩)⟩
   case measure=>simp [intOf]
  ·subst t;go_wp2_with (go_at_call 133;refine (aD b2).mono ?_;rintro d c6 ⟨P,rfl,f,a1⟩;have b6:=aA f;have b3:=aA a1;clear f a1);go_loopw [6,27] (λO o wr=>∃(a:Nat) (s:List (Lt×Value)),a<=2/\o=.int .i64 a/\wr.ownsRow w.heap.size 86 2 O s.length (bF s)/\aB w wr/\((a=0/\s=[])\/(a=1/\s=b)\/(a=2/\s=b++g))) (λ_ o _=>2-(intOf o).toNat);case atStart=>exact ⟨0,[],by omega,rfl,b6.o,b3.o,zs ⟨rfl,rfl⟩⟩
   case round=>
   obtain ⟨a,s,b9,rfl,a6,e,n⟩:=hrel;have x:=aA a6;clear a6;rcases n with ⟨rfl,rfl⟩|⟨rfl,n⟩|⟨rfl,n⟩
   ·have f:=x.o;have C:=aA (λj k (m:(bF b)[j]?=some k)=>aC e (b4.o j k m));have v:=aA e;have c2:=aC e c0;have y:=e.size;clear e x;go_wp2_with (first
     |(at_builtin;refine wpList_append_own _ rfl _ _ 51 rfl w.heap.size 86 a7 (.agg #[.bool false,.slice none 0 0]) 2 32 zq X Y Z a0 rfl (by decide) _ _ _ rfl f ⟨E,L,none⟩ i.length a8 (bF b) rfl ?d1 ?d2 ?d3 ?d4 ?d5 ?d6 ?_)
     |go_in)
    case d1=>rw [aCa,q.o]
    case d2=>exact λj k m=>by rw [Addr.add_lit];exact C.o j k m
    case d3=>exact aG6 w u b S.o
    case d4=>unfold maxLen;have:=q.o;have:=r.o;simp;omega
    case d5=>have:=q.o;have:=r.o;simp;omega
    case d6=>exact y
    intro Q R A z _;have D:aM (R.ownsRow w.heap.size 86 2 Q ([]++b).length (bF ([]++b))):=aA (by
     have d:=A;rw [<-q.o,<-aG5] at d;simpa using d)
    have B:=aA (v.o.grown z y λa d=>(cO f a d).1);clear A z f;go_wp2;go_roundw;case rel=>exact ⟨1,[]++b,by omega,by go_num,D.o,B.o,zt (zs ⟨rfl,by simp⟩)⟩
    case measure=>simp [intOf]
   ·replace n:=n.symm
    subst n;have f:=x.o;have C:=aA (λj k (m:(bF g)[j]?=some k)=>aC e (b5.o j k m));have v:=aA e;have c2:=aC e c1;have y:=e.size;clear e x;go_wp2_with (first
     |(at_builtin;refine wpList_append_own _ rfl _ _ 51 rfl w.heap.size 86 a7 (.agg #[.bool false,.slice none 0 0]) 2 32 zq X Y Z a0 rfl (by decide) _ _ _ rfl f ⟨F,M,none⟩ l.length a9 (bF g) rfl ?d1 ?d2 ?d3 ?d4 ?d5 ?d6 ?_)
     |go_in)
    case d1=>rw [aCa,r.o]
    case d2=>exact λj k m=>by rw [Addr.add_lit];exact C.o j k m
    case d3=>exact aG6 w u g T.o
    case d4=>unfold maxLen;have:=q.o;have:=r.o;simp;omega
    case d5=>have:=q.o;have:=r.o;simp;omega
    case d6=>exact y
    intro Q R A z _;have D:aM (R.ownsRow w.heap.size 86 2 Q (b++g).length (bF (b++g))):=aA (by
     have d:=A;rw [<-r.o,<-aG5] at d;simpa using d)
    have B:=aA (v.o.grown z y λa d=>(cO f a d).1);clear A z f;go_wp2;go_roundw;case rel=>exact ⟨2,b++g,by omega,by go_num,D.o,B.o,zt (zt ⟨rfl,by simp⟩)⟩
    case measure=>simp [intOf]
   ·subst n;have v:=aA e;clear e;go_wp2;go_ret;exact ⟨_,rfl,⟨b++g,by rw [List.map_append,b7.o,b8.o],x.o,λb0 hp=>by rcases zv.1 hp with hp|hp;exact S.o b0 hp;exact T.o b0 hp⟩,v.o⟩
def aCb(p:Nat):Prop:=∀(a g:Nat) (f:Option Addr) (l:Nat) (b:List Lt) (d:bG) (w:World) (j:Option Addr) (k:Nat) (c:List Lt),c.length<=p->cB w a g (.slice f b.length l) d->dD w a f b->dD w a j c->c.length<=k->mE b->mE c->a<=w.heap.size->
 Calls zy 80 #[.pointer (some ⟨g,0,none⟩),.slice j c.length k] w λo m=>∃(i:Bool) (e:bG),o=.returned (.bool i)/\cB m a g (.slice f b.length l) e/\Fr a w m/\(∃n,e=d++n)/\(i=true->kG c d e/\aDf b c e)/\(i=false->¬gN b c d)
def aCc(q:Nat):Prop:=∀(a g:Nat) (f:Option Addr) (l:Nat) (b:List Lt) (d:bG) (w:World) (j m k:Nat) (c:List Lt),c.length<=q->0<c.length->cB w a g (.slice f b.length l) d->dD w a f b->dD w a (some ⟨j,m,none⟩) c->c.length<=k->mE b->mE c->a<=w.heap.size->
 Calls zy 100 #[.pointer (some ⟨g,0,none⟩),.slice (some ⟨j,m,none⟩) c.length k] w λp n=>∃(i:Bool) (e:bG),p=.returned (.bool i)/\cB n a g (.slice f b.length l) e/\Fr a w n/\(∃o,e=d++o)/\(i=true->kG c d e/\aDf b c e)/\(i=false->¬gN b c d)
def aG7:Value->Nat
 | .slice _ n _=>n
 |_=>0
def aP7(e c f:List Lt)(d:bG):Prop:=∀b,Tm b->jJ b d->∀a∈c,a∈f\/(a.1,subst b a.2)∈e
theorem mE.of{b:List Lt}(d:mE c)(f:∀a∈b,a∈c):mE b:=λa e=>d a (f a e)
theorem gN.sub{e d:List Lt}{b:bG}(f:gN e c b)(l:∀a∈d,a∈c):gN e d b:=by obtain ⟨m,g,i,j⟩:=f;exact ⟨m,g,i,λa k=>j a (l a k)⟩
theorem aP8{i d:List Lt}{e f g:bG}(j:kG c e f)(m:kG d f g)(l:∀a∈d,a∈i)(k:∀a∈i,a∈c):kG c e g:=j.trans m (λ_ b=>b) (λa b=>k a (l a b))
theorem aG8(U:Nat)(a4:aCc U):aCb U:=by
 intro j L I J g o w d1 d2 c e3 f a3 O d9 b0 a9 a2;have c3:=aA a4;have c4:=aA f;have c1:=aA a3;have c0:=aA O;have c2:=aA b0;have Y:=aA a9;have f1:=O.few;clear a4 f a3 O b0 a9;go_enter Tryz.func80,Tryz.ntmps80;go_wp2;go_loopw [1] (λV wr=>∃(d:List Lt) (e:bG) (T:Option Addr) (x:Nat),V=.slice T d.length x/\d.length<=U/\d.length<=x/\dD wr j T d/\cB wr j L (.slice I g.length J) e/\Fr j w wr/\(∀a∈d,a∈c)/\(∃c8,e=o++c8)/\(gN g c o↔gN g d e)/\kG c o e/\aP7 g c d e) (λV _=>aG7 V);case atStart=>exact ⟨c,o,d1,d2,rfl,e3,d9,c0.o,c4.o,Fr.refl _ _,λ_ h=>h,⟨[],by simp⟩,Iff.rfl,kG.refl _ _,λ_ _ _ a b=>zs b⟩
 case round=>
  obtain ⟨d,e,T,x,rfl,f3,e2,p,f,i,u,t,P,r,s⟩:=hrel;by_cases a1:0<d.length
  ·obtain ⟨d0,e6,_,_,rfl,_⟩:=p.cell 0 a1;have f0:(0:Int)<(d.length:Int):=by omega
   have b7:=aA (aQa j L (.slice I g.length J) e wr d0 e6 x d f p e2 (Y.o.of u) a1 (zm a2 i.size));have k:=aA i;have C:=aA f;have F:=aA u;have n:=aA t;have X:=aA P;have B:=aA r;have E:=aA s;have e5:=zm a2 i.size;clear p f i u t P r s;go_wp2_with (first
    |(go_at_call 99;refine (aD b7).mono ?_;rintro d3 e9 ⟨b8,c9,d4,d6,d5,e7,e8,rfl,e0,e4,a5,a6,R,f2,d7,a7,m⟩;have b6:=aA (c3.o j L I J g e e9 d4 d6 d5 b8 (by omega) d7 (C.o.below m) (c1.o.fr (k.o.trans (Fr.of_below m))) a5 e0 c2.o (Y.o.of λa b=>F.o a ((R a).2 (zs b))) (zm e5 m.size));have W:=aA m;have c7:=aA a6;have l:=aA R;have b9:=aA a7;clear a5 a6 R a7 m)
    |(go_at_call 100;refine (aD b6).mono ?_;rintro d3 f4 ⟨y,a0,rfl,b1,a8,b3,b4,b5⟩;have D:=aA b1;have A:=aA a8;have Z:=aA b3;have c5:=aA b4;have c6:=aA b5;clear b1 a8 b3 b4 b5))
   ·have S:y=false:=by first|assumption|(cases y<;>simp_all)
    subst S;go_ret;refine ⟨false,a0,rfl,D.o,k.o.trans ((Fr.of_below W.o).trans A.o),?_,by simp,λ_ d8=>?_⟩
    ·obtain ⟨G,M⟩:=n.o;obtain ⟨H,N⟩:=Z.o;exact ⟨G++H,by rw [N,M];simp⟩
    ·exact c6.o rfl (((X.o).1 d8).sub λa b=>(l.o a).2 (zs b))
   ·have S:y=true:=by first|assumption|(cases y<;>simp_all)
    subst S;go_roundw;case rel=>
     obtain ⟨Q,b2⟩:=c5.o rfl;refine ⟨c9,a0,e7,e8,rfl,by omega,e4,c7.o.fr A.o,D.o,k.o.trans ((Fr.of_below W.o).trans A.o),λa b=>F.o a ((l.o a).2 (zt b)),?_,?_,?_,?_⟩
     ·obtain ⟨G,M⟩:=n.o;obtain ⟨H,N⟩:=Z.o;exact ⟨G++H,by rw [N,M];simp⟩
     ·exact X.o.trans (aUv l.o b9.o Q D.o.ok.look b2)
     ·exact aP8 B.o Q (λa b=>(l.o a).2 (zs b)) F.o
     ·intro z v q a b;rcases E.o z v (Q.ext q) a b with h|h
      ·rcases (l.o a).1 h with h|h
       ·exact zt (b2 z v q a h)
       ·exact zs h
      ·exact zt h
    case measure=>simp [aG7];omega
  ·have e1:d=[]:=zu (by omega);subst e1;have k:=aA i;have C:=aA f;have n:=aA t;have B:=aA r;have E:=aA s;clear p f i u t P r s;go_wp2;go_ret;refine ⟨true,e,rfl,C.o,k.o,n.o,λ_=>⟨B.o,λz v q a b=>?_⟩,by simp⟩;rcases E.o z v q a b with h|h
   ·simp at h
   ·exact h
theorem aP9(b f:Nat)(n:Value)(e:bG)(w:World)(p q:Bool)(k l:Option Addr)(r m:Nat)(d a:List Nd)(z:cB w b f n e)(x:fP w b k d)(y:fP w b l a)(A:a.length<=m)(G:aQ d 1=true)(H:aQ a 1=true)(u:d.length<=60)(v:a.length<=60)(C:jX (p,d) (q,a) e=none):∀i,(∃E,i=w.drewN E)->Calls zy 114 #[.pointer (some ⟨f,0,none⟩),.agg #[.bool p,.slice k d.length r],.agg #[.bool q,.slice l a.length m]] i λs o=>s=.returned (.bool false)/\(∃j,cB o b f n (e++j))/\Fr b w o:=by
 intro i g;refine (aCf b f n e i p q k l r m d a (z.drawn g) (x.fr ((Fr.refl _ _).drawn g)) (y.fr ((Fr.refl _ _).drawn g)) A G H u v).mono ?_;rintro s o ⟨F,I,rfl,D,B,⟨j,rfl⟩,t,J⟩;cases F with
 |true=>rw [C] at t;simp at t
 |false=>exact ⟨rfl,⟨j,D⟩,((Fr.refl _ _).drawn g).trans B⟩
theorem aPa(b e:Nat)(m:Value)(i q:bG)(w:World)(o p:Bool)(j k:Option Addr)(r l:Nat)(d a:List Nd)(B:cB w b e m i)(z:fP w b j d)(A:fP w b k a)(C:a.length<=l)(H:aQ d 1=true)(I:aQ a 1=true)(v:d.length<=60)(x:a.length<=60)(u:jX (o,d) (p,a) i=some q):∀g,(∃F,g=w.drewN F)->Calls zy 114 #[.pointer (some ⟨e,0,none⟩),.agg #[.bool o,.slice j d.length r],.agg #[.bool p,.slice k a.length l]] g λs n=>s=.returned (.bool true)/\cB n b e m q/\Fr b w n:=by
 intro g f;refine (aCf b e m i g o p j k r l d a (B.drawn f) (z.fr ((Fr.refl _ _).drawn f)) (A.fr ((Fr.refl _ _).drawn f)) C H I v x).mono ?_;rintro s n ⟨G,J,rfl,E,D,_,y,t⟩;cases G with
 |true=>
  have:=y rfl;rw [u] at this;simp at this;subst this;exact ⟨rfl,E,((Fr.refl _ _).drawn f).trans D⟩
 |false=>rw [u] at t;simp at t
theorem dD.take{B a d:Nat}(b:dD w B (some ⟨a,d,none⟩) c)(k:Nat):dD w B (some ⟨a,d,none⟩) (c.take k):=by
 refine ⟨by have:=b.few;simp;omega,λj e=>?_⟩;have f:j<c.length:=by simp at e;omega
 have:=b.cell j f;simpa using this
theorem dD.drop{f e d:Nat}(g:dD w f (some ⟨e,d,none⟩) c)(a:Nat):dD w f (some ⟨e,d+a*2,none⟩) (c.drop a):=by
 refine ⟨by have:=g.few;simp;omega,λb q=>?_⟩;have r:a+b<c.length:=by simp at q;omega
 obtain ⟨j,u,i,k,l,s,m,n,o,p⟩:=g.cell (a+b) r;obtain ⟨rfl,rfl⟩ : e=j/\d=u:=by simpa using l
 have t:(c.drop a)[b]=c[a+b]:=by simp
 rw [t];exact ⟨e,d+a*2,i,k,rfl,s,by rw [show d+a*2+b*2=d+(a+b)*2 by omega];exact m,by rw [show d+a*2+b*2+1=d+(a+b)*2+1 by omega];exact n,o,p⟩
theorem aG9(c:List Lt)(a:Nat)(e:a<c.length):∀b,b∈c↔b=c[a]\/b∈c.take a++c.drop (a+1):=by
 intro b;have d:c=c.take a++c[a]::c.drop (a+1):=by rw [<-List.drop_eq_getElem_cons e,List.take_append_drop]
 constructor
 ·intro hl;rw [d] at hl;rcases zv.1 hl with hl|hl
  ·exact zt (List.mem_append_left _ hl)
  ·rcases List.mem_cons.1 hl with hl|hl
   ·exact zs hl
   ·exact zt (List.mem_append_right _ hl)
 ·rintro (rfl|hl)
  ·exact zw _
  ·rcases zv.1 hl with hl|hl
   ·exact List.mem_of_mem_take hl
   ·exact List.mem_of_mem_drop hl
theorem aPb(b4:Nat)(g7:aCb b4):aCc (b4+1):=by
 intro j C g3 J b m w e i d c o9 l2 o a8 a7 o4 d9 d8 o0;have j3:=aA (aPu j C g3 J b m w (some ⟨e,i,none⟩) d c o a8 a7 d9 d8 l2);have k7:=aA g7;have n7:=aA o;have f0:=aA a8;have c3:=aA a7;have c6:=aA d9;have f1:=aA d8;have o3:=a7.few;have o5:=a8.few;clear g7 o a8 a7 d9 d8;go_enter Tryz.func100,Tryz.ntmps100;go_wp2_with (go_at_call 112;refine (aD j3).mono ?_;rintro L r ⟨a,rfl,U,h8,d7⟩;have j8:=aA h8;have c4:=aA d7;have p1:=d7.size;clear h8 d7);have l5:(a:Int)<=(d:Int):=by omega
 have l6:(a:Int)+1<=(c.length:Int):=by omega
 have l7:(c.length:Int)<=(d:Int):=by omega
 have l8:(0:Int)<=(a:Int):=by omega
 have l9:(a:Int)+1<=(d:Int):=by omega
 have m0:(0:Int)<=(a:Int)+1:=by omega
 have m1:((a:Int)+1).toNat=a+1:=by omega
 have m7:IntKind.i64.wrap ((a:Int)+1)=(a:Int)+1:=by rw [IntKind.wrap_i64];omega
 obtain ⟨n,q,m3,h1⟩ : ∃n q,(if d=a+1 then some (⟨e,i,none⟩ : Addr) else some ⟨e,i+(a+1)*2,none⟩)=some ⟨n,q,none⟩/\dD r j (some ⟨n,q,none⟩) (c.drop (a+1)):=by
  by_cases a6:d=a+1
  ·have:c.drop (a+1)=[]:=List.drop_eq_nil_of_le (by omega);rw [this];exact ⟨e,i,aI a6,⟨by simp,λa U=>by simp at U⟩⟩
  ·exact ⟨e,i+(a+1)*2,aH a6,(c3.o.fr c4.o).drop (a+1)⟩
 have b2:aB r (r.alloc (.cells #[.slice (some ⟨e,i,none⟩) a d,.slice (some ⟨n,q,none⟩) (c.length-(a+1)) (d-(a+1))] 51)):=(Below.refl _ _).alloc (zx _) _;have S:=tR r (.slice (some ⟨e,i,none⟩) a d) (.slice (some ⟨n,q,none⟩) (c.length-(a+1)) (d-(a+1))) 51;have h6:(c.take a).length=a:=by simp;omega
 have h7:(c.drop (a+1)).length=c.length-(a+1):=by simp
 have j2:=aA (λwx (F:∃b4,wx=(r.alloc (.cells #[.slice (some ⟨e,i,none⟩) a d,.slice (some ⟨n,q,none⟩) (c.length-(a+1)) (d-(a+1))] 51)).drewN b4)=>
  aP6 j r.heap.size e i d n q (d-(a+1)) (c.take a) (c.drop (a+1)) wx (((((c3.o.fr c4.o).take a).fr (Fr.of_below b2)).fr ((Fr.refl _ _).drawn F))) ((h1.fr (Fr.of_below b2)).fr ((Fr.refl _ _).drawn F)) (by rw [h6];obtain ⟨m9,rfl⟩:=F;exact S.1) (by rw [h7];obtain ⟨m9,rfl⟩:=F;exact S.2))
 have p0:(c.take a++c.drop (a+1)).length+1=c.length:=by simp;omega
 have j4:=aA b2;have f7:=aA (c3.o.cell a U);have c9:=aA (f1.o c[a] (zw _));have P:=aA (aG9 c a U);have j7:aM (mE (c.take a++c.drop (a+1))):=aA (f1.o.of λs hl=>(aG9 c a U s).2 (zt hl));generalize hrest:c.take a++c.drop (a+1)=rest at *;obtain ⟨b9,F⟩ : ∃b9,b9=c[a]:=⟨_,rfl⟩;rw [<-F] at f7 c9 P;clear b2 S h6 h7 h1 hrest F;go_region_held3 (λ_=>True) (trivial) ((go_at_call 113;refine (aD j2 _ (by first|exact ⟨0,rfl⟩|exact ⟨1,rfl⟩|exact ⟨_,rfl⟩)).mono ?_;rintro L b8 ⟨p9,rfl,i2,R⟩;have j6:=aA R;replace R:=tS (W:=r.alloc (.cells #[.slice (some ⟨e,i,none⟩) a d,.slice (some ⟨n,q,none⟩) (c.length-(a+1)) (d-(a+1))] 51)) (by first|exact ⟨0,rfl⟩|exact ⟨1,rfl⟩|exact ⟨_,rfl⟩) R;have k6:=aA i2;have j5:=aA R;clear i2 R));have d1:aB r b8:=j4.o.trans (j5.o.mono (by simp));have g9:Below ((r.alloc (.cells #[.slice (some ⟨e,i,none⟩) a d,.slice (some ⟨n,q,none⟩) (c.length-(a+1)) (d-(a+1))] 51)).drew).heap.size ((r.alloc (.cells #[.slice (some ⟨e,i,none⟩) a d,.slice (some ⟨n,q,none⟩) (c.length-(a+1)) (d-(a+1))] 51)).drew) b8:=j6.o;obtain ⟨n1,n2,rfl,m4,g6,-⟩:=k6.o.lits g9 (by omega);have G:aM (Fr j w b8):=aA (c4.o.trans (Fr.of_below d1));have f3:=aA (j8.o.below d1);have k5:=aA g6;have o1:=f3.o.among;have p2:=(G.o).size;clear d1 g9 g6 m3 l5 l6 l7 l8 l9 m0 m1 m7;go_wp2;go_loopw [27] (λe2 wr=>∃g:Nat,g<=b.length/\e2=.int .i64 g/\cB wr j C (.slice g3 b.length J) m/\Fr j b8 wr/\(∀t∈b.take g,∀x,jX b9 t m=some x->¬gN b rest x)) (λe2 _=>b.length-(intOf e2).toNat);case atStart=>exact ⟨0,Nat.zero_le _,rfl,f3.o,Fr.refl _ _,by simp⟩
 case round=>
  obtain ⟨g,o6,rfl,o,M,Y⟩:=hrel;by_cases h5:g<b.length
  ·obtain ⟨a5,b5,u,v,rfl,m5,n5,n6,a2,d4⟩:=((f0.o.fr G.o).fr M).cell g h5;obtain ⟨E,a1⟩:=c6.o b[g] (zw _);obtain ⟨l1,n0,e8,e9,g4,b3,e4,i9,m8,g8⟩:=f7.o;obtain ⟨rfl,rfl⟩ : e=l1/\i=n0:=by simpa using g4
   have Q:=G.o.trans M;have c0:=Q.cell e4 b3;have e6:=Q.cell i9 b3;have d3:=g8.fr Q;have i3:=b3.fr (zz w _ e4) Q;obtain ⟨D,a0⟩:=c9.o;obtain ⟨n8,n9,h0⟩:=o.len;have o8:(m.length:Int)<=60:=by have:=o.ok.few;omega
   have Z:b.take (g+1)=b.take g++[b[g]]:=List.take_succ_eq_append_getElem h5;have i6:b[g]∈b:=zw _;have o7:(a:Int)<(c.length:Int):=by omega
   generalize b[g]=t at *;obtain ⟨k,l⟩:=t;obtain ⟨z,A⟩:=b9;simp only at n5 n6 E a1 d4 a2 c0 e6 d3 D a0 m8;have p:aB wr (wr.alloc (.cells #[.bool k,.slice u l.length v] 86)):=(Below.refl _ _).alloc (zx _) _;have S:=tR wr (.bool k) (.slice u l.length v) 86;have i4:=zT (w:=wr) (B:=j) #[.bool k,.slice u l.length v] 86 (by decide) (by decide);have i5:lN (wr.alloc (.cells #[.bool k,.slice u l.length v] 86)) j e:=i3.fr (zz wr _ c0) (Fr.of_below p);have e5:=aC p c0;have e7:=aC p e6;have o2:=aC p h0;obtain ⟨d5,d6⟩:=S;have a9:=o.below p;have b0:=d3.fr (Fr.of_below p);have b1:=d4.fr (Fr.of_below p);have O:=aA (M.trans (Fr.of_below p));have f4:=aA Y;have f5:=aA Z;have k8:=aA i6;have H:=aA i4;have I:=aA i5;have p4:=(O.o).size;clear Y Z i6 o M Q i3 b3 m5 i4 i5 g8 d3 d4 e4 i9 g4 c0 e6 h0;cases hml:jX (z,A) (k,l) m with
   |none=>
    have c2:=aA (aP9 j C (.slice (some ⟨a5,b5,none⟩) b.length J) m _ z k e8 u e9 v A l a9 b0 b1 a2 D E a0 a1 hml);have a4:=aA hml;clear a9 b0 b1 hml a2 E a1 D a0 p;go_wp2_with fail;generalize hWI:wr.alloc (.cells #[.bool k,.slice u l.length v] 86)=WI at *;clear hWI;first|go_region_with (go_at_call 114;refine (aD c2 _ (by first|exact ⟨0,rfl⟩|exact ⟨1,rfl⟩|exact ⟨_,rfl⟩)).mono ?_;rintro L e3 ⟨rfl,⟨l0,V⟩,f⟩;have f9:=f.cell e5 I.o;have g0:=f.cell e7 I.o;have g1:=f.cell d5 H.o;have g2:=f.cell d6 H.o;have c1:=aA (aCg j C _ m l0 e3 V);have a3:=aA (O.o.trans f);clear V f)|fail
    all_goals
     go_wp2_with (go_at_call 115;refine (aD c1).mono ?_;rintro L n4 ⟨rfl,X,T⟩;have c8:=aA X;have c5:=aA (a3.o.trans T);clear X T);go_roundw;case rel=>exact ⟨g+1,by omega,by go_num,c8.o,c5.o,by
      intro t hy x y;rw [f5.o] at hy;rcases zv.1 hy with hy|hy
      ·exact f4.o t hy x y
      ·simp at hy;subst hy;rw [a4.o] at y;simp at y⟩
     case measure=>simp [intOf];omega
   |some L1=>
    have c2:=aA (aPa j C (.slice (some ⟨a5,b5,none⟩) b.length J) m L1 _ z k e8 u e9 v A l a9 b0 b1 a2 D E a0 a1 hml);obtain ⟨d0,g5,h4⟩:=aUs (x:=(z,A)) (y:=(k,l)) D E hml;have a4:=aA hml;have c7:=aA g5;have f6:=aA (And.intro D E);have f2:=aA h4;clear a9 b0 b1 hml a2 E a1 D a0 p g5 h4;go_wp2_with fail;generalize hWI:wr.alloc (.cells #[.bool k,.slice u l.length v] 86)=WI at *;clear hWI;go_region_held3 (λb7=>b7.cell? ⟨e,i+a*2,none⟩=some (.bool z)/\b7.cell? ⟨e,i+a*2+1,none⟩=some (.slice e8 A.length e9)/\b7.cell? ⟨wr.heap.size,0,none⟩=some (.bool k)/\b7.cell? ⟨wr.heap.size,1,none⟩=some (.slice u l.length v)) (go_keep)
     (first
      |(go_at_call 114;refine (aD c2 _ (by first|exact ⟨0,rfl⟩|exact ⟨1,rfl⟩|exact ⟨_,rfl⟩)).mono ?_;rintro L e3 ⟨rfl,V,f⟩;have f9:=f.cell e5 I.o;have g0:=f.cell e7 I.o;have g1:=f.cell d5 H.o;have g2:=f.cell d6 H.o;have p3:=f.size;have j1:=aA (k7.o j C (some ⟨a5,b5,none⟩) J b L1 e3 n1 n2 rest (by omega) V (((f0.o.fr G.o).fr O.o).fr f) ((k5.o.fr O.o).fr f) m4 c6.o j7.o (by omega));have B:=aA f;clear V f)
      |(go_at_call 80;refine (aD j1).mono ?_;rintro L n3 ⟨b6,k9,rfl,e0,N,⟨f8,d2⟩,i0,i1⟩;have p5:=N.cell f9 (I.o.fr (zz _ _ e5) B.o);have p6:=N.cell g0 (I.o.fr (zz _ _ e7) B.o);have p7:=N.cell g1 (H.o.fr (zz _ _ d5) B.o);have p8:=N.cell g2 (H.o.fr (zz _ _ d6) B.o);have c1:=aA (aCg j C (.slice (some ⟨a5,b5,none⟩) b.length J) m (d0++f8) n3 (by rw [<-List.append_assoc,<-c7.o,<-d2];exact e0));have k1:=aA e0;have a3:=aA ((O.o.trans B.o).trans N);have k3:=aA i0;have k4:=aA i1;have j9:=aA d2;clear e0 N i0 i1 d2))
    go_wp2_with (go_at_call 115;refine (aD c1).mono ?_;rintro L n4 ⟨rfl,X,T⟩;have c8:=aA X;have c5:=aA (a3.o.trans T);clear X T)
    ·have e1:b6=true:=by first|assumption|(cases b6<;>simp_all)
     subst e1;go_ret;obtain ⟨h3,m2⟩:=k3.o rfl;have m6:=aDe (x:=(z,A)) (y:=(k,l)) f6.o.1 f6.o.2 a4.o;refine ⟨true,k9,rfl,k1.o,G.o.trans a3.o,⟨d0++f8,by rw [j9.o,c7.o];simp⟩,λ_=>⟨?_,?_⟩,by simp⟩
     ·refine kG.trans (c:=[(z,A)]) ⟨d0,c7.o,λi8 h9=>⟨⟨(z,A),by simp,(f2.o i8 h9).1⟩,(f2.o i8 h9).2⟩⟩ h3 (λs hl=>?_) (λs hl=>(P.o s).2 (zt hl));simp at hl;rw [hl];exact (P.o _).2 (zs rfl)
     ·intro j0 i7 h2 s hl;rcases (P.o s).1 hl with rfl|hl
      ·rw [((m6 j0 i7).1 (h3.ext h2)).2];exact k8.o
      ·exact m2 j0 i7 h2 s hl
    ·have e1:b6=false:=by first|assumption|(cases b6<;>simp_all)
     subst e1;go_roundw;case rel=>exact ⟨g+1,by omega,by go_num,c8.o,c5.o,by
      intro t hy x y;rw [f5.o] at hy;rcases zv.1 hy with hy|hy
      ·exact f4.o t hy x y
      ·simp at hy;subst hy;rw [a4.o] at y;simp at y;subst y;exact k4.o rfl⟩
     case measure=>simp [intOf];omega
  ·have Z:b.take g=b:=List.take_of_length_le (by omega);rw [Z] at Y;have k0:=aA o;have B:=aA M;have k2:aM (¬gN b c m):=aA (by
    intro l4;obtain ⟨t,hy,x,a6,l3⟩:=(aUt (λs hl=>(c6.o s hl).1) c9.o.1 P.o).1 l4;exact Y t hy x a6 l3)
   clear Z Y o M;go_wp2;go_ret;exact ⟨false,m,rfl,k0.o,G.o.trans B.o,⟨[],by simp⟩,by simp,λ_=>k2.o⟩
theorem aGa:∀n,aCc n
 |0=>λa j g i f b w d m e c l k=>by omega
 |n+1=>aPb n (aG8 n (aGa n))
theorem aPc(a:Nat):aCb a:=aG8 a (aGa a)
def iJ(a:Value):Array Value:=#[a]++zj 61 (.slice none 0 0)
def vA:Array Value:=zj 62 (.slice none 0 0)
theorem aCd(a:Value):(iJ a).size=62:=by simp [iJ]
theorem aGb(a:Value):(iJ a)[0]?=some a:=by simp [iJ]
theorem aCe(b:Value)(a:Nat)(d:a<61):(iJ b)[1+a]?=some (.slice none 0 0):=by unfold iJ;rw [Array.getElem?_append_right (by simp)];simp [d]
theorem aPd(a:Option Addr)(b c:Nat):zy.built 136 [(0,.slice a b c)]=some (iJ (.slice a b c)):=by kernel_rfl
theorem aGc:(zy.info? 136).map (λa=>(a.zero,a.size))=some (some (.agg vA),62):=by kernel_rfl
theorem aPe(w:World)(e a:Array Value)(d:TypeId):(w.alloc (.cells e d)).setRow w.heap.size a=w.alloc (.cells a d):=by
 unfold World.setRow World.alloc;congr 1
 apply Array.ext
 ·simp
 ·intro b j f;simp only [Array.getElem_modify];by_cases g:b<w.heap.size
  ·rw [aH (by omega)];simp [Array.getElem_push_lt g]
  ·have i:b=w.heap.size:=by simp at f;omega
   subst i;simp
theorem aPf(w:World):(Instr.alloc 136 true (.tuple #[])).run zy w=.ok (.pointer (some ⟨w.heap.size,0,none⟩)) (w.alloc (.cells vA 136)):=by
 have a:=aGc;cases hi:zy.info? 136 with
 |none=>rw [hi] at a;simp at a
 |some i=>
  rw [hi] at a;simp at a;have b:(Value.agg vA).cells=vA:=rfl;simp [Instr.alloc,zeroValue,typeInfo,hi,a.1,newVar,newRow,b]
theorem aPg{r:Array Oper}{s:List Oper}{d j k m:Oper}{e:Act}{o:Exit->Act->World->Prop}(v:d.guard=none)(x:j.guard=none)(y:k.guard=none)(z:m.guard=none)(t n l p:Operand)
  (A:d.op=.move t) (B:j.op=.build 136 #[(0,n)]) (C:k.op=.alloc 136) (D:m.op=.store 136 l p) (b:Option Addr) (a c:Nat) (H:e.eval t=.slice b a c) (G:(e.put d.dst (.slice b a c)).eval n=.slice b a c)
  (I:(((e.put d.dst (.slice b a c)).put j.dst (.agg (iJ (.slice b a c)))).put k.dst (.pointer (some ⟨w.heap.size,0,none⟩))).eval l=.pointer (some ⟨w.heap.size,0,none⟩))
  (J:(((e.put d.dst (.slice b a c)).put j.dst (.agg (iJ (.slice b a c)))).put k.dst (.pointer (some ⟨w.heap.size,0,none⟩))).eval p=.agg (iJ (.slice b a c)))
  (f:wpList zy r o s ((((e.put d.dst (.slice b a c)).put j.dst (.agg (iJ (.slice b a c)))).put k.dst (.pointer (some ⟨w.heap.size,0,none⟩))).put m.dst undef) (w.alloc (.cells (iJ (.slice b a c)) 136))):wpList zy r o (d::j::k::m::s) e w:=by
 refine wpList_plain v λK hK=>?_
 have u:d.wp zy e w K o:=by
  unfold Oper.wp execOp;simp only [A,H,Sem.run_pure];refine hK _ _ ?_;have q:zy.built 136 ((#[(0,n)]:Array (Nat×Operand)).map λ(g,l)=>(g,(e.put d.dst (.slice b a c)).eval l)).toList=some (iJ (.slice b a c)):=by simp only [List.map_toArray,List.map_cons,List.map_nil,G];exact aPd b a c
  refine wpList_build x 136 #[(0,n)] B (by rw [q];rfl) ?_;rw [q];simp only [Option.getD_some];refine wpList_plain y λM E=>?_
  unfold Oper.wp execOp;simp only [C,Sem.run_bind,aPf,Sem.run_pure,Result.andThen_ok];refine E _ _ ?_;refine wpList_store_row z 136 l p D w.heap.size (iJ (.slice b a c)) I J 136 vA (heap_alloc_new w _) ?_ ?_ ?_ ?_
  ·have f:=aGc;cases i:zy.info? 136 with
   |none=>rw [i] at f;simp at f
   |some g=>rw [i] at f;simp at f;simp [f.2,aCd]
  ·simp [aCd,vA]
  ·have F:(iJ (.slice b a c)).all (λL=>L.oneCell')=true:=by
    rw [Array.all_eq_true];intro g i;rcases zo g with rfl|hp
    ·have:=aGb (.slice b a c);rw [zr i] at this;simp at this;rw [this];rfl
    ·have:=aCe (.slice b a c) (g-1) (by rw [aCd] at i;omega);rw [show 1+(g-1)=g by omega,zr i] at this;simp at this;rw [this];rfl
   exact F
  ·rw [aPe];exact f
 exact u
theorem cB.new(w:World)(a:Value):cB (w.alloc (.cells (iJ a) 136)) w.heap.size w.heap.size a []:=by
 have e:(w.alloc (.cells (iJ a) 136)).heap[w.heap.size]?=some (.cells (iJ a) 136):=heap_alloc_new w _;have b:∀d,(w.alloc (.cells (iJ a) 136)).cell? ⟨w.heap.size,d,none⟩=(iJ a)[d]?:=λd=>by unfold World.cell?;simp only [e];rfl
 refine ⟨zx _,⟨_,e⟩,by rw [b];exact aGb a,λf g=>⟨_,by rw [b];exact aCe a f (by omega),rfl⟩,⟨.slice none 0 0,by rw [b];exact aCe a 60 (by omega),zn _ _ _ _⟩,mJ.nil⟩
theorem aGd(a:aY c=true):mE c/\c.length<=8:=by simp only [aY,Bool.and_eq_true,bP,decide_eq_true_eq,List.all_eq_true] at a;exact ⟨λd b=>aJ8 (a.1.2 d b),a.1.1.1⟩
theorem dD.of{b:Option Addr}(h:cH w b c)(t:aAm w b c)(s:c.length<=8)(u:mE c):dD w w.heap.size b c:=by
 refine ⟨s,λa m=>?_⟩;obtain ⟨f,n,e,g,i,j,k,l⟩:=h.cell a m;refine ⟨f,n,e,g,i,zs (zz w _ j),j,k,t a m f n e _ g i k,l,λp x=>?_⟩;have v:=aUo (q:=0) (u c[a] (zw _)).1;have o:0<c[a].2.length:=by
  rcases zo c[a].2.length with h|h
  ·exact absurd (zu h) v
  ·exact h
 obtain ⟨y,z,d,r,_⟩:=l.cell 0 o;rw [x] at d;simp at d;rw [d];exact zz w _ r
theorem aPh(l e:Option Addr)(n g:Nat)(b a:List Lt)(w:World)(i:cH w l b)(j:cH w e a)(E:aAm w l b)(F:aAm w e a)(R:b.length<=n)(C:aY b=true)(D:aY a=true):Calls zy 51 #[.slice l b.length n,.slice e a.length g] w λr X=>∃k:Bool,r=.returned (.bool k)/\(k=true↔b.length<=a.length/\gN a b [])/\aB w X:=by
 obtain ⟨s,V⟩:=aGd C;obtain ⟨t,W⟩:=aGd D;have p:=aA s;have q:=aA t;have I:=aA i;have J:=aA j;have P:=aA E;have Q:=aA F;clear C D s t i j E F;go_enter Tryz.func51,Tryz.ntmps51;go_upto_region 1 with (fail);apply wp_region_lit;refine aPg rfl rfl rfl rfl _ _ _ _ rfl rfl rfl rfl e a.length g rfl (by rfl) (by rfl) (by rfl) ?_;have u:=dD.of I.o P.o V p.o;have v:=dD.of J.o Q.o W q.o;have m:aB w (w.alloc (.cells (iJ (.slice e a.length g)) 136)):=(Below.refl _ _).alloc (zx _) _;have o:=aA m;have H:=aA (aPc b.length w.heap.size w.heap.size e g a [] _ l n b (zx _) (cB.new w (.slice e a.length g)) (v.fr (Fr.of_below m)) (u.fr (Fr.of_below m)) R q.o p.o (by simp));clear u v m;by_cases y:b.length<=a.length
 ·have T:(b.length:Int)<=(a.length:Int):=by omega
  go_wp2_with (go_at_call 80;refine (aD H).mono ?_;rintro r a0 ⟨k,Y,rfl,z,x,-,A,B⟩;have M:=aA z;have L:=aA (o.o.trans ((x.below (by simp)).mono (zx _)));have N:=aA A;have O:=aA B;clear z x A B);go_ret;refine ⟨k,rfl,?_,L.o⟩;cases k with
  |true=>
   obtain ⟨S,U⟩:=N.o rfl;refine ⟨λ_=>⟨y,?_⟩,λ_=>rfl⟩;obtain ⟨G,i,j,_⟩:=aUw (d:=a) M.o.ok.look;exact ⟨G,i,S.ext j,U G i j⟩
  |false=>exact ⟨λf=>by simp at f,λf=>absurd f.2 (O.o rfl)⟩
 ·have T:decide ((b.length:Int)<=(a.length:Int))=false:=by rw [decide_eq_false_iff_not];omega
  have Z:(a.length:Int)<(b.length:Int):=by omega
  go_wp2;go_ret;exact ⟨false,rfl,⟨λf=>by simp at f,λf=>absurd f.1 y⟩,o.o⟩
theorem aPi(i:Nat)(d e:Option Addr)(f g:Nat)(c a:List Lt)(w:World)(q:bR i w (.slice d c.length f) c)(r:bR i w (.slice e a.length g) a)(j:aY c=true)(k:aY a=true):Calls zy 51 #[.slice d c.length f,.slice e a.length g] w λb l=>b=.returned (.bool (bD c a))/\aB w l:=by
 obtain ⟨v,y,b,t,o,m⟩:=q.lits (lA j);cases b;obtain ⟨x,z,b,A,p,n⟩:=r.lits (lA k);cases b;refine (aPh d e f g c a w o p m n t j k).mono ?_;rintro b l ⟨B,rfl,u,s⟩;exact ⟨by rw [aO3 u],s⟩
theorem xO{a:List Lt}(k:aY c=true)(l:aY a=true):kE c a:=λb d e f g w i j=>aPi b d e f g c a w i j k l
theorem aPj{i:Int->List Nd}(f:Tm i):∀(d:List Nd) (b:Nat),aQ d b=true->aQ (subst i d) b=true:=by
 intro d b g;refine aEn _ b (aY7 d b (λe _ _=>aKy (f e.2)) (aKy g)) λe a=>?_
 unfold subst at a;obtain ⟨k,j,a⟩:=zl.1 a;split at a
 ·exact wT (f k.2) e a
 ·simp at a;subst a;exact wT g e j
theorem aPk(k:aY c=true):gN c c []:=by
 have p:Tm λa=>if 0<=a/\a<60 then [(⟨#[]⟩,a)] else [(⟨#[]⟩,0)]:=by
  intro a;simp only;have j:∀b:Int,0<=b->b<60->aQ [((⟨#[]⟩ : ByteArray),b)] 1=true:=by intro b l m;have e:=pG b;rw [mI];unfold cZ;rw [aI e,jK e];simp [aQ,l,m]
  split
  ·rename_i f;exact j a f.1 f.2
  ·exact j 0 (by omega) (by omega)
 refine ⟨_,p,λa r f=>by simp [look] at f,λg i=>?_⟩;have n:=(lA k).term g i;have:subst (λa=>if 0<=a/\a<60 then [(⟨#[]⟩,a)] else [(⟨#[]⟩,0)]) g.2=g.2:=by
  rw [aJa (τ:=λb=>[(⟨#[]⟩,b)]) λq o e=>?_]
  ·exact aY6 g.2
  ·have d:=wT n.1 q o;unfold cZ at d;rw [aI e] at d;simp at d;rw [aI d]
 rw [this];exact i
theorem aPl{b d e:List Lt}(f:gN d b [])(j:gN e d []):gN e b []:=by obtain ⟨p,l,_,m⟩:=f;obtain ⟨q,n,_,o⟩:=j;refine ⟨λa=>subst q (p a),λa=>aPj n _ 1 (l a),λa r i=>by simp [look] at i,λk g=>?_⟩;rw [<-aY9];exact o _ (m k g)
