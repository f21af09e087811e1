import Derived.Laws.Tables
import Derived.Test.YtbpiopdphigodaaGreatDoorXSr0P
import Derived.Test.YtbpiopdphigodaaGreatDoorCWaysP
import Derived.Lib.AppendZeros
import Derived.Deep.SlicePairs
open Array renaming getElem?_eq_getElem→zu,replicate→zn
open List renaming mem_append→zx,getElem_mem→zw,range→zq
open Nat renaming le_refl→zr,le_trans→zp
open Or renaming inr→zv,inl→zs
namespace Go.Proofs.YtbpiopdphigodaaGreatDoor
open _root_.Go.Proofs.Tryz renaming prog→zy,underlying29→zt
open World renaming block_lt_of_cell?→zz
open Go.RowKit Go.Shelf
set_option maxHeartbeats 4000000
set_option maxRecDepth 100000
variable{c:List Lt}{w:World}
def gT(a:Value):Array Value:=#[a]++zn 61 (.slice none 0 0)
def tU:Array Value:=zn 62 (.slice none 0 0)
theorem aAh(a:Value):(gT a).size=62:=by simp [gT]
theorem aEd(a:Value):(gT a)[0]?=some a:=by simp [gT]
theorem aAi(b:Value)(a:Nat)(d:a<61):(gT b)[1+a]?=some (.slice none 0 0):=by unfold gT;rw [Array.getElem?_append_right (by simp)];simp [d]
theorem aM0(a:Option Addr)(b c:Nat):zy.built 153 [(0,.slice a b c)]=some (gT (.slice a b c)):=by kernel_rfl
theorem aEe:(zy.info? 153).map (λa=>(a.zero,a.size))=some (some (.agg tU),62):=by kernel_rfl
theorem aM1(w:World)(e a:Array Value)(d:TypeId):(w.alloc (.cells e d)).setRow w.heap.size a=w.alloc (.cells a d):=by
 unfold World.setRow World.alloc;congr 1
 apply Array.ext
 ·simp
 ·intro b j f;simp only [Array.getElem_modify];by_cases g:b<w.heap.size
  ·rw [aF (by omega)];simp [Array.getElem_push_lt g]
  ·have i:b=w.heap.size:=by simp at f;omega
   subst i;simp
theorem aM2(w:World):(Instr.alloc 153 true (.tuple #[])).run zy w=.ok (.pointer (some ⟨w.heap.size,0,none⟩)) (w.alloc (.cells tU 153)):=by
 have a:=aEe;cases hi:zy.info? 153 with
 |none=>rw [hi] at a;simp at a
 |some i=>
  rw [hi] at a;simp at a;have b:(Value.agg tU).cells=tU:=rfl;simp [Instr.alloc,zeroValue,typeInfo,hi,a.1,newVar,newRow,b]
theorem aM3{r:Array Oper}{s:List Oper}{d j k m:Oper}{e:Act}{o:Exit->Act->World->Prop}(v:d.guard=none)(x:j.guard=none)(y:k.guard=none)(z:m.guard=none)(t n l p:Operand)
  (A:d.op=.move t) (B:j.op=.build 153 #[(0,n)]) (C:k.op=.alloc 153) (D:m.op=.store 153 l p) (b:Option Addr) (a c:Nat) (H:e.eval t=.slice b a c) (G:(e.put d.dst (.slice b a c)).eval n=.slice b a c)
  (I:(((e.put d.dst (.slice b a c)).put j.dst (.agg (gT (.slice b a c)))).put k.dst (.pointer (some ⟨w.heap.size,0,none⟩))).eval l=.pointer (some ⟨w.heap.size,0,none⟩))
  (J:(((e.put d.dst (.slice b a c)).put j.dst (.agg (gT (.slice b a c)))).put k.dst (.pointer (some ⟨w.heap.size,0,none⟩))).eval p=.agg (gT (.slice b a c)))
  (f:wpList zy r o s ((((e.put d.dst (.slice b a c)).put j.dst (.agg (gT (.slice b a c)))).put k.dst (.pointer (some ⟨w.heap.size,0,none⟩))).put m.dst undef) (w.alloc (.cells (gT (.slice b a c)) 153))):wpList zy r o (d::j::k::m::s) e w:=by
 refine wpList_plain v λK hK=>?_
 have u:d.wp zy e w K o:=by
  unfold Oper.wp execOp;simp only [A,H,Sem.run_pure];refine hK _ _ ?_;have q:zy.built 153 ((#[(0,n)]:Array (Nat×Operand)).map λ(g,l)=>(g,(e.put d.dst (.slice b a c)).eval l)).toList=some (gT (.slice b a c)):=by simp only [List.map_toArray,List.map_cons,List.map_nil,G];exact aM0 b a c
  refine wpList_build x 153 #[(0,n)] B (by rw [q];rfl) ?_;rw [q];simp only [Option.getD_some];refine wpList_plain y λM E=>?_
  unfold Oper.wp execOp;simp only [C,Sem.run_bind,aM2,Sem.run_pure,Result.andThen_ok];refine E _ _ ?_;refine wpList_store_row z 153 l p D w.heap.size (gT (.slice b a c)) I J 153 tU (heap_alloc_new w _) ?_ ?_ ?_ ?_
  ·have f:=aEe;cases i:zy.info? 153 with
   |none=>rw [i] at f;simp at f
   |some g=>rw [i] at f;simp at f;simp [f.2,aAh]
  ·simp [aAh,tU]
  ·have F:(gT (.slice b a c)).all (λL=>L.oneCell')=true:=by
    rw [Array.all_eq_true];intro g i;rcases Nat.eq_zero_or_pos g with rfl|hp
    ·have:=aEd (.slice b a c);rw [zu i] at this;simp at this;rw [this];rfl
    ·have:=aAi (.slice b a c) (g-1) (by rw [aAh] at i;omega);rw [show 1+(g-1)=g by omega,zu i] at this;simp at this;rw [this];rfl
   exact F
  ·rw [aM1];exact f
 exact u
theorem aM4(w:World)(b a:Nat)(d:Value)(f:d.cells.size=2)(g:b<=a)(e:a<=maxLen):(w.drew.alloc (.cells (Builtin.zeroCells d.cells b++Builtin.zeroCells d.cells (a-b)) 41)).ownsRow w.heap.size 41 2 (.slice (some ⟨w.heap.size,0,none⟩) 0 a) 0 []:=by
 refine ⟨by simp,.inr ⟨w.heap.size,a,_,rfl,zr _,heap_alloc_new w.drew _,Nat.zero_le _,e,?_,by simp⟩⟩;simp only [Array.size_append,size_zeroCells,f,<-Nat.add_mul];congr 1
 omega
theorem aM5(a:Nat)(w:World)(s:a<=16):Calls zy 161 #[.slice none 0 0,.int .i64 a] w λi e=>∃d,i=.returned d/\e.ownsRow w.heap.size 41 2 d 0 []/\aB w e:=by
 obtain ⟨p,j,k,q,l⟩:=info_parts sK;by_cases b:a=0
 ·subst b;go_enter Tryz.func161,Tryz.ntmps161;go_wp2;go_ret;exact ⟨_,rfl,World.ownsRow_nil _ _ _ _,Below.refl _ _⟩
 ·have n:=grownCap_ge w a 0 41;have o:=grownCap_le_maxLen w a 0 41 (by unfold maxLen;omega);have m:=aA (Lib.run_append_nil_zeros (P:=zy) w 29 3 29 41 p (.agg #[.bool false,.slice none 0 0]) .i64 .i64 zt Tryz.underlying3 j k a (by omega) (by omega) (by omega) (by rw [l];omega));have g:=aA (aM4 w a (grownCap w a 0 41) (.agg #[.bool false,.slice none 0 0]) rfl n o);have r:(0:Int)<=(grownCap w a 0 41:Int):=by omega
  have t:(0:Int)<(a:Int):=by omega
  have f:aI (aB w (w.drew.alloc (.cells (Builtin.zeroCells (Value.agg #[.bool false,.slice none 0 0]).cells a++Builtin.zeroCells (Value.agg #[.bool false,.slice none 0 0]).cells (grownCap w a 0 41-a)) 41))):=aA ((aQ (w:=w) (w1:=w.drew) ⟨1,rfl⟩).alloc (zr _) _);clear b;go_enter Tryz.func161,Tryz.ntmps161;go_wp2_with (first
   |(at_builtin;refine Lib.wpList_append_run _ rfl _ _ _ _ rfl _ _ rfl rfl _ _ (aC m) ?_)
   |go_in)
  go_ret;exact ⟨_,rfl,g.o,f.o⟩
theorem aEf(a b:List (Lt×Value)):bC (a++b)=bC a++bC b:=by simp [bC]
theorem aEg(w:World)(e:Nat)(b:List (Lt×Value))(g:∀p∈b,pD w e p.2 p.1.2):∀d∈bC b,d.oneCell'=true:=by
 intro d a;simp only [bC,List.mem_flatMap] at a;obtain ⟨p,i,a⟩:=a;obtain ⟨j,k,f,_⟩:=g p i;simp at a;rcases a with rfl|rfl
 ·rfl
 ·rw [f];rfl
theorem dD.cells{B d f:Nat}(C:dD w B (some ⟨d,f,none⟩) c):∃P:List (Lt×Value),P.map Prod.fst=c/\(∀p∈P,pD w B p.2 p.1.2)/\∀j m,(bC P)[j]?=some m->w.cell? ⟨d,f+j,none⟩=some m:=by
 obtain ⟨g,q⟩:=Deep.choose_lt (α:=Value) (n:=c.length) (p:=λk v=>∀a:k<c.length,pD w B v c[k].2/\w.cell? ⟨d,f+k*2,none⟩=some (.bool c[k].1)/\w.cell? ⟨d,f+k*2+1,none⟩=some v) (λk a=>by
  obtain ⟨x,H,u,y,e,_,o,i,D,E⟩:=C.cell k a;obtain ⟨rfl,rfl⟩ : d=x/\f=H:=by simpa using e
  exact ⟨_,λ_=>⟨⟨u,y,rfl,D,E⟩,o,i⟩⟩)
 have r:((zq c.length).map λk=>((c[k]?).getD (false,[]),g k)).length=c.length:=by simp
 refine ⟨(zq c.length).map λk=>((c[k]?).getD (false,[]),g k),?_,λp G=>?_,λj m b=>?_⟩
 ·rw [List.map_map];refine List.ext_getElem (by simp) λk o i=>?_
  simp [i]
 ·obtain ⟨k,a,rfl⟩:=List.mem_map.1 G;have l:k<c.length:=by simpa using a
  simp only [List.getElem?_eq_getElem l,Option.getD_some];exact (q k l l).1
 ·have F:j<(bC ((zq c.length).map λk=>((c[k]?).getD (false,[]),g k))).length:=(List.getElem?_eq_some_iff.1 b).1;rw [aAg,r] at F;have a:j / 2<c.length:=by omega
  obtain ⟨s,t⟩:=vG ((zq c.length).map λk=>((c[k]?).getD (false,[]),g k)) (j / 2) (by rw [r];exact a);simp [a] at s t;obtain ⟨_,z,A⟩:=q (j / 2) a a;rcases Nat.mod_two_eq_zero_or_one j with h0|h0
  ·have e:j=j / 2*2:=by omega
   rw [e] at b ⊢;rw [s] at b;simp at b;rw [<-b];exact z
  ·have e:j=j / 2*2+1:=by omega
   rw [e] at b ⊢;rw [t] at b;simp at b;rw [<-b,<-Nat.add_assoc];exact A
theorem aM6(u N E L a8 F M a9:Nat)(i l:List Lt)(w:World)(G:dD w u (some ⟨E,L,none⟩) i)(H:dD w u (some ⟨F,M,none⟩) l)(c0:w.cell? ⟨N,0,none⟩=some (.slice (some ⟨E,L,none⟩) i.length a8))(c1:w.cell? ⟨N,1,none⟩=some (.slice (some ⟨F,M,none⟩) l.length a9)):Calls zy 145 #[.slice (some ⟨N,0,none⟩) 2 2] w λd b1=>∃P,d=.returned P/\iE w u w.heap.size b1 P (i++l)/\aB w b1:=by
 obtain ⟨a7,X,Y,Z,a0⟩:=info_parts sK;have c3:=G.few;have c4:=H.few;obtain ⟨b,I,V,a2⟩:=G.cells;obtain ⟨g,J,W,a3⟩:=H.cells;have a4:b.length=i.length:=by rw [<-I];simp
 have a5:g.length=l.length:=by rw [<-J];simp
 have b2:=aA (aM5 (i.length+l.length) w (by omega));have q:=aA a4;have r:=aA a5;have b4:=aA a2;have b5:=aA a3;have S:=aA V;have T:=aA W;have b7:=aA I;have b8:=aA J;clear G H I J V W a2 a3 a4 a5;go_enter Tryz.func145,Tryz.ntmps145;go_wp2;go_loop [3,11] (λO o=>∃a p:Nat,a<=2/\o=.int .i64 a/\O=.int .i64 p/\p<=16/\((a=0/\p=0)\/(a=1/\p=i.length)\/(a=2/\p=i.length+l.length))) (λ_ o=>2-(intOf o).toNat);case atStart=>exact ⟨0,0,by omega,rfl,rfl,by omega,zs ⟨rfl,rfl⟩⟩
 case round=>
  obtain ⟨a,p,b9,rfl,rfl,c5,t⟩:=hrel;rcases t with ⟨rfl,rfl⟩|⟨rfl,t⟩|⟨rfl,t⟩
  ·go_wp2;go_round;case rel=>exact ⟨1,i.length,by omega,by go_num,by go_num,by omega,zv (zs ⟨rfl,rfl⟩)⟩
   case measure=>simp [intOf]
  ·have U:=aA t;clear t;go_wp2;go_round;case rel=>exact ⟨2,p+l.length,by omega,by go_num,by go_num,by have:=U.o;omega,zv (zv ⟨rfl,by rw [U.o]⟩)⟩
   case measure=>simp [intOf]
  ·subst t;go_wp2_with (go_at_call 161;refine (aC b2).mono ?_;rintro d c6 ⟨P,rfl,f,a1⟩;have b6:=aA f;have b3:=aA a1;clear f a1);go_loopw [6,27] (λO o wr=>∃(a:Nat) (s:List (Lt×Value)),a<=2/\o=.int .i64 a/\wr.ownsRow w.heap.size 41 2 O s.length (bC s)/\aB w wr/\((a=0/\s=[])\/(a=1/\s=b)\/(a=2/\s=b++g))) (λ_ o _=>2-(intOf o).toNat);case atStart=>exact ⟨0,[],by omega,rfl,b6.o,b3.o,zs ⟨rfl,rfl⟩⟩
   case round=>
   obtain ⟨a,s,b9,rfl,a6,e,n⟩:=hrel;have x:=aA a6;clear a6;rcases n with ⟨rfl,rfl⟩|⟨rfl,n⟩|⟨rfl,n⟩
   ·have f:=x.o;have C:=aA (λj k (m:(bC b)[j]?=some k)=>aD e (b4.o j k m));have v:=aA e;have c2:=aD e c0;have y:=e.size;clear e x;go_wp2_with (first
     |(at_builtin;refine wpList_append_own _ rfl _ _ 29 rfl w.heap.size 41 a7 (.agg #[.bool false,.slice none 0 0]) 2 32 zt X Y Z a0 rfl (by decide) _ _ _ rfl f ⟨E,L,none⟩ i.length a8 (bC b) rfl ?d1 ?d2 ?d3 ?d4 ?d5 ?d6 ?_)
     |go_in)
    case d1=>rw [aAg,q.o]
    case d2=>exact λj k m=>by rw [Addr.add_lit];exact C.o j k m
    case d3=>exact aEg w u b S.o
    case d4=>unfold maxLen;have:=q.o;have:=r.o;simp;omega
    case d5=>have:=q.o;have:=r.o;simp;omega
    case d6=>exact y
    intro Q R A z _;have D:aI (R.ownsRow w.heap.size 41 2 Q ([]++b).length (bC ([]++b))):=aA (by
     have d:=A;rw [<-q.o,<-aEf] at d;simpa using d)
    have B:=aA (v.o.grown z y λa d=>(cL f a d).1);clear A z f;go_wp2;go_roundw;case rel=>exact ⟨1,[]++b,by omega,by go_num,D.o,B.o,zv (zs ⟨rfl,by simp⟩)⟩
    case measure=>simp [intOf]
   ·replace n:=n.symm
    subst n;have f:=x.o;have C:=aA (λj k (m:(bC g)[j]?=some k)=>aD e (b5.o j k m));have v:=aA e;have c2:=aD e c1;have y:=e.size;clear e x;go_wp2_with (first
     |(at_builtin;refine wpList_append_own _ rfl _ _ 29 rfl w.heap.size 41 a7 (.agg #[.bool false,.slice none 0 0]) 2 32 zt X Y Z a0 rfl (by decide) _ _ _ rfl f ⟨F,M,none⟩ l.length a9 (bC g) rfl ?d1 ?d2 ?d3 ?d4 ?d5 ?d6 ?_)
     |go_in)
    case d1=>rw [aAg,r.o]
    case d2=>exact λj k m=>by rw [Addr.add_lit];exact C.o j k m
    case d3=>exact aEg w u g T.o
    case d4=>unfold maxLen;have:=q.o;have:=r.o;simp;omega
    case d5=>have:=q.o;have:=r.o;simp;omega
    case d6=>exact y
    intro Q R A z _;have D:aI (R.ownsRow w.heap.size 41 2 Q (b++g).length (bC (b++g))):=aA (by
     have d:=A;rw [<-r.o,<-aEf] at d;simpa using d)
    have B:=aA (v.o.grown z y λa d=>(cL f a d).1);clear A z f;go_wp2;go_roundw;case rel=>exact ⟨2,b++g,by omega,by go_num,D.o,B.o,zv (zv ⟨rfl,by simp⟩)⟩
    case measure=>simp [intOf]
   ·subst n;have v:=aA e;clear e;go_wp2;go_ret;exact ⟨_,rfl,⟨b++g,by rw [List.map_append,b7.o,b8.o],x.o,λb0 hp=>by rcases zx.1 hp with hp|hp;exact S.o b0 hp;exact T.o b0 hp⟩,v.o⟩
def aAj(p:Nat):Prop:=∀(a g:Nat) (f:Option Addr) (l:Nat) (b:List Lt) (d:bD) (w:World) (j:Option Addr) (k:Nat) (c:List Lt),c.length<=p->bU w a g (.slice f b.length l) d->dD w a f b->dD w a j c->c.length<=k->lQ b->lQ c->a<=w.heap.size->
 Calls zy 104 #[.pointer (some ⟨g,0,none⟩),.slice j c.length k] w λo m=>∃(i:Bool) (e:bD),o=.returned (.bool i)/\bU m a g (.slice f b.length l) e/\Fr a w m/\(∃n,e=d++n)/\(i=true->kB c d e/\aCg b c e)/\(i=false->¬jL b c d)
def aAk(q:Nat):Prop:=∀(a g:Nat) (f:Option Addr) (l:Nat) (b:List Lt) (d:bD) (w:World) (j m k:Nat) (c:List Lt),c.length<=q->0<c.length->bU w a g (.slice f b.length l) d->dD w a f b->dD w a (some ⟨j,m,none⟩) c->c.length<=k->lQ b->lQ c->a<=w.heap.size->
 Calls zy 123 #[.pointer (some ⟨g,0,none⟩),.slice (some ⟨j,m,none⟩) c.length k] w λp n=>∃(i:Bool) (e:bD),p=.returned (.bool i)/\bU n a g (.slice f b.length l) e/\Fr a w n/\(∃o,e=d++o)/\(i=true->kB c d e/\aCg b c e)/\(i=false->¬jL b c d)
def aEh:Value->Nat
 | .slice _ n _=>n
 |_=>0
def aM7(e c f:List Lt)(d:bD):Prop:=∀b,Tm b->jB b d->∀a∈c,a∈f\/(a.1,subst b a.2)∈e
theorem lQ.of{b:List Lt}(d:lQ c)(f:∀a∈b,a∈c):lQ b:=λa e=>d a (f a e)
theorem jL.sub{e d:List Lt}{b:bD}(f:jL e c b)(l:∀a∈d,a∈c):jL e d b:=by obtain ⟨m,g,i,j⟩:=f;exact ⟨m,g,i,λa k=>j a (l a k)⟩
theorem aM8{i d:List Lt}{e f g:bD}(j:kB c e f)(m:kB d f g)(l:∀a∈d,a∈i)(k:∀a∈i,a∈c):kB c e g:=j.trans m (λ_ b=>b) (λa b=>k a (l a b))
theorem aEi(U:Nat)(a4:aAk U):aAj U:=by
 intro j L I J g o w d1 d2 c e3 f a3 O d9 b0 a9 a2;have c3:=aA a4;have c4:=aA f;have c1:=aA a3;have c0:=aA O;have c2:=aA b0;have Y:=aA a9;have f1:=O.few;clear a4 f a3 O b0 a9;go_enter Tryz.func104,Tryz.ntmps104;go_wp2;go_loopw [1] (λV wr=>∃(d:List Lt) (e:bD) (T:Option Addr) (x:Nat),V=.slice T d.length x/\d.length<=U/\d.length<=x/\dD wr j T d/\bU wr j L (.slice I g.length J) e/\Fr j w wr/\(∀a∈d,a∈c)/\(∃c8,e=o++c8)/\(jL g c o↔jL g d e)/\kB c o e/\aM7 g c d e) (λV _=>aEh V);case atStart=>exact ⟨c,o,d1,d2,rfl,e3,d9,c0.o,c4.o,Fr.refl _ _,λ_ h=>h,⟨[],by simp⟩,Iff.rfl,kB.refl _ _,λ_ _ _ a b=>zs b⟩
 case round=>
  obtain ⟨d,e,T,x,rfl,f3,e2,p,f,i,u,t,P,r,s⟩:=hrel;by_cases a1:0<d.length
  ·obtain ⟨d0,e6,_,_,rfl,_⟩:=p.cell 0 a1;have f0:(0:Int)<(d.length:Int):=by omega
   have b7:=aA (aMu j L (.slice I g.length J) e wr d0 e6 x d f p e2 (Y.o.of u) a1 (zp a2 i.size));have k:=aA i;have C:=aA f;have F:=aA u;have n:=aA t;have X:=aA P;have B:=aA r;have E:=aA s;have e5:=zp a2 i.size;clear p f i u t P r s;go_wp2_with (first
    |(go_at_call 122;refine (aC b7).mono ?_;rintro d3 e9 ⟨b8,c9,d4,d6,d5,e7,e8,rfl,e0,e4,a5,a6,R,f2,d7,a7,m⟩;have b6:=aA (c3.o j L I J g e e9 d4 d6 d5 b8 (by omega) d7 (C.o.below m) (c1.o.fr (k.o.trans (Fr.of_below m))) a5 e0 c2.o (Y.o.of λa b=>F.o a ((R a).2 (zs b))) (zp e5 m.size));have W:=aA m;have c7:=aA a6;have l:=aA R;have b9:=aA a7;clear a5 a6 R a7 m)
    |(go_at_call 123;refine (aC b6).mono ?_;rintro d3 f4 ⟨y,a0,rfl,b1,a8,b3,b4,b5⟩;have D:=aA b1;have A:=aA a8;have Z:=aA b3;have c5:=aA b4;have c6:=aA b5;clear b1 a8 b3 b4 b5))
   ·have S:y=false:=by first|assumption|(cases y<;>simp_all)
    subst S;go_ret;refine ⟨false,a0,rfl,D.o,k.o.trans ((Fr.of_below W.o).trans A.o),?_,by simp,λ_ d8=>?_⟩
    ·obtain ⟨G,M⟩:=n.o;obtain ⟨H,N⟩:=Z.o;exact ⟨G++H,by rw [N,M];simp⟩
    ·exact c6.o rfl (((X.o).1 d8).sub λa b=>(l.o a).2 (zs b))
   ·have S:y=true:=by first|assumption|(cases y<;>simp_all)
    subst S;go_roundw;case rel=>
     obtain ⟨Q,b2⟩:=c5.o rfl;refine ⟨c9,a0,e7,e8,rfl,by omega,e4,c7.o.fr A.o,D.o,k.o.trans ((Fr.of_below W.o).trans A.o),λa b=>F.o a ((l.o a).2 (zv b)),?_,?_,?_,?_⟩
     ·obtain ⟨G,M⟩:=n.o;obtain ⟨H,N⟩:=Z.o;exact ⟨G++H,by rw [N,M];simp⟩
     ·exact X.o.trans (aTq l.o b9.o Q D.o.ok.look b2)
     ·exact aM8 B.o Q (λa b=>(l.o a).2 (zs b)) F.o
     ·intro z v q a b;rcases E.o z v (Q.ext q) a b with h|h
      ·rcases (l.o a).1 h with h|h
       ·exact zv (b2 z v q a h)
       ·exact zs h
      ·exact zv h
    case measure=>simp [aEh];omega
  ·have e1:d=[]:=List.eq_nil_of_length_eq_zero (by omega);subst e1;have k:=aA i;have C:=aA f;have n:=aA t;have B:=aA r;have E:=aA s;clear p f i u t P r s;go_wp2;go_ret;refine ⟨true,e,rfl,C.o,k.o,n.o,λ_=>⟨B.o,λz v q a b=>?_⟩,by simp⟩;rcases E.o z v q a b with h|h
   ·simp at h
   ·exact h
theorem aM9(b f:Nat)(n:Value)(e:bD)(w:World)(p q:Bool)(k l:Option Addr)(r m:Nat)(d a:List Nd)(z:bU w b f n e)(x:fM w b k d)(y:fM w b l a)(A:a.length<=m)(G:aN d 1=true)(H:aN a 1=true)(u:d.length<=60)(v:a.length<=60)(C:jM (p,d) (q,a) e=none):∀i,(∃E,i=w.drewN E)->Calls zy 146 #[.pointer (some ⟨f,0,none⟩),.agg #[.bool p,.slice k d.length r],.agg #[.bool q,.slice l a.length m]] i λs o=>s=.returned (.bool false)/\(∃j,bU o b f n (e++j))/\Fr b w o:=by
 intro i g;refine (aBu b f n e i p q k l r m d a (z.drawn g) (x.fr ((Fr.refl _ _).drawn g)) (y.fr ((Fr.refl _ _).drawn g)) A G H u v).mono ?_;rintro s o ⟨F,I,rfl,D,B,⟨j,rfl⟩,t,J⟩;cases F with
 |true=>rw [C] at t;simp at t
 |false=>exact ⟨rfl,⟨j,D⟩,((Fr.refl _ _).drawn g).trans B⟩
theorem aMa(b e:Nat)(m:Value)(i q:bD)(w:World)(o p:Bool)(j k:Option Addr)(r l:Nat)(d a:List Nd)(B:bU w b e m i)(z:fM w b j d)(A:fM w b k a)(C:a.length<=l)(H:aN d 1=true)(I:aN a 1=true)(v:d.length<=60)(x:a.length<=60)(u:jM (o,d) (p,a) i=some q):∀g,(∃F,g=w.drewN F)->Calls zy 146 #[.pointer (some ⟨e,0,none⟩),.agg #[.bool o,.slice j d.length r],.agg #[.bool p,.slice k a.length l]] g λs n=>s=.returned (.bool true)/\bU n b e m q/\Fr b w n:=by
 intro g f;refine (aBu b e m i g o p j k r l d a (B.drawn f) (z.fr ((Fr.refl _ _).drawn f)) (A.fr ((Fr.refl _ _).drawn f)) C H I v x).mono ?_;rintro s n ⟨G,J,rfl,E,D,_,y,t⟩;cases G with
 |true=>
  have:=y rfl;rw [u] at this;simp at this;subst this;exact ⟨rfl,E,((Fr.refl _ _).drawn f).trans D⟩
 |false=>rw [u] at t;simp at t
theorem dD.take{B b d:Nat}(a:dD w B (some ⟨b,d,none⟩) c)(k:Nat):dD w B (some ⟨b,d,none⟩) (c.take k):=by
 refine ⟨by have:=a.few;simp;omega,λj e=>?_⟩;have f:j<c.length:=by simp at e;omega
 have:=a.cell j f;simpa using this
theorem dD.drop{f b e:Nat}(g:dD w f (some ⟨b,e,none⟩) c)(a:Nat):dD w f (some ⟨b,e+a*2,none⟩) (c.drop a):=by
 refine ⟨by have:=g.few;simp;omega,λd q=>?_⟩;have r:a+d<c.length:=by simp at q;omega
 obtain ⟨j,u,i,k,l,s,m,n,o,p⟩:=g.cell (a+d) r;obtain ⟨rfl,rfl⟩ : b=j/\e=u:=by simpa using l
 have t:(c.drop a)[d]=c[a+d]:=by simp
 rw [t];exact ⟨b,e+a*2,i,k,rfl,s,by rw [show e+a*2+d*2=e+(a+d)*2 by omega];exact m,by rw [show e+a*2+d*2+1=e+(a+d)*2+1 by omega];exact n,o,p⟩
theorem aEj(c:List Lt)(a:Nat)(e:a<c.length):∀b,b∈c↔b=c[a]\/b∈c.take a++c.drop (a+1):=by
 intro b;have d:c=c.take a++c[a]::c.drop (a+1):=by rw [<-List.drop_eq_getElem_cons e,List.take_append_drop]
 constructor
 ·intro hl;rw [d] at hl;rcases zx.1 hl with hl|hl
  ·exact zv (List.mem_append_left _ hl)
  ·rcases List.mem_cons.1 hl with hl|hl
   ·exact zs hl
   ·exact zv (List.mem_append_right _ hl)
 ·rintro (rfl|hl)
  ·exact zw _
  ·rcases zx.1 hl with hl|hl
   ·exact List.mem_of_mem_take hl
   ·exact List.mem_of_mem_drop hl
theorem aMb(b4:Nat)(g7:aAj b4):aAk (b4+1):=by
 intro j C g3 J b m w e i d c o9 l2 o a8 a7 o4 d9 d8 o0;have j3:=aA (aMe j C g3 J b m w (some ⟨e,i,none⟩) d c o a8 a7 d9 d8 l2);have k7:=aA g7;have n7:=aA o;have f0:=aA a8;have c3:=aA a7;have c6:=aA d9;have f1:=aA d8;have o3:=a7.few;have o5:=a8.few;clear g7 o a8 a7 d9 d8;go_enter Tryz.func123,Tryz.ntmps123;go_wp2_with (go_at_call 144;refine (aC j3).mono ?_;rintro L r ⟨a,rfl,U,h8,d7⟩;have j8:=aA h8;have c4:=aA d7;have p1:=d7.size;clear h8 d7);have l5:(a:Int)<=(d:Int):=by omega
 have l6:(a:Int)+1<=(c.length:Int):=by omega
 have l7:(c.length:Int)<=(d:Int):=by omega
 have l8:(0:Int)<=(a:Int):=by omega
 have l9:(a:Int)+1<=(d:Int):=by omega
 have m0:(0:Int)<=(a:Int)+1:=by omega
 have m1:((a:Int)+1).toNat=a+1:=by omega
 have m7:IntKind.i64.wrap ((a:Int)+1)=(a:Int)+1:=by rw [IntKind.wrap_i64];omega
 obtain ⟨n,q,m3,h1⟩ : ∃n q,(if d=a+1 then some (⟨e,i,none⟩ : Addr) else some ⟨e,i+(a+1)*2,none⟩)=some ⟨n,q,none⟩/\dD r j (some ⟨n,q,none⟩) (c.drop (a+1)):=by
  by_cases a6:d=a+1
  ·have:c.drop (a+1)=[]:=List.drop_eq_nil_of_le (by omega);rw [this];exact ⟨e,i,aG a6,⟨by simp,λa U=>by simp at U⟩⟩
  ·exact ⟨e,i+(a+1)*2,aF a6,(c3.o.fr c4.o).drop (a+1)⟩
 have b2:aB r (r.alloc (.cells #[.slice (some ⟨e,i,none⟩) a d,.slice (some ⟨n,q,none⟩) (c.length-(a+1)) (d-(a+1))] 29)):=(Below.refl _ _).alloc (zr _) _;have S:=sM r (.slice (some ⟨e,i,none⟩) a d) (.slice (some ⟨n,q,none⟩) (c.length-(a+1)) (d-(a+1))) 29;have h6:(c.take a).length=a:=by simp;omega
 have h7:(c.drop (a+1)).length=c.length-(a+1):=by simp
 have j2:=aA (λwx (F:∃b4,wx=(r.alloc (.cells #[.slice (some ⟨e,i,none⟩) a d,.slice (some ⟨n,q,none⟩) (c.length-(a+1)) (d-(a+1))] 29)).drewN b4)=>
  aM6 j r.heap.size e i d n q (d-(a+1)) (c.take a) (c.drop (a+1)) wx (((((c3.o.fr c4.o).take a).fr (Fr.of_below b2)).fr ((Fr.refl _ _).drawn F))) ((h1.fr (Fr.of_below b2)).fr ((Fr.refl _ _).drawn F)) (by rw [h6];obtain ⟨m9,rfl⟩:=F;exact S.1) (by rw [h7];obtain ⟨m9,rfl⟩:=F;exact S.2))
 have p0:(c.take a++c.drop (a+1)).length+1=c.length:=by simp;omega
 have j4:=aA b2;have f7:=aA (c3.o.cell a U);have c9:=aA (f1.o c[a] (zw _));have P:=aA (aEj c a U);have j7:aI (lQ (c.take a++c.drop (a+1))):=aA (f1.o.of λs hl=>(aEj c a U s).2 (zv hl));generalize hrest:c.take a++c.drop (a+1)=rest at *;obtain ⟨b9,F⟩ : ∃b9,b9=c[a]:=⟨_,rfl⟩;rw [<-F] at f7 c9 P;clear b2 S h6 h7 h1 hrest F;go_region_held3 (λ_=>True) (trivial) ((go_at_call 145;refine (aC j2 _ (by first|exact ⟨0,rfl⟩|exact ⟨1,rfl⟩|exact ⟨_,rfl⟩)).mono ?_;rintro L b8 ⟨p9,rfl,i2,R⟩;have j6:=aA R;replace R:=sN (W:=r.alloc (.cells #[.slice (some ⟨e,i,none⟩) a d,.slice (some ⟨n,q,none⟩) (c.length-(a+1)) (d-(a+1))] 29)) (by first|exact ⟨0,rfl⟩|exact ⟨1,rfl⟩|exact ⟨_,rfl⟩) R;have k6:=aA i2;have j5:=aA R;clear i2 R));have d1:aB r b8:=j4.o.trans (j5.o.mono (by simp));have g9:Below ((r.alloc (.cells #[.slice (some ⟨e,i,none⟩) a d,.slice (some ⟨n,q,none⟩) (c.length-(a+1)) (d-(a+1))] 29)).drew).heap.size ((r.alloc (.cells #[.slice (some ⟨e,i,none⟩) a d,.slice (some ⟨n,q,none⟩) (c.length-(a+1)) (d-(a+1))] 29)).drew) b8:=j6.o;obtain ⟨n1,n2,rfl,m4,g6,-⟩:=k6.o.lits g9 (by omega);have G:aI (Fr j w b8):=aA (c4.o.trans (Fr.of_below d1));have f3:=aA (j8.o.below d1);have k5:=aA g6;have o1:=f3.o.among;have p2:=(G.o).size;clear d1 g9 g6 m3 l5 l6 l7 l8 l9 m0 m1 m7;go_wp2;go_loopw [27] (λe2 wr=>∃g:Nat,g<=b.length/\e2=.int .i64 g/\bU wr j C (.slice g3 b.length J) m/\Fr j b8 wr/\(∀t∈b.take g,∀x,jM b9 t m=some x->¬jL b rest x)) (λe2 _=>b.length-(intOf e2).toNat);case atStart=>exact ⟨0,Nat.zero_le _,rfl,f3.o,Fr.refl _ _,by simp⟩
 case round=>
  obtain ⟨g,o6,rfl,o,M,Y⟩:=hrel;by_cases h5:g<b.length
  ·obtain ⟨a5,b5,u,v,rfl,m5,n5,n6,a2,d4⟩:=((f0.o.fr G.o).fr M).cell g h5;obtain ⟨E,a1⟩:=c6.o b[g] (zw _);obtain ⟨l1,n0,e8,e9,g4,b3,e4,i9,m8,g8⟩:=f7.o;obtain ⟨rfl,rfl⟩ : e=l1/\i=n0:=by simpa using g4
   have Q:=G.o.trans M;have c0:=Q.cell e4 b3;have e6:=Q.cell i9 b3;have d3:=g8.fr Q;have i3:=b3.fr (zz w _ e4) Q;obtain ⟨D,a0⟩:=c9.o;obtain ⟨n8,n9,h0⟩:=o.len;have o8:(m.length:Int)<=60:=by have:=o.ok.few;omega
   have Z:b.take (g+1)=b.take g++[b[g]]:=List.take_succ_eq_append_getElem h5;have i6:b[g]∈b:=zw _;have o7:(a:Int)<(c.length:Int):=by omega
   generalize b[g]=t at *;obtain ⟨k,l⟩:=t;obtain ⟨z,A⟩:=b9;simp only at n5 n6 E a1 d4 a2 c0 e6 d3 D a0 m8;have p:aB wr (wr.alloc (.cells #[.bool k,.slice u l.length v] 41)):=(Below.refl _ _).alloc (zr _) _;have S:=sM wr (.bool k) (.slice u l.length v) 41;have i4:=yO (w:=wr) (B:=j) #[.bool k,.slice u l.length v] 41 (by decide) (by decide);have i5:lF (wr.alloc (.cells #[.bool k,.slice u l.length v] 41)) j e:=i3.fr (zz wr _ c0) (Fr.of_below p);have e5:=aD p c0;have e7:=aD p e6;have o2:=aD p h0;obtain ⟨d5,d6⟩:=S;have a9:=o.below p;have b0:=d3.fr (Fr.of_below p);have b1:=d4.fr (Fr.of_below p);have O:=aA (M.trans (Fr.of_below p));have f4:=aA Y;have f5:=aA Z;have k8:=aA i6;have H:=aA i4;have I:=aA i5;have p4:=(O.o).size;clear Y Z i6 o M Q i3 b3 m5 i4 i5 g8 d3 d4 e4 i9 g4 c0 e6 h0;cases hml:jM (z,A) (k,l) m with
   |none=>
    have c2:=aA (aM9 j C (.slice (some ⟨a5,b5,none⟩) b.length J) m _ z k e8 u e9 v A l a9 b0 b1 a2 D E a0 a1 hml);have a4:=aA hml;clear a9 b0 b1 hml a2 E a1 D a0 p;go_wp2_with fail;generalize hWI:wr.alloc (.cells #[.bool k,.slice u l.length v] 41)=WI at *;clear hWI;first|go_region_with (go_at_call 146;refine (aC c2 _ (by first|exact ⟨0,rfl⟩|exact ⟨1,rfl⟩|exact ⟨_,rfl⟩)).mono ?_;rintro L e3 ⟨rfl,⟨l0,V⟩,f⟩;have f9:=f.cell e5 I.o;have g0:=f.cell e7 I.o;have g1:=f.cell d5 H.o;have g2:=f.cell d6 H.o;have c1:=aA (aBv j C _ m l0 e3 V);have a3:=aA (O.o.trans f);clear V f)|fail
    all_goals
     go_wp2_with (go_at_call 147;refine (aC c1).mono ?_;rintro L n4 ⟨rfl,X,T⟩;have c8:=aA X;have c5:=aA (a3.o.trans T);clear X T);go_roundw;case rel=>exact ⟨g+1,by omega,by go_num,c8.o,c5.o,by
      intro t hy x y;rw [f5.o] at hy;rcases zx.1 hy with hy|hy
      ·exact f4.o t hy x y
      ·simp at hy;subst hy;rw [a4.o] at y;simp at y⟩
     case measure=>simp [intOf];omega
   |some L1=>
    have c2:=aA (aMa j C (.slice (some ⟨a5,b5,none⟩) b.length J) m L1 _ z k e8 u e9 v A l a9 b0 b1 a2 D E a0 a1 hml);obtain ⟨d0,g5,h4⟩:=aTm (x:=(z,A)) (y:=(k,l)) D E hml;have a4:=aA hml;have c7:=aA g5;have f6:=aA (And.intro D E);have f2:=aA h4;clear a9 b0 b1 hml a2 E a1 D a0 p g5 h4;go_wp2_with fail;generalize hWI:wr.alloc (.cells #[.bool k,.slice u l.length v] 41)=WI at *;clear hWI;go_region_held3 (λb7=>b7.cell? ⟨e,i+a*2,none⟩=some (.bool z)/\b7.cell? ⟨e,i+a*2+1,none⟩=some (.slice e8 A.length e9)/\b7.cell? ⟨wr.heap.size,0,none⟩=some (.bool k)/\b7.cell? ⟨wr.heap.size,1,none⟩=some (.slice u l.length v)) (go_keep)
     (first
      |(go_at_call 146;refine (aC c2 _ (by first|exact ⟨0,rfl⟩|exact ⟨1,rfl⟩|exact ⟨_,rfl⟩)).mono ?_;rintro L e3 ⟨rfl,V,f⟩;have f9:=f.cell e5 I.o;have g0:=f.cell e7 I.o;have g1:=f.cell d5 H.o;have g2:=f.cell d6 H.o;have p3:=f.size;have j1:=aA (k7.o j C (some ⟨a5,b5,none⟩) J b L1 e3 n1 n2 rest (by omega) V (((f0.o.fr G.o).fr O.o).fr f) ((k5.o.fr O.o).fr f) m4 c6.o j7.o (by omega));have B:=aA f;clear V f)
      |(go_at_call 104;refine (aC j1).mono ?_;rintro L n3 ⟨b6,k9,rfl,e0,N,⟨f8,d2⟩,i0,i1⟩;have p5:=N.cell f9 (I.o.fr (zz _ _ e5) B.o);have p6:=N.cell g0 (I.o.fr (zz _ _ e7) B.o);have p7:=N.cell g1 (H.o.fr (zz _ _ d5) B.o);have p8:=N.cell g2 (H.o.fr (zz _ _ d6) B.o);have c1:=aA (aBv j C (.slice (some ⟨a5,b5,none⟩) b.length J) m (d0++f8) n3 (by rw [<-List.append_assoc,<-c7.o,<-d2];exact e0));have k1:=aA e0;have a3:=aA ((O.o.trans B.o).trans N);have k3:=aA i0;have k4:=aA i1;have j9:=aA d2;clear e0 N i0 i1 d2))
    go_wp2_with (go_at_call 147;refine (aC c1).mono ?_;rintro L n4 ⟨rfl,X,T⟩;have c8:=aA X;have c5:=aA (a3.o.trans T);clear X T)
    ·have e1:b6=true:=by first|assumption|(cases b6<;>simp_all)
     subst e1;go_ret;obtain ⟨h3,m2⟩:=k3.o rfl;have m6:=aCf (x:=(z,A)) (y:=(k,l)) f6.o.1 f6.o.2 a4.o;refine ⟨true,k9,rfl,k1.o,G.o.trans a3.o,⟨d0++f8,by rw [j9.o,c7.o];simp⟩,λ_=>⟨?_,?_⟩,by simp⟩
     ·refine kB.trans (c:=[(z,A)]) ⟨d0,c7.o,λi8 h9=>⟨⟨(z,A),by simp,(f2.o i8 h9).1⟩,(f2.o i8 h9).2⟩⟩ h3 (λs hl=>?_) (λs hl=>(P.o s).2 (zv hl));simp at hl;rw [hl];exact (P.o _).2 (zs rfl)
     ·intro j0 i7 h2 s hl;rcases (P.o s).1 hl with rfl|hl
      ·rw [((m6 j0 i7).1 (h3.ext h2)).2];exact k8.o
      ·exact m2 j0 i7 h2 s hl
    ·have e1:b6=false:=by first|assumption|(cases b6<;>simp_all)
     subst e1;go_roundw;case rel=>exact ⟨g+1,by omega,by go_num,c8.o,c5.o,by
      intro t hy x y;rw [f5.o] at hy;rcases zx.1 hy with hy|hy
      ·exact f4.o t hy x y
      ·simp at hy;subst hy;rw [a4.o] at y;simp at y;subst y;exact k4.o rfl⟩
     case measure=>simp [intOf];omega
  ·have Z:b.take g=b:=List.take_of_length_le (by omega);rw [Z] at Y;have k0:=aA o;have B:=aA M;have k2:aI (¬jL b c m):=aA (by
    intro l4;obtain ⟨t,hy,x,a6,l3⟩:=(aTn (λs hl=>(c6.o s hl).1) c9.o.1 P.o).1 l4;exact Y t hy x a6 l3)
   clear Z Y o M;go_wp2;go_ret;exact ⟨false,m,rfl,k0.o,G.o.trans B.o,⟨[],by simp⟩,by simp,λ_=>k2.o⟩
theorem aEk:∀n,aAk n
 |0=>λa j g i f b w d m e c l k=>by omega
 |n+1=>aMb n (aEi n (aEk n))
theorem aMc(a:Nat):aAj a:=aEi a (aEk a)
