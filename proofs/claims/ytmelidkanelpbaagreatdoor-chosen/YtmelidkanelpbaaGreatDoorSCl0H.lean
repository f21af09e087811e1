import Derived.Test.YtmelidkanelpbaaGreatDoorRPrim0H
import Derived.Deep.DeepCutAuto
import Derived.Test.YtmelidkanelpbaaGreatDoorPTermH
open Bool renaming and_eq_true→zq
open List renaming eq_nil_of_length_eq_zero→zy,getElem_mem→zw,getD_eq_getElem?_getD→zu,length_append→zt,map_append→zo,getElem?_eq_none→zn
open Nat renaming zero_le→zv,le_refl→zj
open Prod renaming fst→zr
namespace Go.Proofs.YtmelidkanelpbaaGreatDoor
open _root_.Go.Proofs.Tryz renaming prog→zx,ntmps115→zl,func115→zk
open World renaming cell?_setCell_other→zz,setCell→zs,frozen?_of_block→zp
open Go.RowKit Go.Shelf
set_option maxHeartbeats 2000000
set_option maxRecDepth 100000
variable{c:List Lt}{l:List Nd}{B g:Nat}{w:World}
theorem wX:(⟨#[]⟩ : ByteArray).size=0:=rfl
theorem aLu(d:ByteArray)(a b:Nat):(d.extract a b).size<=b-a:=by rw [ByteArray.size_extract];omega
theorem aZh(e:ByteArray):∀f j b i d,eQ e f j b=some (i,d)->i.size+b<=j.size+d/\d<=e.size:=by
 intro f;induction f with
 |zero=>intro j b i d a;simp [eQ] at a
 |succ f ih=>
  intro j b i d a;rw [eQ] at a;split at a
  ·split at a
   ·split at a
    ·simp at a;obtain ⟨rfl,rfl⟩:=a;omega
    ·simp at a
   ·split at a
    ·split at a
     ·have k:=ih _ _ _ _ a;have:=aLu e (b+1) (b+2);rw [ByteArray.size_append] at k;omega
     ·simp at a
    ·split at a
     ·simp at a
     ·have k:=ih _ _ _ _ a;have:=aLu e b (b+bP e b);rw [ByteArray.size_append] at k;omega
  ·simp at a
theorem aZi{b:ByteArray}{i e:Nat}{d:Tk}(a:dK b i=.tok d e):d.txt.size<=b.size:=by
 unfold dK at a;split at a
 ·split at a
  ·cases a
  ·simp only [Nx.tok.injEq] at a;rw [<-a.1];simp only;rw [ByteArray.size_extract];omega
 ·split at a
  ·split at a
   ·rename_i j m f;simp only [Nx.tok.injEq] at a;rw [<-a.1];have k:=aZh _ _ _ _ _ _ f;rw [wX] at k;show j.size<=b.size;omega
   ·cases a
  ·split at a
   ·split at a
    ·simp only [Nx.tok.injEq] at a;rw [<-a.1];exact zv _
    ·cases a
   ·split at a
    ·simp only [Nx.tok.injEq] at a;rw [<-a.1];exact zv _
    ·cases a
theorem aZj(f:ByteArray):∀a d,∀e∈(cD f a d).1,e.txt.size<=f.size:=by
 intro a;induction a with
 |zero=>intro d;simp [cD]
 |succ a ih=>
  intro d;rw [cD];split
  ·split
   ·exact ih _
   ·split
    ·exact ih _
    ·split
     ·rename_i e j b;intro i hu;rcases List.mem_cons.1 hu with rfl|hu
      ·exact aZi b
      ·exact ih _ i hu
     ·simp
  ·intro e b;simp at b;rw [b];exact zv _
structure yQ(L T:List Tk):Prop where
 small:∀i,(aJ T i).txt.size<=1000000
 low:∀i,i<L.length->(aJ T i).kind≠63/\i<T.length
 rest:∀i,¬i<L.length->(aJ T i).kind=63
theorem aBb(e:ByteArray)(q:e.size<=1000000):yQ (cD e (e.size+1) 0).1 (eE (cD e (e.size+1) 0)):=by
 obtain ⟨_,_,_,m⟩:=aLg e (e.size+1) 0;have k:=aZj e (e.size+1) 0;generalize cD e (e.size+1) 0=r at *;obtain ⟨d,f⟩:=r;simp only at m k;have j:∀a,(a<d.length/\aJ (eE (d,f)) a∈d/\a<(eE (d,f)).length)\/(¬a<d.length/\(aJ (eE (d,f)) a).kind=63/\(aJ (eE (d,f)) a).txt=⟨#[]⟩):=by
  intro a;by_cases b:a<d.length
  ·refine Or.inl ⟨b,?_,by simp [eE];omega⟩;have:aJ (eE (d,f)) a=d[a]:=by simp [aJ,eE,List.getElem?_append_left b,b]
   rw [this];exact zw _
  ·refine Or.inr ⟨b,?_⟩;cases f with
   |none=>
    have:aJ (eE (d,none)) a=uW:=by simp only [aJ,eE,List.append_nil];rw [zu,zn (by omega)];rfl
    rw [this];exact ⟨rfl,rfl⟩
   |some p=>
    by_cases o:a=d.length
    ·subst o;have:aJ (eE (d,some p)) d.length=⟨63,⟨#[]⟩,p⟩:=by simp [aJ,eE]
     rw [this];exact ⟨rfl,rfl⟩
    ·have:aJ (eE (d,some p)) a=uW:=by simp only [aJ,eE];rw [zu,zn (by simp;omega)];rfl
     rw [this];exact ⟨rfl,rfl⟩
 refine ⟨λa=>?_,λa i=>?_,λa i=>?_⟩
 ·rcases j a with ⟨_,b,_⟩|⟨_,_,b⟩
  ·have:=k _ b;omega
  ·rw [b,wX];omega
 ·rcases j a with ⟨_,b,n⟩|⟨b,_⟩
  ·exact ⟨m _ b,n⟩
  ·exact absurd i b
 ·rcases j a with ⟨b,_⟩|⟨_,b,_⟩
  ·exact absurd b i
  ·exact b
def eF(l:List Nd):Prop:=∀x∈l,x.1.size<=1000000
theorem yR{x:Nd}(a:eF l)(b:x.1.size<=1000000):eF (l++[x]):=by
 intro d hy;rcases List.mem_append.1 hy with hy|hy
 ·exact a d hy
 ·simp at hy;subst hy;exact b
theorem aZk(d:eF l)(i j:Nat):eF (dS l i j):=by
 intro k b;unfold dS at b;rw [List.mem_iff_getElem?] at b;obtain ⟨f,a⟩:=b;rw [List.getElem?_modify] at a;cases hq:l[f]? with
 |none=>rw [hq] at a;simp at a
 |some z=>
  rw [hq] at a;have e:=d z (List.mem_of_getElem? hq);simp at a;subst a;split<;>exact e
theorem aZl{r i:List Tk}(u:yQ r i):∀f,(∀k d l e b,cJ i f k d l=.ok (e,b)->eF l->eF b)/\(∀d l m e b n,dT i f d l m=.ok (e,b,n)->eF l->eF b):=by
 intro f;induction f with
 |zero=>exact ⟨λk d l e b a=>by simp [cJ] at a,λd l m e b n a=>by simp [dT] at a⟩
 |succ f ih=>
  obtain ⟨v,p⟩:=ih;constructor
  ·intro k d l e b a j;rw [cJ] at a;split at a
   ·simp only [Except.ok.injEq,Prod.mk.injEq] at a;obtain ⟨rfl,rfl⟩:=a;exact yR j (by rw [wX];omega)
   ·split at a
    ·simp at a
    ·have o:=yR (x:=((aJ i d.i).txt,0)) j (u.small _);split at a
     ·split at a
      ·simp at a
      ·rename_i z y A t;simp only [Except.ok.injEq,Prod.mk.injEq] at a;obtain ⟨rfl,rfl⟩:=a;exact aZk (p _ _ _ _ _ _ t o) _ _
     ·simp only [Except.ok.injEq,Prod.mk.injEq] at a;obtain ⟨rfl,rfl⟩:=a;exact o
  ·intro d l m e b n a j;rw [dT] at a;split at a
   ·simp at a
   ·rename_i z y s;have q:=v _ _ _ _ _ s j;split at a
    ·exact p _ _ _ _ _ _ a q
    ·split at a
     ·simp only [Except.ok.injEq,Prod.mk.injEq] at a;obtain ⟨rfl,rfl,rfl⟩:=a;exact q
     ·simp at a
def qY(w:World)(B:Nat)(a:List (Lt×Value)×Value):Prop:=w.ownsRow B 86 2 a.2 a.1.length (bF a.1)/\∀b∈a.1,w.ownsRow B 117 2 b.2 b.1.2.length (bB b.1.2)
theorem aEr{i:Value}{P:List (Lt×Value)}(m:w.ownsRow B 86 2 i P.length (bF P))(q:∀a∈P,w.ownsRow B 117 2 a.2 a.1.2.length (bB a.1.2))(v:∀a∈P,eF a.1.2)(y:aR (P.map zr)<=1000000)(A:P.length<=2000000):∃b e,i=.slice b P.length e/\cH w b (P.map zr):=by
 obtain ⟨b,e,rfl,s⟩:=tY m;refine ⟨b,e,rfl,⟨by simp;omega,λd t=>?_⟩⟩;have u:d<P.length:=by simpa using t
 obtain ⟨g,rfl,n,o⟩:=s d u;have f:P[d]∈P:=zw _;have z:=vO (P.map zr) P[d].1 (List.mem_map.2 ⟨_,f,rfl⟩);obtain ⟨j,k,x,p⟩:=vL (q _ f) (by omega) (λC r=>by have:=v _ f _ (zw r);omega);refine ⟨g,0,j,k,rfl,?_,?_,?_⟩
 ·simpa using n
 ·rw [Nat.zero_add,o,x];simp
 ·simpa using p
theorem aZm:(zx.info? 51).map (λa=>(a.zero,a.size,a.bytes))=some (some (.slice none 0 0),1,24):=by kernel_rfl
theorem aZn{p:Array Oper}{b:Oper}{a:Act}{w:World}{K:Act->World->Prop}{r:Exit->Act->World->Prop}{q:Prop}(x:b.guard=none)(d:Nat)(k:Array Operand)(D:Array TypeId)
  (z:b.op=.call {callee:=.value (.func d),args:=k,argTypes:=D}) (v:∀o w,(callFunc d o).run zx w=.ok (.enter d o) w) (f:Array Value) (j:k.toList.map a.eval=f.toList) {n:Ending->World->Prop} (u:Calls zx d f w n)
  (s:∀e i,n e i->∃m,e=.returned m/\K (a.put b.dst m) i):if Region.wanted b (yielded p a.tmps)=true then Oper.wp zx b a w K r else q:=by
 have C:Region.wanted b (yielded p a.tmps)=true:=by simp [Region.wanted,x]
 rw [aH C];have A:(execOp a.eval b).run zx w=.ok (.enter d f) w:=by
  have j:k.map a.eval=f:=by apply Array.ext';rw [Array.toList_map];exact j
  subst j;simp [execOp,z,resolve,invoke,v,Act.eval,Deferred.ofValue]
 unfold Oper.wp;rw [A,Oper.upon_enter];exact u.mono λe i t=>by
  obtain ⟨m,rfl,y⟩:=s e i t;exact y
def kR(b:List Tk)(a:bE):bE:=⟨if (aJ b a.i).kind=126 then a.i+1 else a.i,a.vars,a.pz⟩
theorem aEs{a:List Tk}{d:Nat}{e:bE}(b:cJ a (a.length+1) true (kR a e) []=.error d):fV a (g+1) e c=.error d:=by unfold kR at b;rw [fV,b]
theorem aEt{a:List Tk}{d b:bE}{e:List Nd}(f:cJ a (a.length+1) true (kR a d) []=.ok (b,e))(i:(aJ a b.i).kind=124):fV a (g+1) d c=fV a g ⟨b.i+1,b.vars,b.pz⟩ (c++[(decide ((aJ a d.i).kind=126),e)]):=by unfold kR at f;rw [fV,f];simp only;rw [aH i]
theorem aEu{a:List Tk}{d b:bE}{e:List Nd}(f:cJ a (a.length+1) true (kR a d) []=.ok (b,e))(i:(aJ a b.i).kind≠124):fV a (g+1) d c=.ok (b,c++[(decide ((aJ a d.i).kind=126),e)]):=by unfold kR at f;rw [fV,f];simp only;rw [aI i]
theorem aEv(b:List Tk)(a:bE):a.i<=(kR b a).i/\(kR b a).i<=a.i+1/\(kR b a).vars=a.vars/\(kR b a).pz=a.pz:=by unfold kR;simp only;split<;>simp
theorem aZo{f a:List Tk}{i:Int}(j:TL f a i){e:bE}(b:e.i<a.length):(kR a e).i<a.length:=by
 unfold kR;simp only;split
 ·rename_i d;exact j.more _ b (by rw [d];decide) (by rw [d];decide)
 ·exact b
theorem aZp(m:Option Addr)(t:Nat)(l:List Nd)(w:World)(e:dW w m l)(p:kN w):Calls zx 101 #[.slice m l.length t] w λf C=>f=.returned (.bool (gF l))/\aB w C:=by
 have d:=aXq m t l w e p;by_cases b:iZ l=true
 ·cases l with
  |nil=>rw [aWx] at b;exact absurd b (by simp)
  |cons n0 r=>
   rw [b] at d;obtain ⟨F,G,rfl,n,o⟩:=e.cell 0 (by simp);simp only [List.getElem_cons_zero,Nat.zero_mul,Nat.add_zero] at n o;obtain ⟨s,v⟩:=n0;simp only at n o;have k:=aA (show gF ((s,v)::r) = !s.toList.isEmpty by simp [gF,b,aL]);have i:=aA d;have x:=aA (λE=>pT s v E);have A:=e.few;simp only [List.length_cons] at A;clear d b e p;go_enter Tryz.func101,Tryz.ntmps101;go_wp2_with (first
    |(go_at_call 116;refine (aD i).mono ?_;rintro f D ⟨rfl,a⟩;have H:=aC a n;have I:=aC a o;have j:=aA a;have z:=a.size;clear a)
    |(go_at_call 67;refine (aD x _).mono ?_;rintro f J ⟨rfl,u⟩;have y:=aA (j.o.trans (u.mono z));clear u))
   go_ret;exact ⟨dL k.o.symm,y.o⟩
 ·have q:iZ l=false:=by simpa using b
  rw [q] at d;have k:=aA (show gF l=false by simp [gF,q]);have i:=aA d;clear d b q e p;go_enter Tryz.func101,Tryz.ntmps101;go_wp2_with (go_at_call 116;refine (aD i).mono ?_;rintro f D ⟨rfl,a⟩;have j:=aA a;clear a);go_ret;exact ⟨dL k.o.symm,j.o⟩
theorem aZq(B g m:Nat)(a:Int)(e:Addr)(b j:List Nd)(n:Value)(d:bH)(w:World)(f:cB w B g n d)(A:0<=a)(C:a<60)(p:fR w B (some e) b)(t:look d a=some j):Calls zx 135 #[.pointer (some ⟨g,0,none⟩),.int .i64 a,.slice (some e) b.length m] w λo u=>o=.returned (.bool (decide (j=b)))/\cB u B g n d/\Fr B w u:=by
 obtain ⟨i,rfl⟩ : ∃i:Nat,a=i:=⟨a.toNat,by omega⟩;obtain ⟨E,D,r⟩:=f.term i (by omega);rw [t] at r;obtain ⟨y,z,rfl,q⟩:=r;have v:=aA (aKw (some y) (some e) z m j b w q.nodes p.nodes);have x:=aA f;clear f p q t;go_enter Tryz.func135,Tryz.ntmps135;go_wp2_with (go_at_call 55;refine (aD v).mono ?_;rintro o F ⟨rfl,s⟩;have k:=aA s;clear s);go_ret;exact ⟨rfl,x.o.drawn k.o,(Fr.refl _ _).drawn k.o⟩
theorem aZr(B g r:Nat)(b:Int)(k:Addr)(e:List Nd)(s:Value)(j:bH)(w:World)(a:cB w B g s j)(T:0<=b)(U:b<60)(t:fR w B (some k) e)(n:look j b=none)(v:aQ e 1=true)(J:e.length<=60):Calls zx 135 #[.pointer (some ⟨g,0,none⟩),.int .i64 b,.slice (some k) e.length r] w λI y=>I=.returned (.bool true)/\cB y B g s (j++[(b,e)])/\Fr B w y:=by
 obtain ⟨R,L,M,N,O⟩:=info_parts tW;obtain ⟨d,rfl⟩ : ∃d:Nat,b=d:=⟨b.toNat,by omega⟩;obtain ⟨S,a1,u⟩:=a.term d (by omega);rw [n] at u;obtain rfl:S=.slice none 0 0:=u;obtain ⟨H,P,i⟩:=a.bound;have W:=a.frozen (1+d);have Q:=a.frozen 61;have m:=a.apart i;have Z:=a.ok.few;have a0:=a.low;have Y:=a.lt;have C:=aA a;have x:=aAy i (p:=⟨g,1+d,none⟩) m (.slice (some k) e.length r);have E:=aA i;have D:=aA t;have A:=aA n;have F:=aA v;have q:=aA m;clear a i t n v m;go_enter Tryz.func135,Tryz.ntmps135;go_wp2_with (first
  |(at_builtin;refine wpList_append_own _ rfl _ _ 28 rfl B 3 R (.int .i64 0) 1 8 Tryz.underlying28 L M N O rfl (by decide) _ _ _ rfl (x.alloc _) ⟨w.heap.size,0,none⟩ 1 1 [.int .i64 (d:Int)] (by rfl) rfl ?d1 ?d2 ?d3 ?d4 ?d5 ?_)
  |go_in)
 case d1=>exact tX _ _ _ _ (by simp [zs])
 case d2=>exact aGq _
 case d3=>unfold maxLen;omega
 case d4=>omega
 case d5=>simp [zs];omega
 intro a2 z o f _;obtain ⟨a3,a4,rfl⟩:=bA o;have G:=aA (C.o.more (by omega) A.o D.o F.o J E.o f o);have V:z.cell? ⟨g,61,none⟩=some H:=f.cell (aC ((Below.refl _ _).alloc (zj _) _) (by rw [zz w _ _ _ (by first|(simp;done)|(simp;omega))];exact P)) q.o;have X:z.frozen? ⟨g,61,none⟩=false:=by rw [zp (f.block g (by simp [zs];omega) q.o),zp (a:=⟨g,61,none⟩) (heap_alloc_old _ _ (show g<_ by simp [zs];omega)),World.frozen?_setCell];exact Q
 clear o f x;go_wp2;go_ret;exact ⟨rfl,G.o⟩
theorem aZs(A:Option Addr)(H:Nat)(l:List Nd)(d j:Nat)(w:World)(E:dW w A l)(S:l.length<=60)(M:aQ (l.drop d) (1+j)=true)(L:d<=l.length):Calls zx 134 #[.slice A l.length H,.int .i64 d] w λs O=>s=.returned (.int .i64 ((d+aO (l.drop d) 1:Nat)))/\aB w O:=by
 go_enter Tryz.func134,Tryz.ntmps134;go_wp2;go_loopw [1,5] (λv N wr=>∃a b:Nat,a<=l.length/\b<=1+5*a/\v=.int .i64 a/\N=.int .i64 b/\aB w wr/\d+aO (l.drop d) 1=a+aO (l.drop a) b/\aQ (l.drop a) (b+j)=true) (λv _ _=>l.length-(intOf v).toNat);case atStart=>exact ⟨d,1,L,by omega,rfl,rfl,Below.refl _ _,rfl,M⟩
 case round=>
  obtain ⟨a,b,T,U,rfl,rfl,e,n,f⟩:=hrel;cases b with
  |zero=>
   have q:=aA n;have p:=aA e;clear n e f;go_wp2;go_ret;exact ⟨xO (by rw [q.o];simp),p.o⟩
  |succ b=>
   have t:a<l.length:=aKi (q:=b+j) (by rw [<-f];congr 1;omega);obtain ⟨R,X,rfl,C,D⟩:=E.cell a t;have I:=aC e C;have J:=aC e D;rw [aWo l a b t] at n;rw [show b+1+j=(b+j)+1 by omega,aE2 l a (b+j) t,zq] at f;obtain ⟨u,f⟩:=f;generalize l[a]=nd at *;obtain ⟨x,y⟩:=nd;simp only at I J;clear C D E;have F:=e.size;have p:=aA e;have q:=aA n;have z:=aA f;have o:=aA (λQ=>aEd x y Q);clear e n f;by_cases i:x.toList.isEmpty=true
   ·have k:aM (aY (x,y)=0):=aA (jN i);rw [aH i] at o;clear u i;go_wp2_with (go_at_call 121;refine (aD o _).mono ?_;rintro s P ⟨rfl,m⟩;have r:=aA (p.o.trans (m.mono F));clear m);go_roundw;case rel=>exact ⟨a+1,b,by omega,by omega,by go_num,by go_num,r.o,by rw [q.o,k.o];simp;omega,by have:=z.o;rw [k.o] at this;rw [<-this];congr 1⟩
    case measure=>simp [intOf];omega
   ·obtain ⟨V,W,G⟩:=aX0 u i;have k:=aA G;rw [aI i] at o;clear u G i;go_wp2_with (go_at_call 121;refine (aD o _).mono ?_;rintro s P ⟨rfl,m⟩;have r:=aA (p.o.trans (m.mono F));clear m);go_roundw;case rel=>exact ⟨a+1,b+y.toNat,by omega,by omega,by go_num,by go_num,r.o,by rw [q.o,k.o];omega,by have:=z.o;rw [k.o] at this;rw [<-this];congr 1;omega⟩
    case measure=>simp [intOf];omega
theorem dW.sub{e d:Nat}(f:dW w (some ⟨e,d,none⟩) l)(a j:Nat):dW w (some ⟨e,d+a*2,none⟩) ((l.drop a).take j):=by
 have r:((l.drop a).take j).length<=l.length-a:=by simp;omega
 refine ⟨by have:=f.few;omega,λb p=>?_,λb p=>?_⟩
 ·have i:a+b<l.length:=by omega
  have:=f.short (a+b) i;simpa using this
 ·have i:a+b<l.length:=by omega
  obtain ⟨k,q,m,n,o⟩:=f.cell (a+b) i;obtain ⟨rfl,rfl⟩ : e=k/\d=q:=by simpa using m
  refine ⟨e,d+a*2,rfl,?_,?_⟩
  ·rw [show d+a*2+b*2=d+(a+b)*2 by omega];simpa using n
  ·rw [show d+a*2+b*2+1=d+(a+b)*2+1 by omega];simpa using o
theorem fR.sub{a d:Nat}(e:fR w B (some ⟨a,d,none⟩) l)(b i:Nat):fR w B (some ⟨a,d+b*2,none⟩) ((l.drop b).take i):=
 ⟨e.nodes.sub b i,λj f=>by simp at f;subst f;exact e.low ⟨a,d,none⟩ rfl⟩
theorem aBc(d:Array Value)(a:TypeId)(e:a≠136)(f:a≠3):lV (w.alloc (.cells d a)) B w.heap.size:=
 Or.inr λj i k b=>by
  rw [heap_alloc_new] at b;simp at b;rw [<-b.2.1];exact ⟨e,f⟩
theorem aLv{n:Program}{p i j:Nat}{e s t:Value}{r:Value}{u m:bH}{o:Array Value}(_:cB w B g e u)(C:lV w B i)(D:lV w B j)(x:w.cell? ⟨i,1,none⟩=some s)(y:w.cell? ⟨j,1,none⟩=some t)
  (v:∀b,(∃k,b=w.drewN k)->Calls n p o b λd a=>d=.returned r/\cB a B g e m/\Fr B b a):∀b,(∃k,b=w.drewN k)->Calls n p o b λd a=>d=.returned r/\cB a B g e m/\Fr B w a/\a.cell? ⟨i,1,none⟩=some s/\a.cell? ⟨j,1,none⟩=some t:=by
 intro b q;refine (v b q).mono ?_;rintro d a ⟨rfl,A,z⟩;have f:Fr B w a:=((Fr.refl _ _).drawn q).trans z;exact ⟨rfl,A,f,f.cell x C,f.cell y D⟩
theorem aEw(B g:Nat)(a6:Value)(k:bH)(w:World)(o q:Bool)(z u:Option Addr)(L j:Nat)(d a:List Nd)(v:cB w B g a6 k)(f1:fR w B z d)(f4:fR w B u a)(k5:a.length<=j)(k0:aQ d 1=true)(k1:aQ a 1=true)(k3:d.length<=60)(i7:a.length<=60):Calls zx 114 #[.pointer (some ⟨g,0,none⟩),.agg #[.bool o,.slice z d.length L],.agg #[.bool q,.slice u a.length j]] w λC t=>∃(e0:Bool) (c3:bH),C=.returned (.bool e0)/\cB t B g a6 c3/\Fr B w t/\(∃a5,c3=k++a5)/\(e0=true->kA (o,d) (q,a) k=some c3)/\(e0=false->kA (o,d) (q,a) k=none):=by
 have a7:aB w ((w.alloc (.cells #[.bool o,.slice z d.length L] 86)).alloc (.cells #[.bool q,.slice u a.length j] 86)):=((Below.refl _ _).alloc (zj _) _).alloc (by simp) _;have f6:=v.below a7;have f2:=f1.fr (Fr.of_below a7);have f5:=f4.fr (Fr.of_below a7);have f7:lV ((w.alloc (.cells #[.bool o,.slice z d.length L] 86)).alloc (.cells #[.bool q,.slice u a.length j] 86)) B (w.heap.size+1):=by have:=aBc (w:=w.alloc (.cells #[.bool o,.slice z d.length L] 86)) (B:=B) #[.bool q,.slice u a.length j] 86 (by decide) (by decide);simpa using this
 have f9:((w.alloc (.cells #[.bool o,.slice z d.length L] 86)).alloc (.cells #[.bool q,.slice u a.length j] 86)).cell? ⟨w.heap.size+1,1,none⟩=some (.slice u a.length j):=by simp
 have b1:aM (Fr B w ((w.alloc (.cells #[.bool o,.slice z d.length L] 86)).alloc (.cells #[.bool q,.slice u a.length j] 86))):=aA (Fr.of_below a7);have e4:=aA f6;have h7:=aA f2;have h8:=aA f5;have e6:=aA f7;have h9:=aA f9;clear v f1 f4 a7 f6 f2 f5 f7 f9;by_cases d6:o=q
 ·subst d6;have a4:aM (kA (o,d) (o,a) k=dI d a k):=aA (by simp [kA]);go_enter Tryz.func114,Tryz.ntmps114;go_wp2;generalize hW:((w.alloc (.cells #[.bool o,.slice z d.length L] 86)).alloc (.cells #[.bool o,.slice u a.length j] 86))=W at *;have e7:=aA hW;clear hW;go_loopw [7,19] (λH d7 wr=>∃(f b m:Nat) (e:bH),f<=d.length/\b<=a.length/\d7=.int .i64 f/\H=.int .i64 b/\cB wr B g a6 e/\Fr B W wr/\(∃a5,e=k++a5)/\aQ (d.drop f) m=true/\aQ (a.drop b) m=true/\dI d a k=dI (d.drop f) (a.drop b) e)
   (λ_ d7 _=>d.length-(intOf d7).toNat)
  case atStart=>exact ⟨0,0,1,k,zv _,zv _,rfl,rfl,e4.o,Fr.refl _ _,⟨[],by simp⟩,k0,k1,rfl⟩
  case round=>
   obtain ⟨f,b,m,e,l0,g4,rfl,rfl,v,D,b5,N,X,a9⟩:=hrel;by_cases V:f<d.length
   ·obtain ⟨m,rfl⟩ : ∃j9,m=j9+1:=by
     cases m with
     |zero=>rw [aCh d f V] at N;simp at N
     |succ m=>exact ⟨m,rfl⟩
    have c5:b<a.length:=aKi X;have f3:=h7.o.fr D;have c4:=h8.o.fr D;obtain ⟨k4,l3,rfl,i8,j0⟩:=f3.nodes.cell f V;obtain ⟨A,G,rfl,e9,f0⟩:=c4.nodes.cell b c5;have c9:wr.cell? ⟨w.heap.size+1,1,none⟩=some (.slice (some ⟨A,G,none⟩) a.length j):=D.cell h9.o e6.o;have c6:=λH=>aWq d a f b e H V
    have c8:=aWr d a f b e V;have g8:=aWs d a f b e V c5;have b0:=N;rw [aE2 d f m V,zq] at b0;obtain ⟨g9,b0⟩:=b0;have d1:aQ (a.drop b) (1+m)=true:=by rw [<-X];congr 1;omega
    have h1:=aDu (a.drop b) 1 m d1;have d2:=X;rw [aE2 a b m c5,zq] at d2;generalize hnd:d[f]=nd at *;obtain ⟨p,i⟩:=nd;simp only at i8 j0 c6 c8;have a3:=aA a9;have e3:=aA c6;have i1:=aA c8;have e5:=aA g8;have c2:=aA b0;have i5:=aA d2;have c1:=aA h1;have i2:=aA g9;have J:=aA b5;have a1:=aA v;have Q:=aA D;have e2:=aA c4;have i6:=aA d1;have h2:=D.size;have l2:w.heap.size+2<=wr.heap.size:=by rw [<-e7.o] at h2;simpa using h2
    clear N b0 X d1 d2 h1 a9 c6 c8 g8 g9 b5 v D c4 f3 hnd;have Z:=aA (λI=>pT p i I);have f8:aB wr (wr.alloc (.cells #[.string p,.int .i64 i] 117)):=(Below.refl _ _).alloc (zj _) _;have k2:=aA f8;clear f8;by_cases O:p.toList.isEmpty=true
    ·rw [O] at Z;have j8:=aKh i2.o O;obtain ⟨d4,d5⟩:=j8;simp only at d4 d5;have e8:aM (aY (p,i)=0):=aA (jN O);have R:aM (aL (p,i)=true):=aA O;clear O;obtain ⟨s,U⟩ : ∃s,s=b+aO (a.drop b) 1:=⟨_,rfl⟩;have g2:=tF (a.drop b) 1;have g3:=aWd (a.drop b) 0 (by intro j2;have:=congrArg List.length j2;simp at this;omega);simp at g2 g3;have k7:b<s:=by omega
     have g5:s<=a.length:=by omega
     have g7:((a.drop b).take (aO (a.drop b) 1)).length=s-b:=by simp;omega
     have j4:(b:Int)<=(s:Int):=by omega
     have k8:(s:Int)<=(j:Int):=by omega
     have k9:¬j=b:=by omega
     have c0:=aA g7;have b2:=aA U;have h6:=aA (λI (j7:dW I (some ⟨A,G,none⟩) a)=>by have:=aZs (some ⟨A,G,none⟩) j a b m I j7 i7 i6.o g4;rw [<-U] at this;exact this);clear U g2 g3 g7;go_wp2_with (first
      |(go_at_call 67;refine (aD Z _).mono ?_;rintro C e1 ⟨rfl,x⟩;obtain ⟨d8,d9,n⟩:=jC x;have y:=aA n;have i4:aM (Fr B _ e1):=aA (Fr.of_below x);have j6:=n.size;have d0:=aC n c9;clear x n)
      |(go_at_call 134;refine (aD h6 _ ((e2.o.fr (Fr.of_below y.o)).nodes)).mono ?_;rintro C h4 ⟨rfl,T⟩;have l4:=aC T d8;have h3:=aC T d9;have h0:=aC T d0;have b4:=aA (y.o.trans (T.mono j6));have i3:=aA ((i4.o).trans (Fr.of_below T));clear T))
     have b7:lV h4 B wr.heap.size:=by have j3:=aBc (w:=wr) (B:=B) #[.string p,.int .i64 i] 117 (by decide) (by decide);exact j3.fr (by simp) (i3.o)
     have b8:lV h4 B (w.heap.size+1):=(e6.o.fr (by rw [<-e7.o];simp) Q.o).fr (by omega) (Fr.of_below b4.o);have S:=a1.o.below b4.o;have b6:=(e2.o.fr (Fr.of_below b4.o)).sub b (aO (a.drop b) 1);have b9:=aA (Q.o.trans (Fr.of_below b4.o));cases hl:look e i with
     |none=>
      have P:=aA (aLv S b7 b8 h3 h0 (λI a8=>by have:=aZr B g (j-b) i ⟨A,G+b*2,none⟩ ((a.drop b).take (aO (a.drop b) 1)) a6 e I (S.drawn a8) d4 d5 (b6.fr ((Fr.refl _ _).drawn a8)) hl c1.o.1 (by rw [c0.o];omega);rw [c0.o] at this;exact this));have b3:=aA hl;clear b7 b8 S b6 hl;go_region_held3 (λt=>t.cell? ⟨wr.heap.size,1,none⟩=some (.int .i64 i)/\t.cell? ⟨w.heap.size+1,1,none⟩=some (.slice (some ⟨A,G,none⟩) a.length j)) (go_keep) ((go_at_call 135;refine (aD P _ (by first|exact ⟨0,rfl⟩|exact ⟨_,rfl⟩|exact mG _ _ _)).mono ?_;rintro C h5 ⟨rfl,F,E,g0,g1⟩;have a2:=aA F;have a0:=aA E;clear F E));have r:aM (dI d a k=dI (d.drop (f+1)) (a.drop s) (e++[(i,(a.drop b).take (aO (a.drop b) 1))])):=aA (by rw [a3.o,i1.o R.o b3.o,b2.o]);go_wp2;go_roundw;case rel=>exact ⟨f+1,s,m,e++[(i,(a.drop b).take (aO (a.drop b) 1))],by omega,g5,by go_num,rfl,a2.o,b9.o.trans a0.o,(by obtain ⟨a5,v⟩:=J.o;exact ⟨a5++[(i,(a.drop b).take (aO (a.drop b) 1))],by rw [v];simp⟩),(by have:=c2.o;rw [e8.o] at this;exact this),(by have:=c1.o.2;rw [List.drop_drop,<-b2.o] at this;exact this),r.o⟩
      case measure=>simp [intOf];omega
     |some H=>
      have P:=aA (aLv S b7 b8 h3 h0 (λI a8=>by have:=aZq B g (j-b) i ⟨A,G+b*2,none⟩ ((a.drop b).take (aO (a.drop b) 1)) H a6 e I (S.drawn a8) d4 d5 (b6.fr ((Fr.refl _ _).drawn a8)) hl;rw [c0.o] at this;exact this));have b3:=aA hl;clear b7 b8 S b6 hl;by_cases Y:H=(a.drop b).take (aO (a.drop b) 1)
      ·rw [fC Y] at P;have r:aM (dI d a k=dI (d.drop (f+1)) (a.drop s) e):=aA (by rw [a3.o,e3.o H R.o b3.o,aH Y,b2.o]);clear Y;go_region_held3 (λt=>t.cell? ⟨wr.heap.size,1,none⟩=some (.int .i64 i)/\t.cell? ⟨w.heap.size+1,1,none⟩=some (.slice (some ⟨A,G,none⟩) a.length j)) (go_keep) ((go_at_call 135;refine (aD P _ (by first|exact ⟨0,rfl⟩|exact ⟨_,rfl⟩|exact mG _ _ _)).mono ?_;rintro C h5 ⟨rfl,F,E,g0,g1⟩;have a2:=aA F;have a0:=aA E;clear F E));go_wp2;go_roundw;case rel=>exact ⟨f+1,s,m,e,by omega,g5,by go_num,rfl,a2.o,b9.o.trans a0.o,J.o,(by have:=c2.o;rw [e8.o] at this;exact this),(by have:=c1.o.2;rw [List.drop_drop,<-b2.o] at this;exact this),r.o⟩
       case measure=>simp [intOf];omega
      ·rw [gB Y] at P;have r:aM (dI d a k=none):=aA (by rw [a3.o,e3.o H R.o b3.o,aI Y]);clear Y;go_region_held3 (λt=>t.cell? ⟨wr.heap.size,1,none⟩=some (.int .i64 i)/\t.cell? ⟨w.heap.size+1,1,none⟩=some (.slice (some ⟨A,G,none⟩) a.length j)) (go_keep) ((go_at_call 135;refine (aD P _ (by first|exact ⟨0,rfl⟩|exact ⟨_,rfl⟩|exact mG _ _ _)).mono ?_;rintro C h5 ⟨rfl,F,E,g0,g1⟩;have a2:=aA F;have a0:=aA E;clear F E));go_wp2;go_ret;exact ⟨false,e,rfl,a2.o,b1.o.trans (b9.o.trans a0.o),J.o,by simp,λ_=>a4.o.trans r.o⟩
    ·have d3:p.toList.isEmpty=false:=by simpa using O
     rw [d3] at Z;have R:aM (aL (p,i)=false):=aA d3;clear O d3;have g:=xP;have l1:=xR p a[b].1 i a[b].2;have c7:=xQ (p,i) a[b];simp only at c7;have j4:(b:Int)<(a.length:Int):=by omega
     by_cases M:(p,i)=a[b]
     ·rw [fC M] at c7;have r:aM (dI d a k=dI (d.drop (f+1)) (a.drop (b+1)) e):=aA (by rw [a3.o,e5.o R.o,aH M]);have i0:=aA M;clear M;go_wp2_with (first
       |(go_at_call 67;refine (aD Z _).mono ?_;rintro C e1 ⟨rfl,x⟩;obtain ⟨d8,d9,n⟩:=jC x;have y:=aA n;have d0:=aC n c9;have i9:=aC n e9;have j1:=aC n f0;clear x n))
      go_quiet (fail);go_wp2;go_roundw;case rel=>exact ⟨f+1,b+1,m+aY (p,i),e,by omega,by omega,by go_num,by go_num,(a1.o.below y.o).drawn (by first|exact mG _ _ _|exact ⟨_,rfl⟩),(Q.o.trans (Fr.of_below y.o)).drawn (by first|exact mG _ _ _|exact ⟨_,rfl⟩),J.o,c2.o,(by have:=i5.o.2;rw [<-i0.o] at this;exact this),r.o⟩
      case measure=>simp [intOf];omega
     ·rw [gB M] at c7;have r:aM (dI d a k=none):=aA (by rw [a3.o,e5.o R.o,aI M]);clear M;go_wp2_with (first
       |(go_at_call 67;refine (aD Z _).mono ?_;rintro C e1 ⟨rfl,x⟩;obtain ⟨d8,d9,n⟩:=jC x;have y:=aA n;have d0:=aC n c9;have i9:=aC n e9;have j1:=aC n f0;clear x n))
      go_quiet (fail);go_wp2;go_ret;exact ⟨false,e,rfl,(a1.o.below y.o).drawn (by first|exact mG _ _ _|exact ⟨_,rfl⟩),b1.o.trans ((Q.o.trans (Fr.of_below y.o)).drawn (by first|exact mG _ _ _|exact ⟨_,rfl⟩)),J.o,by simp,λ_=>a4.o.trans r.o⟩
   ·have g6:d.drop f=[]:=List.drop_eq_nil_of_le (by omega);rw [g6] at N a9;have j5:m=0:=by simpa [aQ] using N
    subst j5;have U:=aWt g4 X;have r:aM (dI d a k=some e):=aA (by rw [a9,aWp a b e U]);have a1:=aA v;have Q:=aA D;have J:=aA b5;clear v D b5 g6 N a9 X U;go_wp2;go_ret;exact ⟨true,e,rfl,a1.o,b1.o.trans Q.o,J.o,λ_=>a4.o.trans r.o,by simp⟩
 ·have k6:(!o==q)=true:=by cases o<;>cases q<;>simp_all
  have a4:aM (kA (o,d) (q,a) k=none):=aA (by simp [kA,d6]);clear d6;go_enter Tryz.func114,Tryz.ntmps114;go_wp2;go_ret;exact ⟨false,k,rfl,e4.o,b1.o,⟨[],by simp⟩,by simp,λ_=>a4.o⟩
theorem aLw{e:TypeId}{a d m:Nat}{f:List Value}(b:w.ownsRow B e 1 (.slice (some ⟨g,0,none⟩) d a) d f)(v:m<=d):w.ownsRow B e 1 (.slice (some ⟨g,0,none⟩) m a) m (f.take m):=by
 obtain ⟨t,⟨b,_⟩|⟨k,i,j,q,n,o,u,r,s,p⟩⟩:=b
 ·simp at b
 ·obtain ⟨rfl,rfl⟩ : g=k/\a=i:=by simpa using q
  refine ⟨by simp;omega,Or.inr ⟨g,a,j,rfl,n,o,by omega,r,s,?_⟩⟩;rw [<-p,List.take_take];congr 1
  omega
structure uZ(w wr:World)(B g:Nat)(dv bv:Value)(M:bH):Prop where
 blk:oQ wr g
 fr:Fr B w wr
 rest:∀k,k≠g->wr.heap[k]?=w.heap[k]?
 among:wr.cell? ⟨g,0,none⟩=some dv
 term:∀x:Nat,x<60->wr.cell? ⟨g,1+x,none⟩=if (x:Int)∈M.map zr then some (.slice none 0 0) else w.cell? ⟨g,1+x,none⟩
 bound:wr.cell? ⟨g,61,none⟩=some bv
theorem uZ.start{b a:Value}{e:bH}(d:cB w B g b e)(f:w.cell? ⟨g,61,none⟩=some a):uZ w w B g b a []:=
 ⟨d.blk,Fr.refl _ _,λ_ _=>rfl,d.among,λi _=>by simp,f⟩
theorem uZ.step{w wr:World}{B g b:Nat}{e d:Value}{M:bH}{p:Int×List Nd}(a:uZ w wr B g e d M)(k:B<=g)(s:b<60)(i:p.1=(b:Int))(m:∃j,wr.cell? ⟨g,1+b,none⟩=some j):uZ w (wr.setCell ⟨g,1+b,none⟩ (.slice none 0 0)) B g e d (M++[p]):=by
 obtain ⟨j,n⟩:=m;refine ⟨a.blk.set _ _,a.fr.trans (Fr.setB k a.blk _ _),λr f=>by rw [heap_setCell_other _ _ _ _ (by simpa using f)];exact a.rest r f,?_,λx o=>?_,?_⟩
 ·rw [zz wr _ _ _ (by first|(simp;done)|(simp;omega))];exact a.among
 ·by_cases q:x=b
  ·subst q;rw [World.cell?_setCell_same wr _ _ n,aH (by simp [i])]
  ·rw [zz wr _ _ _ (by first|(simp;done)|(simp;omega)),a.term x o];have:((x:Int)∈(M++[p]).map zr)↔((x:Int)∈M.map zr):=by
    rw [zo,List.mem_append];simp [i];omega
   simp only [this]
 ·rw [zz wr _ _ _ (by first|(simp;done)|(simp;omega))];exact a.bound
theorem aEx(B g:Nat)(r:Value)(a M:bH)(w:World)(e:cB w B g r (a++M)):Calls zx 115 #[.pointer (some ⟨g,0,none⟩),.int .i64 (a.length:Nat)] w λs T=>s=.returned (.tuple #[])/\cB T B g r a/\Fr B w T:=by
 obtain ⟨c0,p,k⟩:=e.bound;have N:=e.ok.few;simp only [zt] at N;have I:=λb7=>e.frozen b7
 have b4:=e.low;have q:=e.apart k;have j:=aA e;have b5:=k;obtain ⟨_,⟨rfl,a1⟩|⟨f,n,c1,rfl,c2,b0,E,c8,R,Q⟩⟩:=b5
 ·have a3:a=[]/\M=[]:=by
   simp only [zt] at a1;exact ⟨zy (by omega),zy (by omega)⟩
  obtain ⟨rfl,rfl⟩:=a3;have a8:=I 61;have o:=aA (cB.less (M:=[]) e e.blk (Fr.refl _ _) e.among (λx _=>by simp) (by rw [p];rfl) (bv':=.slice none 0 0) (World.ownsRow_nil _ _ _ _));clear e k q;go_enter zk,zl;go_wp2;go_loopw [13] (λm wr=>m=.int .i64 0/\wr=w) (λ_ _=>0);case atStart=>exact ⟨rfl,rfl⟩
  case round=>
   obtain ⟨rfl,rfl⟩:=hrel;go_wp2;go_end0;exact ⟨rfl,o.o⟩
 ·simp only [zt] at E Q p k q R;have F:∀b,b<M.length->∃i:Nat,i<60/\(M[b]?).map zr=some (i:Int)/\w.cell? ⟨f,a.length+b,none⟩=some (.int .i64 (i:Int)):=by
   intro b v;have c6:=j.o.ok.keys M[b] (List.mem_append_right _ (zw _));refine ⟨M[b].1.toNat,by omega,by simp [v];omega,?_⟩;have:=World.ownsRow.cellAt k (a.length+b) (by omega);rw [this];rw [zo,List.getElem?_append_right (by simp)];simp [v];omega
  have J:f≠g:=by intro s;exact q (by simp [Value.ownBlock,s])
  have u:=aLw k (m:=a.length) (by omega);rw [zo,List.take_left' (by simp)] at u;have D:=aA u;have C:=aA F;have c4:(0:Int)<=(a.length:Int):=by omega
  have b2:(a.length:Int)<=((a.length+M.length:Nat):Int):=by omega
  have c5:(a.length:Int)<=(n:Int):=by omega
  have b3:(a.length:Int)<=(a.length:Int)+(M.length:Int):=by omega
  clear e k u b0 R Q q F;by_cases a7:n=a.length
  ·have a4:M=[]:=zy (by omega);subst a4;subst a7;have a8:=I 61;have o:=aA (cB.less (M:=[]) j.o j.o.blk (Fr.refl _ _) j.o.among (λx _=>by simp) (by rw [p];rfl) D.o);simp only [List.length_nil,Nat.add_zero] at p;clear E C b2 b3 N;go_enter zk,zl;go_wp2;go_loopw [13] (λm wr=>m=.int .i64 0/\wr=w) (λ_ _=>0);case atStart=>exact ⟨rfl,rfl⟩
   case round=>
    obtain ⟨rfl,rfl⟩:=hrel;go_wp2;go_end0;exact ⟨rfl,o.o⟩
  ·go_enter zk,zl;go_wp2;have U:=aA (uZ.start j.o p);go_loopw [13] (λm wr=>∃b:Nat,b<=M.length/\m=.int .i64 b/\uZ w wr B g r (.slice (some ⟨f,0,none⟩) (a.length+M.length) n) (M.take b)) (λm _=>M.length-(intOf m).toNat);case atStart=>exact ⟨0,zv _,rfl,U.o⟩
   case round=>
    obtain ⟨b,v,rfl,d⟩:=hrel;by_cases y:b<M.length
    ·obtain ⟨i,z,O,G⟩:=C.o b y;have c3:wr.cell? ⟨f,a.length+b,none⟩=some (.int .i64 (i:Int)):=by rw [World.cell?_of_block (d.rest f J)];exact G
     have H:∃S,wr.cell? ⟨g,1+i,none⟩=some S:=by
      rw [d.term i z];obtain ⟨b9,A,_⟩:=j.o.term i z;split
      ·exact ⟨_,rfl⟩
      ·exact ⟨b9,A⟩
     have a9:wr.frozen? ⟨g,1+i,none⟩=false:=by obtain ⟨X,t⟩:=d.blk;simp [World.frozen?,t]
     have V:=aA (d.step b4 z (p:=M[b]) (by simpa [y] using O) H);obtain ⟨S,c7⟩:=H;clear G d O;go_wp2;go_roundw;case rel=>exact ⟨b+1,by omega,by go_num,by rw [List.take_succ_eq_append_getElem y];exact V.o⟩
     case measure=>simp [intOf];omega
    ·have L:M.take b=M:=List.take_of_length_le (by omega);rw [L] at d;have a6:=d.bound;have a9:wr.frozen? ⟨g,61,none⟩=false:=by
      obtain ⟨X,t⟩:=d.blk;simp [World.frozen?,t]
     have P:wr.ownsRow B 3 1 (.slice (some ⟨f,0,none⟩) a.length n) a.length (a.map λb8=>.int .i64 b8.1):=by
      obtain ⟨a2,⟨a0,_⟩|⟨Z,W,Y,A,a5,b1,b6⟩⟩:=D.o
      ·simp at a0
      ·obtain ⟨rfl,rfl⟩ : f=Z/\n=W:=by simpa using A
       exact ⟨a2,Or.inr ⟨f,n,Y,rfl,a5,by rw [d.rest f J];exact b1,b6⟩⟩
     have o:=aA (cB.less j.o d.blk d.fr d.among d.term (by rw [a6];rfl) P);clear d L P;go_wp2;go_end0;exact ⟨rfl,o.o⟩
