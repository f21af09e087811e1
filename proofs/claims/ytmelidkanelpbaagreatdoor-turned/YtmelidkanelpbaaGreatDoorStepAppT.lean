import Derived.Test.YtmelidkanelpbaaGreatDoorRPrim0T
import Derived.Deep.RegionLaw
import Derived.Deep.RegionHeld3
import Derived.Deep.DeepCutAuto
import Derived.Test.YtmelidkanelpbaaGreatDoorPCl0T
open List renaming getD_eq_getElem?_getD→zz,length_append→zy,getElem?_eq_none→zx,mem_filter→zv,mem_append→zt,take_succ_eq_append_getElem→zs,mem_cons→zr,getElem?_append_left→zq,cons_append→zo,getElem_mem→zn,take_of_length_le→zm,filter_eq_nil_iff→zk,length_nil→zj,length_singleton→zi,mem_cons_of_mem→zh,set_cons_succ→zg,mem_cons_self→zf,append_assoc→ze,length_cons→zc
open Nat renaming zero_le→zp
open Or renaming inr→za,inl→z2
namespace Go.Proofs.YtmelidkanelpbaaGreatDoor
open Region renaming wanted→zu
open _root_.Go.Proofs.Tryz renaming prog→zw
open Go.RowKit Go.Shelf
set_option maxHeartbeats 2000000
set_option maxRecDepth 100000
variable{brk:Int}{c:List Lt}{v:Value}{w:World}
theorem oR{t:Array Oper}{a:Oper}{d:Act}{K:Act->World->Prop}{z:Exit->Act->World->Prop}{y:Prop}(F:a.guard=none)(u x:Operand)(m f:TypeId)(L:a.op=.call {callee:=.builtin .append,args:=#[u,x],argTypes:=#[m,m]})
  (r:Value) (b l:Nat) (S:zw.underlying m=some (.slice f)) (H:(zw.info? f).map (λg=>(g.zero,g.size,g.bytes))=some (some r,b,l)) (X:r.cells.size=b) (R:0<b) (E:l<=100) (k:Nat) (v:Value) (e:Nat) (q:List Value) (O:d.eval u=v) (M:w.ownsRow k f b v e q) (a0:e<=10000000) (D:k<=w.heap.size) (p c:Nat) (i:List Value) (U:d.eval x=.slice (some ⟨p,0,none⟩) 1 c) (I:i.length=1*b) (J:∀s n,i[s]?=some n->w.cell? ((⟨p,0,none⟩ : Addr).add s)=some n) (B:∀n∈i,n.oneCell'=true)
  (A:∀o j,j.ownsRow k f b o (e+1) (q++i)->w.grownBy j v.ownBlock->K (d.put a.dst o) j):if zu a (yielded t d.tmps)=true then Oper.wp zw a d w K z else y:=by
 have T:zu a (yielded t d.tmps)=true:=by simp [zu,F]
 rw [aI T];obtain ⟨g,G,W,Q,V⟩:=info_parts H;have C:(e+1)*l<=140737488355328:=Nat.le_trans (Nat.mul_le_mul (show e+1<=10000001 by omega) E) (by decide);obtain ⟨o,j,N,Y,Z,_⟩:=run_append_own (P:=zw) w k m a.type f g r b l S G W Q V X R v e q M ⟨p,0,none⟩ 1 c i I J B (by unfold maxLen;omega) C D;unfold Oper.wp execOp;simp only [L,resolve,invoke,builtin,Sem.run_bind,Sem.run_pure,Result.andThen_ok,List.map_toArray,List.map_cons,List.map_nil,O,U,N];exact A o j Y Z
theorem aL5(w:World)(b:Array Value)(d:TypeId)(a:Nat)(g:Value)(e:b.toList[a]?=some g):(w.alloc (.cells b d)).cell? ((⟨w.heap.size,0,none⟩ : Addr).add a)=some g:=by
 have j:(w.alloc (.cells b d)).heap[w.heap.size]?=some (.cells b d):=by show (w.heap.push _)[w.heap.size]?=_;simp
 simp only [Array.getElem?_toList] at e;have i:(⟨w.heap.size,0,none⟩ : Addr).add a=⟨w.heap.size,a,none⟩:=by
  unfold Addr.add;by_cases f:a=0
  ·simp [f]
  ·simp [f]
 rw [i];unfold World.cell?;rw [j];exact e
def aL6(b:Exit->Act->World->Prop):Exit->Act->World->Prop
 | .panic _,_,_=>False
 |e,a,w=>b e a w
theorem tC{c:Code}{d:Exit->Act->World->Prop}{b:Act}(a:c.wp zw (aL6 d) b w):c.wp zw d b w:=
 Code.wp_mono (λe b w a=>by cases e<;>first|exact a|exact False.elim a) a
theorem qO{a:Exit->Act->World->Prop}{b:Act}(d:a .normal b w):aL6 a .normal b w:=d
theorem aYi(a:Nd)(b:List Nd):bA (a::b)=.string a.1::.int .i64 a.2::bA b:=rfl
theorem aYj(d:List Nd):∀(a b:Nat),(bA d).set (a*2+1) (.int .i64 b)=bA (dS d a b):=by
 induction d with
 |nil=>intro a b;simp [bA,dS]
 |cons x r ih=>
  intro a b;cases a with
  |zero=>rfl
  |succ a=>
   have:=ih a b;rw [show (a+1)*2+1=a*2+1+1+1 by omega,aYi,zg,zg,this];rfl
structure TL(L T:List Tk)(brk:Int):Prop where
 kind:∀i,(aJ L i).kind=(aJ T i).kind
 txt:∀i,(aJ L i).txt=(aJ T i).txt
 pos:∀i,(aJ T i).kind≠63->(aJ L i).pos=(aJ T i).pos
 bad:∀i,i<T.length->aAx L brk i=(aJ T i).pos
 more:∀i,i<T.length->(aJ T i).kind≠101->(aJ T i).kind≠63->i+1<T.length
 few:T.length<=1000002
theorem aL7{g:ByteArray}{f e:Nat}{b:Tk}(a:dP g f=.tok b e):b.kind≠101/\b.kind≠63:=by
 unfold dP at a;split at a
 ·split at a
  ·cases a
  ·simp only [Nx.tok.injEq] at a;rw [<-a.1];simp only;split<;>decide
 ·split at a
  ·split at a
   ·simp only [Nx.tok.injEq] at a;rw [<-a.1];exact ⟨by simp,by simp⟩
   ·cases a
  ·split at a
   ·split at a
    ·simp only [Nx.tok.injEq] at a;rw [<-a.1];exact ⟨by simp,by simp⟩
    ·cases a
   ·split at a
    ·rename_i d;simp only [Nx.tok.injEq] at a;rw [<-a.1];simp only;unfold mP at d;simp at d;omega
    ·cases a
theorem aL8(e:ByteArray):∀b d,(∀a∈(cD e b d).1.dropLast,a.kind≠101/\a.kind≠63)/\((cD e b d).2=none->∃j a,(cD e b d).1=j++[a]/\a.kind=101)/\((cD e b d).2≠none->∀a∈(cD e b d).1,a.kind≠101/\a.kind≠63)/\(∀a∈(cD e b d).1,a.kind≠63):=by
 intro b;induction b with
 |zero=>intro d;simp [cD]
 |succ b ih=>
  intro d;rw [cD];split
  ·split
   ·exact ih _
   ·split
    ·exact ih _
    ·split
     ·rename_i a k o;have g:=aL7 o;obtain ⟨l,p,q,s⟩:=ih k;refine ⟨?_,?_,?_,?_⟩
      ·intro f hu;simp only at hu;cases hr:(cD e b k).1 with
       |nil=>rw [hr] at hu;simp at hu
       |cons y r=>
        rw [hr] at hu l;rw [List.dropLast_cons_of_ne_nil (by simp)] at hu;rcases zr.1 hu with rfl|hu
        ·exact g
        ·exact l f hu
      ·intro i;obtain ⟨j,f,m,n⟩:=p i;exact ⟨a::j,f,by simp only [m,zo],n⟩
      ·intro i f hu;rcases zr.1 hu with rfl|hu
       ·exact g
       ·exact q i f hu
      ·intro f hu;rcases zr.1 hu with rfl|hu
       ·exact g.2
       ·exact s f hu
     ·simp
  ·refine ⟨by simp,λ_=>⟨[],_,rfl,rfl⟩,by simp,by simp⟩
theorem aL9(d:ByteArray):∀a b,(cD d a b).1.length<=a:=by
 intro a;induction a with
 |zero=>intro b;simp [cD]
 |succ a ih=>
  intro b;rw [cD];split
  ·split
   ·have:=ih (b+1);omega
   ·split
    ·have:=ih (gY d b);omega
    ·split
     ·rename_i g e f;have:=ih e;simp only [zc];omega
     ·simp
  ·simp
theorem aEp(e:ByteArray)(x:e.size<=1000000):TL (cD e (e.size+1) 0).1 (eD (cD e (e.size+1) 0)) (aKc (cD e (e.size+1) 0).2):=by
 obtain ⟨_,m,t,_⟩:=aL8 e (e.size+1) 0;have q:=aL9 e (e.size+1) 0;generalize cD e (e.size+1) 0=r at *;obtain ⟨b,n⟩:=r;simp only at m t q;cases n with
 |none=>
  have j:eD (b,none)=b:=by simp [eD]
  rw [j];refine ⟨λ_=>rfl,λ_=>rfl,λ_ _=>rfl,λa f=>by simp [aAx,aJ,f],λa f k _=>?_,by omega⟩;obtain ⟨u,y,rfl,s⟩:=m rfl;by_cases o:a=u.length
  ·subst o;exact absurd (by simpa [aJ] using s) k
  ·simp at f ⊢;omega
 |some p=>
  have j:eD (b,some p)=b++[⟨63,⟨#[]⟩,p⟩]:=by simp [eD]
  rw [j];have i:∀a,(a<b.length/\aJ (b++[⟨63,⟨#[]⟩,p⟩]) a=aJ b a)\/(a=b.length/\aJ (b++[⟨63,⟨#[]⟩,p⟩]) a=⟨63,⟨#[]⟩,p⟩/\aJ b a=uI)\/(b.length<a/\aJ (b++[⟨63,⟨#[]⟩,p⟩]) a=uI/\aJ b a=uI):=by
   intro a;rcases Nat.lt_trichotomy a b.length with h|h|h
   ·exact z2 ⟨h,by simp [aJ,zq h]⟩
   ·subst h;exact za (z2 ⟨rfl,by simp [aJ],by simp [aJ]⟩)
   ·refine za (za ⟨h,?_,?_⟩)
    ·unfold aJ;rw [zz,zx (by simp;omega)];rfl
    ·unfold aJ;rw [zz,zx (by omega)];rfl
  refine ⟨λa=>?_,λa=>?_,λa f=>?_,λa f=>?_,λa f k l=>?_,by simp;omega⟩
  ·rcases i a with ⟨_,h⟩|⟨_,h,d⟩|⟨_,h,d⟩
   ·rw [h]
   ·rw [h,d];rfl
   ·rw [h,d]
  ·rcases i a with ⟨_,h⟩|⟨_,h,d⟩|⟨_,h,d⟩
   ·rw [h]
   ·rw [h,d];rfl
   ·rw [h,d]
  ·rcases i a with ⟨_,h⟩|⟨_,h,d⟩|⟨_,h,d⟩
   ·rw [h]
   ·rw [h] at f;exact absurd rfl f
   ·rw [h,d]
  ·rcases i a with ⟨g,h⟩|⟨g,h,d⟩|⟨g,h,d⟩
   ·rw [h];simp [aAx,aJ,g]
   ·rw [h];simp [aAx,g,aKc]
   ·simp at f;omega
  ·rcases i a with ⟨g,h⟩|⟨g,h,d⟩|⟨g,h,d⟩
   ·simp;omega
   ·rw [h] at l;exact absurd rfl l
   ·simp at f;omega
theorem wM{d:Nat}{f:TypeId}{i:Nat}{b:Nat}{j:List Value}(g:w.ownsRow d f i v b j)(m:0<b):∃a c,v=.slice (some ⟨a,0,none⟩) b c:=by
 obtain ⟨_,⟨rfl,l⟩|⟨a,e,k,rfl,_⟩⟩:=g
 ·omega
 ·exact ⟨a,e,rfl⟩
theorem aYk(a:List Nd)(b:ByteArray):dS (a++[(b,0)]) a.length 0=a++[(b,0)]:=by
 unfold dS;induction a with
 |nil=>rfl
 |cons x r ih=>simpa using ih
theorem aYl{x e:List Tk}(l:TL x e brk):∀j,(∀o b g d i,cJ e j o b g=.ok (d,i)->b.i<e.length->d.i<e.length)/\(∀b g q d i r,dT e j b g q=.ok (d,i,r)->b.i+1<e.length->d.i<e.length):=by
 intro j;induction j with
 |zero=>exact ⟨λo b g d i a=>by simp [cJ] at a,λb g q d i r a=>by simp [dT] at a⟩
 |succ j ih=>
  obtain ⟨A,t⟩:=ih;constructor
  ·intro o b g d i a m;rw [cJ] at a;split at a
   ·rename_i f;simp only [Except.ok.injEq,Prod.mk.injEq] at a;obtain ⟨rfl,rfl⟩:=a;exact l.more _ m (by rw [f.1];decide) (by rw [f.1];decide)
   ·split at a
    ·simp at a
    ·rename_i f;have f:(aJ e b.i).kind=110:=by simpa using f
     have s:=l.more _ m (by rw [f];decide) (by rw [f];decide);split at a
     ·rename_i n;split at a
      ·simp at a
      ·rename_i C B D z;simp only [Except.ok.injEq,Prod.mk.injEq] at a;obtain ⟨rfl,rfl⟩:=a;have p:=l.more _ s (by rw [n];decide) (by rw [n];decide);have y:=t _ _ _ _ _ _ z p;exact y
     ·simp only [Except.ok.injEq,Prod.mk.injEq] at a;obtain ⟨rfl,rfl⟩:=a;exact s
  ·intro b g q d i r a m;rw [dT] at a;split at a
   ·simp at a
   ·rename_i C B n;have u:=A _ _ _ _ _ n m;split at a
    ·rename_i k;have p:=l.more _ u (by rw [k];decide) (by rw [k];decide);exact t _ _ _ _ _ _ a p
    ·split at a
     ·rename_i k;simp only [Except.ok.injEq,Prod.mk.injEq] at a;obtain ⟨rfl,rfl,rfl⟩:=a;exact l.more _ u (by rw [k];decide) (by rw [k];decide)
     ·simp at a
theorem wN:(⟨#[]⟩ : ByteArray).size=0:=rfl
theorem aLa(d:ByteArray)(a b:Nat):(d.extract a b).size<=b-a:=by rw [ByteArray.size_extract];omega
theorem aYm(e:ByteArray):∀f i b g d,fE e f i b=some (g,d)->g.size+b<=i.size+d/\d<=e.size:=by
 intro f;induction f with
 |zero=>intro i b g d a;simp [fE] at a
 |succ f ih=>
  intro i b g d a;rw [fE] at a;split at a
  ·split at a
   ·split at a
    ·simp at a;obtain ⟨rfl,rfl⟩:=a;omega
    ·simp at a
   ·split at a
    ·split at a
     ·have j:=ih _ _ _ _ a;have:=aLa e (b+1) (b+2);rw [ByteArray.size_append] at j;omega
     ·simp at a
    ·split at a
     ·simp at a
     ·have j:=ih _ _ _ _ a;have:=aLa e b (b+bO e b);rw [ByteArray.size_append] at j;omega
  ·simp at a
theorem aYn{b:ByteArray}{g e:Nat}{d:Tk}(a:dP b g=.tok d e):d.txt.size<=b.size:=by
 unfold dP at a;split at a
 ·split at a
  ·cases a
  ·simp only [Nx.tok.injEq] at a;rw [<-a.1];simp only;rw [ByteArray.size_extract];omega
 ·split at a
  ·split at a
   ·rename_i i k f;simp only [Nx.tok.injEq] at a;rw [<-a.1];have j:=aYm _ _ _ _ _ _ f;rw [wN] at j;show i.size<=b.size;omega
   ·cases a
  ·split at a
   ·split at a
    ·simp only [Nx.tok.injEq] at a;rw [<-a.1];exact zp _
    ·cases a
   ·split at a
    ·simp only [Nx.tok.injEq] at a;rw [<-a.1];exact zp _
    ·cases a
theorem aYo(f:ByteArray):∀a d,∀e∈(cD f a d).1,e.txt.size<=f.size:=by
 intro a;induction a with
 |zero=>intro d;simp [cD]
 |succ a ih=>
  intro d;rw [cD];split
  ·split
   ·exact ih _
   ·split
    ·exact ih _
    ·split
     ·rename_i e i b;intro g hu;rcases zr.1 hu with rfl|hu
      ·exact aYn b
      ·exact ih _ g hu
     ·simp
  ·intro e b;simp at b;rw [b];exact zp _
structure yR(L T:List Tk):Prop where
 small:∀i,(aJ T i).txt.size<=1000000
 low:∀i,i<L.length->(aJ T i).kind≠63/\i<T.length
 rest:∀i,¬i<L.length->(aJ T i).kind=63
theorem aB7(e:ByteArray)(n:e.size<=1000000):yR (cD e (e.size+1) 0).1 (eD (cD e (e.size+1) 0)):=by
 obtain ⟨_,_,_,k⟩:=aL8 e (e.size+1) 0;have j:=aYo e (e.size+1) 0;generalize cD e (e.size+1) 0=r at *;obtain ⟨d,f⟩:=r;simp only at k j;have i:∀a,(a<d.length/\aJ (eD (d,f)) a∈d/\a<(eD (d,f)).length)\/(¬a<d.length/\(aJ (eD (d,f)) a).kind=63/\(aJ (eD (d,f)) a).txt=⟨#[]⟩):=by
  intro a;by_cases b:a<d.length
  ·refine z2 ⟨b,?_,by simp [eD];omega⟩;have:aJ (eD (d,f)) a=d[a]:=by simp [aJ,eD,zq b,b]
   rw [this];exact zn _
  ·refine za ⟨b,?_⟩;cases f with
   |none=>
    have:aJ (eD (d,none)) a=uI:=by simp only [aJ,eD,List.append_nil];rw [zz,zx (by omega)];rfl
    rw [this];exact ⟨rfl,rfl⟩
   |some p=>
    by_cases m:a=d.length
    ·subst m;have:aJ (eD (d,some p)) d.length=⟨63,⟨#[]⟩,p⟩:=by simp [aJ,eD]
     rw [this];exact ⟨rfl,rfl⟩
    ·have:aJ (eD (d,some p)) a=uI:=by simp only [aJ,eD];rw [zz,zx (by simp;omega)];rfl
     rw [this];exact ⟨rfl,rfl⟩
 refine ⟨λa=>?_,λa g=>?_,λa g=>?_⟩
 ·rcases i a with ⟨_,b,_⟩|⟨_,_,b⟩
  ·have:=j _ b;omega
  ·rw [b,wN];omega
 ·rcases i a with ⟨_,b,l⟩|⟨b,_⟩
  ·exact ⟨k _ b,l⟩
  ·exact absurd g b
 ·rcases i a with ⟨b,_⟩|⟨_,b,_⟩
  ·exact absurd b g
  ·exact b
def eE(a:List Nd):Prop:=∀x∈a,x.1.size<=1000000
theorem yS{a:List Nd}{x:Nd}(b:eE a)(d:x.1.size<=1000000):eE (a++[x]):=by
 intro e hy;rcases zt.1 hy with hy|hy
 ·exact b e hy
 ·simp at hy;subst hy;exact d
theorem aYp{d:List Nd}(e:eE d)(i j:Nat):eE (dS d i j):=by
 intro k b;unfold dS at b;rw [List.mem_iff_getElem?] at b;obtain ⟨g,a⟩:=b;rw [List.getElem?_modify] at a;cases hq:d[g]? with
 |none=>rw [hq] at a;simp at a
 |some z=>
  rw [hq] at a;have f:=e z (List.mem_of_getElem? hq);simp at a;subst a;split<;>exact f
theorem aYq{q i:List Tk}(t:yR q i):∀g,(∀k e b f d,cJ i g k e b=.ok (f,d)->eE b->eE d)/\(∀e b l f d m,dT i g e b l=.ok (f,d,m)->eE b->eE d):=by
 intro g;induction g with
 |zero=>exact ⟨λk e b f d a=>by simp [cJ] at a,λe b l f d m a=>by simp [dT] at a⟩
 |succ g ih=>
  obtain ⟨u,o⟩:=ih;constructor
  ·intro k e b f d a j;rw [cJ] at a;split at a
   ·simp only [Except.ok.injEq,Prod.mk.injEq] at a;obtain ⟨rfl,rfl⟩:=a;exact yS j (by rw [wN];omega)
   ·split at a
    ·simp at a
    ·have n:=yS (x:=((aJ i e.i).txt,0)) j (t.small _);split at a
     ·split at a
      ·simp at a
      ·rename_i z y A s;simp only [Except.ok.injEq,Prod.mk.injEq] at a;obtain ⟨rfl,rfl⟩:=a;exact aYp (o _ _ _ _ _ _ s n) _ _
     ·simp only [Except.ok.injEq,Prod.mk.injEq] at a;obtain ⟨rfl,rfl⟩:=a;exact n
  ·intro e b l f d m a j;rw [dT] at a;split at a
   ·simp at a
   ·rename_i z y r;have p:=u _ _ _ _ _ r j;split at a
    ·exact o _ _ _ _ _ _ a p
    ·split at a
     ·simp only [Except.ok.injEq,Prod.mk.injEq] at a;obtain ⟨rfl,rfl,rfl⟩:=a;exact p
     ·simp at a
def qP(w:World)(d:Nat)(a:List (Lt×Value)×Value):Prop:=w.ownsRow d 86 2 a.2 a.1.length (bF a.1)/\∀b∈a.1,w.ownsRow d 117 2 b.2 b.1.2.length (bA b.1.2)
theorem aEq{g:Nat}{P:List (Lt×Value)}(l:w.ownsRow g 86 2 v P.length (bF P))(p:∀a∈P,w.ownsRow g 117 2 a.2 a.1.2.length (bA a.1.2))(u:∀a∈P,eE a.1.2)(y:aR (P.map Prod.fst)<=1000000)(A:P.length<=2000000):∃b e,v=.slice b P.length e/\cH w b (P.map Prod.fst):=by
 obtain ⟨b,e,rfl,r⟩:=tN l;refine ⟨b,e,rfl,⟨by simp;omega,λd s=>?_⟩⟩;have t:d<P.length:=by simpa using s
 obtain ⟨k,rfl,m,n⟩:=r d t;have f:P[d]∈P:=zn _;have z:=uZ (P.map Prod.fst) P[d].1 (List.mem_map.2 ⟨_,f,rfl⟩);obtain ⟨i,j,x,o⟩:=uY (p _ f) (by omega) (λB q=>by have:=u _ f _ (zn q);omega);refine ⟨k,0,i,j,rfl,?_,?_,?_⟩
 ·simpa using m
 ·rw [Nat.zero_add,n,x];simp
 ·simpa using o
theorem aYr:(zw.info? 51).map (λa=>(a.zero,a.size,a.bytes))=some (some (.slice none 0 0),1,24):=by kernel_rfl
theorem aYs{m:Array Oper}{b:Oper}{a:Act}{w:World}{K:Act->World->Prop}{o:Exit->Act->World->Prop}{n:Prop}(t:b.guard=none)(d:Nat)(j:Array Operand)(A:Array TypeId)
  (x:b.op=.call {callee:=.value (.func d),args:=j,argTypes:=A}) (s:∀l w,(callFunc d l).run zw w=.ok (.enter d l) w) (f:Array Value) (i:j.toList.map a.eval=f.toList) {k:Ending->World->Prop} (r:Calls zw d f w k)
  (p:∀e g,k e g->∃v,e=.returned v/\K (a.put b.dst v) g):if zu b (yielded m a.tmps)=true then Oper.wp zw b a w K o else n:=by
 have z:zu b (yielded m a.tmps)=true:=by simp [zu,t]
 rw [aI z];have y:(execOp a.eval b).run zw w=.ok (.enter d f) w:=by
  have i:j.map a.eval=f:=by apply Array.ext';rw [Array.toList_map];exact i
  subst i;simp [execOp,x,resolve,invoke,s,Act.eval,Deferred.ofValue]
 unfold Oper.wp;rw [y,Oper.upon_enter];exact r.mono λe g q=>by
  obtain ⟨v,rfl,u⟩:=p e g q;exact u
def kR(b:List Tk)(a:bC):bC:=⟨if (aJ b a.i).kind=126 then a.i+1 else a.i,a.vars,a.pz⟩
theorem aEr{a:List Tk}{f d:Nat}{e:bC}(b:cJ a (a.length+1) true (kR a e) []=.error d):fW a (f+1) e c=.error d:=by unfold kR at b;rw [fW,b]
theorem aEs{a:List Tk}{f:Nat}{d b:bC}{e:List Nd}(g:cJ a (a.length+1) true (kR a d) []=.ok (b,e))(i:(aJ a b.i).kind=124):fW a (f+1) d c=fW a f ⟨b.i+1,b.vars,b.pz⟩ (c++[(decide ((aJ a d.i).kind=126),e)]):=by unfold kR at g;rw [fW,g];simp only;rw [aI i]
theorem aEt{a:List Tk}{g:Nat}{d b:bC}{e:List Nd}(f:cJ a (a.length+1) true (kR a d) []=.ok (b,e))(i:(aJ a b.i).kind≠124):fW a (g+1) d c=.ok (b,c++[(decide ((aJ a d.i).kind=126),e)]):=by unfold kR at f;rw [fW,f];simp only;rw [aH i]
theorem aEu(b:List Tk)(a:bC):a.i<=(kR b a).i/\(kR b a).i<=a.i+1/\(kR b a).vars=a.vars/\(kR b a).pz=a.pz:=by unfold kR;simp only;split<;>simp
theorem aYt{f a:List Tk}(g:TL f a brk){e:bC}(b:e.i<a.length):(kR a e).i<a.length:=by
 unfold kR;simp only;split
 ·rename_i d;exact g.more _ b (by rw [d];decide) (by rw [d];decide)
 ·exact b
theorem aLb:eE []:=λb a=>by simp at a
theorem aYu{m a:List Tk}(l:TL m a brk)(hx:yR m a):∀j b c d g,fW a j b c=.ok (d,g)->b.i<a.length->(∀f∈c,eE f.2)->
  (∀f∈g,eE f.2)/\b.i<d.i/\d.i<a.length/\aR g<=aR c+(d.i-b.i)/\g.length<=c.length+(d.i-b.i)/\b.pz.length<=d.pz.length/\d.pz.length<=b.pz.length+(d.i-b.i):=by
 intro j;induction j with
 |zero=>intro b c d g e;simp [fW] at e
 |succ j ih=>
  intro b c d g e r t;cases hq:cJ a (a.length+1) true (kR a b) [] with
  |error p=>rw [aEr hq] at e;simp at e
  |ok i=>
   obtain ⟨A,x⟩:=i;obtain ⟨B,C,y,z⟩:=aEu a b;have n:=(wI a (a.length+1)).1 _ _ _ _ _ hq;have s:=(aYl l (a.length+1)).1 _ _ _ _ _ hq (aYt l r);have u:=(aYq hx (a.length+1)).1 _ _ _ _ _ hq aLb;rw [y,z] at n;simp only [zj] at n;have o:∀f∈c++[(decide ((aJ a b.i).kind=126),x)],eE f.2:=by
    intro f hx;rcases zt.1 hx with hx|hx
    ·exact t f hx
    ·simp at hx;subst hx;exact u
   by_cases k:(aJ a A.i).kind=124
   ·rw [aEs hq k] at e;have q:=l.more _ s (by rw [k];decide) (by rw [k];decide);have i:=ih _ _ _ _ e q o;rw [qY] at i;simp only [zy,zi] at i;refine ⟨i.1,?_⟩;obtain ⟨_,D,E,F,G,H,I⟩:=i;omega
   ·rw [aEt hq k] at e;simp only [Except.ok.injEq,Prod.mk.injEq] at e;obtain ⟨rfl,rfl⟩:=e;refine ⟨o,?_⟩;rw [qY];simp only [zy,zi];omega
theorem aLc{l b:List Tk}(i:TL l b brk)(f:yR l b){d e:bC}{c:List Lt}(a:kO b d=.ok (e,c))(n:d.i<b.length):(∀k∈c,eE k.2)/\d.i<e.i/\e.i<b.length/\aR c<=b.length/\c.length<=b.length/\d.pz.length<=e.pz.length/\e.pz.length<=d.pz.length+(e.i-d.i):=by
 unfold kO at a;cases hq:lC b d with
 |error p=>rw [hq] at a;simp at a
 |ok r=>
  obtain ⟨B,A⟩:=r;rw [hq] at a;simp only at a;split at a
  ·rename_i g;simp only [Except.ok.injEq,Prod.mk.injEq] at a;obtain ⟨rfl,rfl⟩:=a;unfold lC at hq;split at hq
   ·rename_i m;have q:=i.more _ n (by rw [m];decide) (by rw [m];decide);simp only [Except.ok.injEq,Prod.mk.injEq] at hq;obtain ⟨rfl,rfl⟩:=hq;have j:=i.more _ q (by rw [g];decide) (by rw [g];decide);refine ⟨λk f=>by simp at f,by simp;omega,j,by simp [aR],by simp,by simp,by simp⟩
   ·obtain ⟨s,t,u,x,y,o,z⟩:=aYu i f _ _ _ _ _ hq n (λk f=>by simp at f);have j:=i.more _ u (by rw [g];decide) (by rw [g];decide);simp only [zj,aR,List.map_nil,List.sum_nil] at t x y o z;refine ⟨s,by simp only;omega,j,?_,by omega,o,by simp only;omega⟩;unfold aR;omega
  ·simp at a
theorem aYv(a:List Nd):∀g,eE a->eE (dW a g).1:=by
 have k:∀(a:List Nd) (b:List Nd×List Int),eE a->eE b.1->eE (a.foldl cI b).1:=by
  intro a;induction a with
  |nil=>intro b _ d;exact d
  |cons x r ih=>
   intro b i e;refine ih _ (λl j=>i l (zh _ j)) ?_;have f:=i x (zf ..);unfold cI;split
   ·split
    ·exact yS e (by first|exact f|(rw [wN];omega))
    ·exact yS e (by first|exact f|(rw [wN];omega))
   ·exact yS e f
 exact λg d=>k a ([],g) d aLb
theorem aYw(c:List Lt)(d:∀a∈c,eE a.2):∀a∈(cW c).1,eE a.2:=by
 have i:∀(c:List Lt) (b:List Lt×List Int),(∀a∈c,eE a.2)->(∀a∈b.1,eE a.2)->∀a∈(c.foldl dK b).1,eE a.2:=by
  intro c;induction c with
  |nil=>intro b _ d;exact d
  |cons y r ih=>
   intro b e f;refine ih _ (λj g=>e j (zh _ g)) ?_;intro a hx;unfold dK at hx;simp only at hx;rcases zt.1 hx with hx|hx
   ·exact f a hx
   ·simp at hx;subst hx;exact aYv _ _ (e y (zf ..))
 exact i c ([],[]) d (λa hx=>by simp at hx)
theorem aLd(c:List Lt):aR (cW c).1=aR c:=by
 have b:∀(c:List Lt) (a:List Lt×List Int),aR (c.foldl dK a).1=aR a.1+aR c:=by
  intro c;induction c with
  |nil=>intro a;simp [aR]
  |cons y r ih=>
   intro a;rw [List.foldl_cons,ih];unfold dK;simp only;rw [qY];simp only [aR,List.map_cons,List.sum_cons];have:=(xK y.2 a.2).1;omega
 have:=b c ([],[]);simpa [cW,aR] using this
theorem aYx(c:List Lt)(f:∀a∈c,eE a.2):(∀a∈aV c,eE a.2)/\aR (aV c)<=aR c/\(aV c).length<=c.length:=by
 obtain ⟨b,d,e⟩:=mD c;refine ⟨aYw _ λa g=>f a (e a g),?_,?_⟩
 ·unfold aV;rw [aLd];exact d
 ·unfold aV;rw [(pA _).1];exact b
def qQ(b:List (Nat×List Lt))(a:Nat)(d:a<b.length):Prop:=40<=a\/bP (aV b[a].2)=false
def aB8(a:List (Nat×List Lt))(i:List (List Lt))(e f:Int):Prop:=
 (∃b d,qQ a b d/\(∀g j,g<b->¬qQ a g j)/\i=[]/\e=a[b].1/\f=4)\/((∀b d,¬qQ a b d)/\i=a.map (λk=>aV k.2)/\e=0/\f=0)
def nO(f:ByteArray)(d:List (List Lt))(a b:Int):Prop:=
 (3000<f.size/\d=[]/\a=0/\b=1)\/(f.size<=3000/\
  match uJ f with
  | .error p=>d=[]/\a=p/\b=2
  | .ok (st,cs)=>∃e,wH st.pz e/\((0<=e/\d=[]/\a=e/\b=3)\/(e<0/\aB8 cs d a b)))
theorem aYy(b f:List Nd)(a e:Nat)(d:a<b.length):dS (b++f) a e=dS b a e++f:=by
 induction b generalizing a with
 |nil=>simp at d
 |cons x t ih=>
  cases a with
  |zero=>rfl
  |succ a=>
   have:=ih a (by simpa using d);unfold dS at this ⊢;simpa using this
theorem aYz(b e:List Nd)(a d:Nat):dS (b++e) (b.length+a) d=b++dS e a d:=by
 induction b with
 |nil=>simp
 |cons x t ih=>
  unfold dS at ih ⊢;simp only [zc,zo];rw [show t.length+1+a=t.length+a+1 by omega];simpa using ih
theorem wO(a:List Nd)(b d:Nat):(dS a b d).length=a.length:=by simp [dS]
theorem aZ0(b:List Nd)(a e d:Nat):dS (dS b a e) a d=dS b a d:=by
 induction b generalizing a with
 |nil=>simp [dS]
 |cons x t ih=>
  cases a with
  |zero=>rfl
  |succ a=>
   have:=ih a;unfold dS at this ⊢;simpa using this
theorem aLe(d:List Tk):∀e,(∀g a b,cJ d e g a b=match cJ d e g a [] with | .error p=>.error p | .ok (s,r)=>.ok (s,b++r))/\(∀a b f,dT d e a b f=match dT d e a [] f with | .error p=>.error p | .ok (s,r,k)=>.ok (s,b++r,k)):=by
 intro e;induction e with
 |zero=>exact ⟨λg a b=>by simp [cJ],λa b f=>by simp [dT]⟩
 |succ e ih=>
  obtain ⟨m,i⟩:=ih;constructor
  ·intro g a b;rw [cJ,cJ];split
   ·simp
   ·split
    ·simp
    ·split
     ·rw [i _ (b++[((aJ d a.i).txt,0)]) 0,i _ ([]++[((aJ d a.i).txt,0)]) 0];cases dT d e ⟨a.i+1,a.vars,a.pz++[((aJ d a.i).txt,g,0,((aJ d a.i).pos:Int))]⟩ [] 0 with
      |error p=>rfl
      |ok r=>
       obtain ⟨l,j,n⟩:=r;simp only [List.nil_append,zj];have:=aYz b ([((aJ d a.i).txt,0)]++j) 0 n;rw [ze,show b.length=b.length+0 from rfl,this]
     ·simp
  ·intro a b f;rw [dT,dT,m false _ b];cases hq:cJ d e false ⟨a.i+1,a.vars,a.pz⟩ [] with
   |error p=>rfl
   |ok r=>
    obtain ⟨l,j⟩:=r;simp only;split
    ·rw [i l (b++j) (f+1),i l j (f+1)];cases dT d e l [] (f+1) with
     |error p=>rfl
     |ok r=>simp
    ·split
     ·rfl
     ·rfl
def nR(a:List Pl):List Value:=a.map λp=>.int .i64 p.2.2.2
theorem aZ1(a:List Pl)(b:Pl):nR (a++[b])=nR a++[.int .i64 b.2.2.2]:=by simp [nR]
theorem aZ2(b:List Pl)(a d:Nat):nR (pO b a d)=nR b:=by
 induction b generalizing a with
 |nil=>simp [pO]
 |cons x t ih=>
  cases a with
  |zero=>rfl
  |succ a=>
   have:=ih a;unfold pO nR at this ⊢;simpa using this
theorem aZ3(a:List Pl)(b d:Nat):(pO a b d).length=a.length:=by simp [pO]
abbrev Us:=ByteArray×Bool×Int
def lX(b:Nat)(a:Nd):List Us:=if aL a then [] else [(a.1,decide (b=0),a.2)]
def kB(a:List Nd):Nat->List Us
 |0=>[]
 |k+1=>kB a k++((a[k]?).map (lX k)).getD []
def nS(c:List Lt):Nat->List Us
 |0=>[]
 |k+1=>nS c k++((c[k]?).map λa=>kB a.2 a.2.length).getD []
def pU(c:List Lt):List Us:=nS c c.length
theorem aLf(b:List Nd)(a:Nat)(d:a<b.length):kB b (a+1)=kB b a++lX a b[a]:=by simp [kB,d]
theorem aEv(c:List Lt)(a:Nat)(b:a<c.length):nS c (a+1)=nS c a++kB c[a].2 c[a].2.length:=by simp [nS,b]
theorem aLg(b:List Nd)(a:Nat):(kB b a).length<=a:=by
 induction a with
 |zero=>simp [kB]
 |succ a ih=>
  simp only [kB,zy];have:(((b[a]?).map (lX a)).getD []).length<=1:=by
   cases b[a]? with
   |none=>simp
   |some n=>simp [lX];split<;>simp
  omega
theorem aZ4(c:List Lt)(a:Nat):(nS c a).length<=aR (c.take a):=by
 induction a with
 |zero=>simp [nS]
 |succ a ih=>
  by_cases b:a<c.length
  ·rw [aEv c a b,zs b,qY,zy];have:=aLg c[a].2 c[a].2.length;omega
  ·have d:c[a]?=none:=zx (by omega);have e:c.take (a+1)=c.take a:=by rw [zm (by omega),zm (by omega)]
   simp only [nS,d,e];simpa using ih
def wR(a:List Us):Prop:=∀b (e:b<a.length),a[b].2.2<=5/\∀d (f:d<b),(a[d]'(by omega)).1=a[b].1->(a[d]'(by omega)).2=a[b].2
theorem aZ5(a:Nat):((a:Int)==0)=decide (a=0):=by rw [Bool.eq_iff_iff];simp
def jQ(a:Pl):Us:=(a.1,a.2.1,a.2.2.1)
def gF(b:List Us):List Value:=b.flatMap λa=>[.string a.1,.bool a.2.1,.int .i64 a.2.2]
theorem aZ6(b:List Us)(a:Us):gF (b++[a])=gF b++[.string a.1,.bool a.2.1,.int .i64 a.2.2]:=by simp [gF]
theorem aEw(b:List Us):∀a (d:a<b.length),(gF b)[a*3]?=some (.string b[a].1)/\(gF b)[a*3+1]?=some (.bool b[a].2.1)/\(gF b)[a*3+2]?=some (.int .i64 b[a].2.2):=by
 induction b with
 |nil=>intro a d;simp at d
 |cons x r ih=>
  intro a d;cases a with
  |zero=>simp [gF]
  |succ a=>
   have:=ih a (by simpa using d);have e:(a+1)*3=a*3+3:=by omega
   rw [e];simp only [gF,List.flatMap_cons,zo,List.nil_append,List.getElem_cons_succ] at this ⊢;have f:a*3+3+1=a*3+1+3:=by omega
   have g:a*3+3+2=a*3+2+3:=by omega
   rw [f,g];simp only [List.getElem?_cons_succ];exact this
structure aLh(w:World)(a:Option Addr)(U:List Us):Prop where
 few:U.length<=1000000
 short:∀k (h:k<U.length),U[k].1.size<=140737488355328
 cell:∀k (h:k<U.length),∃b,a=some ⟨b,0,none⟩/\w.cell? ⟨b,k*3,none⟩=some (.string U[k].1)/\w.cell? ⟨b,k*3+1,none⟩=some (.bool U[k].2.1)/\w.cell? ⟨b,k*3+2,none⟩=some (.int .i64 U[k].2.2)
theorem aZ7{i:Nat}{a:List Us}(k:w.ownsRow i 92 3 v a.length (gF a))(l:a.length<=1000000)(m:∀b (k:b<a.length),a[b].1.size<=140737488355328):∃j d,v=.slice j a.length d/\aLh w j a:=by
 obtain ⟨o,⟨rfl,p⟩|⟨f,d,n,rfl,q,s,r,t,x,u⟩⟩:=k
 ·exact ⟨none,0,by rw [p],l,m,λb e=>by omega⟩
 ·have g:w.ownsRow i 92 3 (.slice (some ⟨f,0,none⟩) a.length d) a.length (gF a):=⟨o,za ⟨f,d,n,rfl,q,s,r,t,x,u⟩⟩;refine ⟨_,_,rfl,l,m,λb e=>⟨f,rfl,?_,?_,?_⟩⟩
  ·rw [g.cellAt (b*3) (by omega),(aEw a b e).1]
  ·rw [g.cellAt (b*3+1) (by omega),(aEw a b e).2.1]
  ·rw [g.cellAt (b*3+2) (by omega),(aEw a b e).2.2]
theorem aLi:(zw.info? 92).map (λa=>(a.zero,a.size,a.bytes))=some (some (.agg #[.string ⟨#[]⟩,.bool false,.int .i64 0]),3,32):=by kernel_rfl
theorem aZ8{d b:World}{f g:Value}{a:List Us}{x:Us}(k:d.ownsRow w.heap.size 92 3 f a.length (gF a))(e:aB w d)
  (l:b.ownsRow w.heap.size 92 3 g (a.length+1) (gF a++[.string x.1,.bool x.2.1,.int .i64 x.2.2])) (j:d.grownBy b f.ownBlock):b.ownsRow w.heap.size 92 3 g (a++[x]).length (gF (a++[x]))/\aB w b:=by
 refine ⟨?_,e.grown j e.size λm i=>(cO k m i).1⟩;rw [aZ6,zy];exact l
theorem aZ9(w:World)(e f x:Value)(i:TypeId)(d:Nat)(g:d=w.heap.size):∀j b,[e,f,x][j]?=some b->(w.alloc (.cells #[e,f,x] i)).cell? ((⟨d,0,none⟩ : Addr).add j)=some b:=by
 subst g;intro j b a;match j,a with
 |0,a=>simp at a;subst a;simp [Addr.add]
 |1,a=>simp at a;subst a;simp [Addr.add]
 |2,a=>simp at a;subst a;simp [Addr.add]
 |j+3,a=>simp at a
theorem aZa(e:ByteArray)(d:Bool)(x:Int):∀b∈[Value.string e,Value.bool d,Value.int .i64 x],b.oneCell'=true:=by intro b a;simp at a;rcases a with rfl|rfl|rfl<;>rfl
theorem aZb(I:Option Addr)(a3:Nat)(c:List Lt)(w:World)(x:cH w I c)(c8:aR c<=100000):Calls zw 41 #[.slice I c.length a3] w λu U=>∃v,u=.returned v/\U.ownsRow w.heap.size 92 3 v (pU c).length (gF (pU c))/\aB w U:=by
 obtain ⟨b3,a6,a7,a8,a9⟩:=info_parts aLi;have c9:=x.few;have a0:=aA x;clear x;go_enter Tryz.func41,Tryz.ntmps41;go_wp2;go_loopw [3,10] (λE C wr=>∃b:Nat,b<=c.length/\C=.int .i64 b/\wr.ownsRow w.heap.size 92 3 E (nS c b).length (gF (nS c b))/\aB w wr) (λ_ C _=>c.length-(intOf C).toNat);case atStart=>exact ⟨0,zp _,rfl,World.ownsRow_nil _ _ _ _,Below.refl _ _⟩
 case round=>
  obtain ⟨b,d0,rfl,A,l⟩:=hrel;by_cases y:b<c.length
  ·obtain ⟨c6,d7,b9,c0,rfl,J,M,r⟩:=a0.o.cell b y;have a4:=aC l J;have a5:=aC l M;have e:=aEv c b y;have d4:=aZ4 c b;have Q:=xL c (b+1);rw [zs y,qY] at Q;generalize c[b]=z at *;obtain ⟨e0,d⟩:=z;simp only at a4 a5 r e Q;generalize nS c b=U0 at *;have G:=aA e;have Z:=aA r;have d5:=r.few;have b0:=l.size;clear J M r e;go_wp2;go_loopw [3,17] (λE D X=>∃a:Nat,a<=d.length/\D=.int .i64 a/\X.ownsRow w.heap.size 92 3 E (U0++kB d a).length (gF (U0++kB d a))/\aB w X) (λ_ D _=>d.length-(intOf D).toNat);case atStart=>exact ⟨0,zp _,rfl,by simpa [kB] using A.alloc _,l.alloc b0 _⟩
   case round=>
    obtain ⟨a,d2,rfl,m,i⟩:=hrel;by_cases S:a<d.length
    ·obtain ⟨c7,d6,rfl,L,N⟩:=Z.o.cell a S;have b4:=aC i L;have b5:=aC i N;have j:=aLf d a S;have d3:=aLg d a;generalize d[a]=nd at *;obtain ⟨f,k⟩:=nd;simp only at b4 b5;have o:=aA (λb8=>pL f k b8);have P:=i.size;have q:=aA i;clear L N i;cases hv:f.toList.isEmpty
     ·have e:lX a (f,k)=[(f,((a:Int)==0),k)]:=by simp [lX,aL,hv,aZ5]
      rw [e] at j;rw [hv] at o;have t:=aA j;have d1:(U0++kB d a).length<=200000:=by rw [zy];omega
      have a2:aM (U0++kB d (a+1)=(U0++kB d a)++[(f,((a:Int)==0),k)]):=aA (by rw [j,ze]);clear j t;generalize U0++kB d a=V at *;clear e hv;go_wp2_with (first
       |(go_at_call 67;refine (aD o _).mono ?_;rintro u W ⟨rfl,g⟩;obtain ⟨b6,b7,n⟩:=jB g;have B:=bJ (m.alloc _) g (Nat.le_refl _);have p:=aA (q.o.trans (n.mono P));have O:=p.o.size;clear g n)
       |(at_builtin;refine wpList_append_own _ rfl (.tmp 25) (.tmp 33) 67 rfl w.heap.size 92 b3 (.agg #[.string ⟨#[]⟩,.bool false,.int .i64 0]) 3 32 Tryz.underlying67 a6 a7 a8 a9 rfl (by decide) _ _ _ rfl (B.alloc _) ⟨W.heap.size,0,none⟩ 1 1 [.string f,.bool ((a:Int)==0),.int .i64 k] rfl rfl ?c1 ?c2 ?c3 ?c4 ?c5 ?_)
       |go_in)
      case c1=>exact aZ9 _ _ _ _ _ _ (by simp)
      case c2=>first|exact aZa _ _ _|exact ⟨rfl,rfl,rfl⟩
      case c3=>unfold maxLen;omega
      case c4=>omega
      case c5=>exact Nat.le_trans O (World.grownBy_alloc _ _ none).size
      intro d8 d9 T R _;have H:=aZ8 (x:=(f,((a:Int)==0),k)) (B.alloc _) (p.o.alloc O _) T R;have F:=aA H;clear T R B H;go_wp2;go_roundw;case rel=>exact ⟨a+1,by omega,by go_num,by rw [a2.o];exact F.o.1,F.o.2⟩
      case measure=>simp [intOf];omega
     ·have e:lX a (f,k)=[]:=by simp [lX,aL,hv]
      rw [e,List.append_nil] at j;rw [hv] at o;have t:=aA j;have s:=aA m;clear j e hv m;go_wp2_with (first
       |(go_at_call 67;refine (aD o _).mono ?_;rintro u W ⟨rfl,g⟩;obtain ⟨b6,b7,n⟩:=jB g;have a1:=aA (bJ (s.o.alloc _) g (Nat.le_refl _));have p:=aA (q.o.trans (n.mono P));clear g n)
       |go_in)
      go_roundw;case rel=>exact ⟨a+1,by omega,by go_num,by rw [t.o];exact a1.o,p.o⟩
      case measure=>simp [intOf];omega
    ·have b2:a=d.length:=by omega
     subst b2;rw [<-G.o] at m;have s:=aA m;have q:=aA i;clear m i G;go_wp2;go_roundw;case rel=>exact ⟨b+1,by omega,by go_num,s.o,q.o⟩
     case measure=>simp [intOf];omega
  ·have b1:b=c.length:=by omega
   subst b1;have Y:=aA (And.intro A l);clear A l;go_wp2;go_ret;exact ⟨_,rfl,Y.o⟩
def aB9(d:Nat)(w:World)(v:Value)(b:List (List (Lt×Value)×Value)):Prop:=
 w.ownsRow d 51 1 v b.length (b.map Prod.snd)/\∀a∈b,qP w d a/\(∀e∈a.1,eE e.1.2)/\aR (a.1.map Prod.fst)<=1000000/\a.1.length<=1000000
theorem aB9.nil(a:Nat)(w:World):aB9 a w (.slice none 0 0) []:=⟨World.ownsRow_nil _ _ _ _,λp b=>by simp at b⟩
structure lG(B:Nat)(w:World)(v:Value)(QV:List (List (Lt×Value)×Value)):Prop where
 mem:aB9 B w v QV
 once:(QV.map λp=>p.2.ownBlock).Nodup
 atoms:(QV.flatMap λp=>p.1.filterMap λq=>q.2.ownBlock).Nodup
theorem lG.nil(a:Nat)(w:World):lG a w (.slice none 0 0) []:=⟨aB9.nil _ _,by simp,by simp⟩
section
variable {α:Type}[DecidableEq α]
def aLj(a c:List (Bool×α)):Prop:=∀b∈a,b∈c
def aLk(c:List (Bool×α)):Prop:=∃a,(true,a)∈c/\(false,a)∈c
def nT(c d:List (Bool×α))(b:α):List (Bool×α):=c.filter (λa=>decide (a≠(false,b)))++d.filter (λa=>decide (a≠(true,b)))
def aBa(d:List (Bool×α)->Prop):Prop:=∀c a b,d c->d a->(false,b)∈c->(true,b)∈a->aLk (nT c a b)\/∃e,d e/\aLj e (nT c a b)
def uM(d:List (Bool×α)->Prop)(a:Bool)(b:α)(e:List (Bool×α)):Prop:=∃c,d c/\(!a,b)∉c/\e=c.filter λf=>decide (f≠(a,b))
theorem aLl{d:List (Bool×α)->Prop}{f:Bool}{b:α}{j:List α}(k:∀c,d c->∀a∈c,a.2∈b::j):∀c,uM d f b c->∀a∈c,a.2∈j/\a.2≠b:=by
 rintro o ⟨c,l,p,rfl⟩ a g;rw [zv,decide_eq_true_eq] at g;have i:a.2≠b:=by intro e;obtain ⟨m,n⟩:=a;simp only at e;subst e;cases m<;>cases f<;>simp_all
 rcases zr.1 (k c l a g.1) with e|e
 ·exact absurd e i
 ·exact ⟨e,i⟩
theorem aZc{m:List (Bool×α)->Prop}{d:Bool}{e:α}(s:aBa m):aBa (uM m d e):=by
 rintro A B f ⟨c,t,u,rfl⟩ ⟨g,x,y,rfl⟩ i j;rw [zv,decide_eq_true_eq] at i j;have C:f≠e:=by
  rintro rfl;cases d
  ·exact i.2 rfl
  ·exact j.2 rfl
 have k:∀a,a∈nT c g f->a≠(d,e)->a∈nT (c.filter λa=>decide (a≠(d,e))) (g.filter λa=>decide (a≠(d,e))) f:=by
  intro a hl p;unfold nT at hl ⊢;simp only [zt,zv,decide_eq_true_eq] at hl ⊢;rcases hl with hl|hl
  ·exact z2 ⟨⟨hl.1,p⟩,hl.2⟩
  ·exact za ⟨⟨hl.1,p⟩,hl.2⟩
 have l:(!d,e)∉nT c g f:=by
  intro hm;unfold nT at hm;simp only [zt,zv] at hm;rcases hm with hm|hm
  ·exact u hm.1
  ·exact y hm.1
 rcases s c g f t x i.1 j.1 with ⟨r,n,o⟩|⟨b,z,q⟩
 ·refine z2 ⟨r,k _ n ?_,k _ o ?_⟩
  ·intro b;rw [Prod.mk.injEq] at b;obtain ⟨rfl,rfl⟩:=b;exact l o
  ·intro b;rw [Prod.mk.injEq] at b;obtain ⟨rfl,rfl⟩:=b;exact l n
 ·refine za ⟨_,⟨b,z,λhm=>l (q _ hm),rfl⟩,λa hl=>?_⟩;rw [zv,decide_eq_true_eq] at hl;exact k a (q a hl.1) hl.2
theorem aZd:∀(l:List α) (b:List (Bool×α)->Prop),(∀c,b c->∀a∈c,a.2∈l)->aBa b->¬b []->∃v:α->Bool,∀c,b c->∃a∈c,v a.2≠a.1:=by
 intro l;induction l with
 |nil=>
  intro b j _ i;refine ⟨λ_=>true,λc d=>?_⟩;cases c with
  |nil=>exact absurd d i
  |cons a c=>exact absurd (j _ d a (by simp)) (by simp)
 |cons p r ih=>
  intro b j s i;have C:∀f,¬uM b f p []->∃v:α->Bool,∀c,b c->∃a∈c,v a.2≠a.1:=by
   intro f D;obtain ⟨v,L⟩:=ih (uM b f p) (λc d a e=>(aLl j c d a e).1) (aZc s) D;refine ⟨λk=>if k=p then f else v k,λc d=>?_⟩;by_cases y:(!f,p)∈c
   ·exact ⟨_,y,by simp⟩
   ·have t:uM b f p (c.filter λa=>decide (a≠(f,p))):=⟨c,d,y,rfl⟩;obtain ⟨a,e,M⟩:=L _ t;have J:=(aLl j _ t a e).2;refine ⟨a,(zv.1 e).1,?_⟩;simp only;rw [aH J];exact M
  by_cases B:uM b true p []
  ·by_cases x:uM b false p []
   ·exfalso;obtain ⟨c,d,_,o⟩:=B;obtain ⟨g,u,_,q⟩:=x;have E:∀a∈c,a=(true,p):=by
     intro a e;have:=zk.1 o.symm a e;simpa using this
    have G:∀a∈g,a=(false,p):=by intro a e;have:=zk.1 q.symm a e;simpa using this
    have F:(true,p)∈c:=by
     cases c with
     |nil=>exact absurd d i
     |cons a c=>rw [<-E a (by simp)];simp
    have H:(false,p)∈g:=by
     cases g with
     |nil=>exact absurd u i
     |cons a g=>rw [<-G a (by simp)];simp
    have z:nT g c p=[]:=by unfold nT;rw [<-o,<-q];rfl
    rcases s g c p u d H F with ⟨k,m,_⟩|⟨n,I,A⟩
    ·rw [z] at m;simp at m
    ·rw [z] at A;cases n with
     |nil=>exact i I
     |cons a n=>exact absurd (A a (by simp)) (by simp)
   ·exact C false x
  ·exact C true B
end
