import Derived.Test.YtbpiopdphigodaaGreatDoorSSpecP
import Derived.Deep.RegionLaw
import Derived.Deep.RegionHeld3
import Derived.Deep.DeepCutAuto
import Derived.Shelf.Abstract
open List renaming getD_eq_getElem?_getD→zz,getElem?_eq_none→zx,getElem?_append_left→zv,mem_cons→zu,getElem_mem→zt,mem_append→zs,length_nil→zr,length_singleton→zq,mem_cons_of_mem→zp,set_cons_succ→zo,length_append→zn,mem_cons_self→zm,cons_append→zl,length_cons→zk
namespace Go.Proofs.YtbpiopdphigodaaGreatDoor
open Region renaming wanted→zw
open _root_.Go.Proofs.Tryz renaming prog→zy
set_option maxRecDepth 100000
open Go.RowKit
variable{brk:Int}{c:List Lt}{w:World}{st:bA}
theorem nN{u:Array Oper}{a:Oper}{d:Act}{K:Act->World->Prop}{z:Exit->Act->World->Prop}{y:Prop}(F:a.guard=none)(v x:Operand)(m f:TypeId)(L:a.op=.call {callee:=.builtin .append,args:=#[v,x],argTypes:=#[m,m]})
  (s:Value) (b l:Nat) (S:zy.underlying m=some (.slice f)) (H:(zy.info? f).map (λg=>(g.zero,g.size,g.bytes))=some (some s,b,l)) (X:s.cells.size=b) (R:0<b) (E:l<=100) (k:Nat) (o:Value) (e:Nat) (r:List Value) (O:d.eval v=o) (M:w.ownsRow k f b o e r) (a0:e<=10000000) (D:k<=w.heap.size) (q c:Nat) (i:List Value) (U:d.eval x=.slice (some ⟨q,0,none⟩) 1 c) (I:i.length=1*b) (J:∀t n,i[t]?=some n->w.cell? ((⟨q,0,none⟩ : Addr).add t)=some n) (B:∀n∈i,n.oneCell'=true)
  (A:∀p j,j.ownsRow k f b p (e+1) (r++i)->w.grownBy j o.ownBlock->K (d.put a.dst p) j):if zw a (yielded u d.tmps)=true then Oper.wp zy a d w K z else y:=by
 have T:zw a (yielded u d.tmps)=true:=by simp [zw,F]
 rw [aG T];obtain ⟨g,G,W,Q,V⟩:=info_parts H;have C:(e+1)*l<=140737488355328:=Nat.le_trans (Nat.mul_le_mul (show e+1<=10000001 by omega) E) (by decide);obtain ⟨p,j,N,Y,Z,_⟩:=run_append_own (P:=zy) w k m a.type f g s b l S G W Q V X R o e r M ⟨q,0,none⟩ 1 c i I J B (by unfold maxLen;omega) C D;unfold Oper.wp execOp;simp only [L,resolve,invoke,builtin,Sem.run_bind,Sem.run_pure,Result.andThen_ok,List.map_toArray,List.map_cons,List.map_nil,O,U,N];exact A p j Y Z
theorem aIj(w:World)(b:Array Value)(d:TypeId)(a:Nat)(g:Value)(e:b.toList[a]?=some g):(w.alloc (.cells b d)).cell? ((⟨w.heap.size,0,none⟩ : Addr).add a)=some g:=by
 have j:(w.alloc (.cells b d)).heap[w.heap.size]?=some (.cells b d):=by show (w.heap.push _)[w.heap.size]?=_;simp
 simp only [Array.getElem?_toList] at e;have i:(⟨w.heap.size,0,none⟩ : Addr).add a=⟨w.heap.size,a,none⟩:=by
  unfold Addr.add;by_cases f:a=0
  ·simp [f]
  ·simp [f]
 rw [i];unfold World.cell?;rw [j];exact e
def aIk(b:Exit->Act->World->Prop):Exit->Act->World->Prop
 | .panic _,_,_=>False
 |e,a,w=>b e a w
theorem rV{c:Code}{d:Exit->Act->World->Prop}{b:Act}(a:c.wp zy (aIk d) b w):c.wp zy d b w:=
 Code.wp_mono (λe b w a=>by cases e<;>first|exact a|exact False.elim a) a
theorem pP{a:Exit->Act->World->Prop}{b:Act}(d:a .normal b w):aIk a .normal b w:=d
theorem aUv(a:Nd)(b:List Nd):aV (a::b)=.string a.1::.int .i64 a.2::aV b:=rfl
theorem aUw(d:List Nd):∀(a b:Nat),(aV d).set (a*2+1) (.int .i64 b)=aV (eB d a b):=by
 induction d with
 |nil=>intro a b;simp [aV,eB]
 |cons x r ih=>
  intro a b;cases a with
  |zero=>rfl
  |succ a=>
   have:=ih a b;rw [show (a+1)*2+1=a*2+1+1+1 by omega,aUv,zo,zo,this];rfl
structure TL(L T:List Tk)(brk:Int):Prop where
 kind:∀i,(aH L i).kind=(aH T i).kind
 txt:∀i,(aH L i).txt=(aH T i).txt
 pos:∀i,(aH T i).kind≠63->(aH L i).pos=(aH T i).pos
 bad:∀i,i<T.length->zA L brk i=(aH T i).pos
 more:∀i,i<T.length->(aH T i).kind≠101->(aH T i).kind≠63->i+1<T.length
 few:T.length<=1000002
theorem aIl{g:ByteArray}{f e:Nat}{b:Tk}(a:dH g f=.tok b e):b.kind≠101/\b.kind≠63:=by
 unfold dH at a;split at a
 ·split at a
  ·cases a
  ·simp only [Nx.tok.injEq] at a;rw [<-a.1];simp only;split<;>decide
 ·split at a
  ·split at a
   ·simp only [Nx.tok.injEq] at a;rw [<-a.1];exact ⟨by simp,by simp⟩
   ·cases a
  ·split at a
   ·split at a
    ·simp only [Nx.tok.injEq] at a;rw [<-a.1];exact ⟨by simp,by simp⟩
    ·cases a
   ·split at a
    ·rename_i d;simp only [Nx.tok.injEq] at a;rw [<-a.1];simp only;unfold mB at d;simp at d;omega
    ·cases a
theorem aIm(e:ByteArray):∀b d,(∀a∈(bW e b d).1.dropLast,a.kind≠101/\a.kind≠63)/\((bW e b d).2=none->∃j a,(bW e b d).1=j++[a]/\a.kind=101)/\((bW e b d).2≠none->∀a∈(bW e b d).1,a.kind≠101/\a.kind≠63)/\(∀a∈(bW e b d).1,a.kind≠63):=by
 intro b;induction b with
 |zero=>intro d;simp [bW]
 |succ b ih=>
  intro d;rw [bW];split
  ·split
   ·exact ih _
   ·split
    ·exact ih _
    ·split
     ·rename_i a k o;have g:=aIl o;obtain ⟨l,p,q,s⟩:=ih k;refine ⟨?_,?_,?_,?_⟩
      ·intro f hu;simp only at hu;cases hr:(bW e b k).1 with
       |nil=>rw [hr] at hu;simp at hu
       |cons y r=>
        rw [hr] at hu l;rw [List.dropLast_cons_of_ne_nil (by simp)] at hu;rcases zu.1 hu with rfl|hu
        ·exact g
        ·exact l f hu
      ·intro i;obtain ⟨j,f,m,n⟩:=p i;exact ⟨a::j,f,by simp only [m,zl],n⟩
      ·intro i f hu;rcases zu.1 hu with rfl|hu
       ·exact g
       ·exact q i f hu
      ·intro f hu;rcases zu.1 hu with rfl|hu
       ·exact g.2
       ·exact s f hu
     ·simp
  ·refine ⟨by simp,λ_=>⟨[],_,rfl,rfl⟩,by simp,by simp⟩
theorem aIn(d:ByteArray):∀a b,(bW d a b).1.length<=a:=by
 intro a;induction a with
 |zero=>intro b;simp [bW]
 |succ a ih=>
  intro b;rw [bW];split
  ·split
   ·have:=ih (b+1);omega
   ·split
    ·have:=ih (gN d b);omega
    ·split
     ·rename_i g e f;have:=ih e;simp only [zk];omega
     ·simp
  ·simp
theorem zB(e:ByteArray)(v:e.size<=1000000):TL (bW e (e.size+1) 0).1 (eC (bW e (e.size+1) 0)) (aIf (bW e (e.size+1) 0).2):=by
 obtain ⟨_,m,t,_⟩:=aIm e (e.size+1) 0;have q:=aIn e (e.size+1) 0;generalize bW e (e.size+1) 0=r at *;obtain ⟨b,n⟩:=r;simp only at m t q;cases n with
 |none=>
  have j:eC (b,none)=b:=by simp [eC]
  rw [j];refine ⟨λ_=>rfl,λ_=>rfl,λ_ _=>rfl,λa f=>by simp [zA,aH,f],λa f k _=>?_,by omega⟩;obtain ⟨u,x,rfl,s⟩:=m rfl;by_cases o:a=u.length
  ·subst o;exact absurd (by simpa [aH] using s) k
  ·simp at f ⊢;omega
 |some p=>
  have j:eC (b,some p)=b++[⟨63,⟨#[]⟩,p⟩]:=by simp [eC]
  rw [j];have i:∀a,(a<b.length/\aH (b++[⟨63,⟨#[]⟩,p⟩]) a=aH b a)\/(a=b.length/\aH (b++[⟨63,⟨#[]⟩,p⟩]) a=⟨63,⟨#[]⟩,p⟩/\aH b a=tD)\/(b.length<a/\aH (b++[⟨63,⟨#[]⟩,p⟩]) a=tD/\aH b a=tD):=by
   intro a;rcases Nat.lt_trichotomy a b.length with h|h|h
   ·exact Or.inl ⟨h,by simp [aH,zv h]⟩
   ·subst h;exact Or.inr (Or.inl ⟨rfl,by simp [aH],by simp [aH]⟩)
   ·refine Or.inr (Or.inr ⟨h,?_,?_⟩)
    ·unfold aH;rw [zz,zx (by simp;omega)];rfl
    ·unfold aH;rw [zz,zx (by omega)];rfl
  refine ⟨λa=>?_,λa=>?_,λa f=>?_,λa f=>?_,λa f k l=>?_,by simp;omega⟩
  ·rcases i a with ⟨_,h⟩|⟨_,h,d⟩|⟨_,h,d⟩
   ·rw [h]
   ·rw [h,d];rfl
   ·rw [h,d]
  ·rcases i a with ⟨_,h⟩|⟨_,h,d⟩|⟨_,h,d⟩
   ·rw [h]
   ·rw [h,d];rfl
   ·rw [h,d]
  ·rcases i a with ⟨_,h⟩|⟨_,h,d⟩|⟨_,h,d⟩
   ·rw [h]
   ·rw [h] at f;exact absurd rfl f
   ·rw [h,d]
  ·rcases i a with ⟨g,h⟩|⟨g,h,d⟩|⟨g,h,d⟩
   ·rw [h];simp [zA,aH,g]
   ·rw [h];simp [zA,g,aIf]
   ·simp at f;omega
  ·rcases i a with ⟨g,h⟩|⟨g,h,d⟩|⟨g,h,d⟩
   ·simp;omega
   ·rw [h] at l;exact absurd rfl l
   ·simp at f;omega
theorem uO{e:Nat}{g:TypeId}{j:Nat}{d:Value}{b:Nat}{k:List Value}(i:w.ownsRow e g j d b k)(n:0<b):∃a c,d=.slice (some ⟨a,0,none⟩) b c:=by
 obtain ⟨_,⟨rfl,m⟩|⟨a,f,l,rfl,_⟩⟩:=i
 ·omega
 ·exact ⟨a,f,rfl⟩
theorem aUx(a:List Nd)(b:ByteArray):eB (a++[(b,0)]) a.length 0=a++[(b,0)]:=by
 unfold eB;induction a with
 |nil=>rfl
 |cons x r ih=>simpa using ih
theorem aUy{u d:List Tk}(k:TL u d brk):∀i,(∀n st f b g,cB d i n st f=.ok (b,g)->st.i<d.length->b.i<d.length)/\(∀st f p b g q,dW d i st f p=.ok (b,g,q)->st.i+1<d.length->b.i<d.length):=by
 intro i;induction i with
 |zero=>exact ⟨λn st f b g a=>by simp [cB] at a,λst f p b g q a=>by simp [dW] at a⟩
 |succ i ih=>
  obtain ⟨y,s⟩:=ih;constructor
  ·intro n st f b g a l;rw [cB] at a;split at a
   ·rename_i e;simp only [Except.ok.injEq,Prod.mk.injEq] at a;obtain ⟨rfl,rfl⟩:=a;exact k.more _ l (by rw [e.1];decide) (by rw [e.1];decide)
   ·split at a
    ·simp at a
    ·rename_i e;have e:(aH d st.i).kind=110:=by simpa using e
     have r:=k.more _ l (by rw [e];decide) (by rw [e];decide);split at a
     ·rename_i m;split at a
      ·simp at a
      ·rename_i A z B x;simp only [Except.ok.injEq,Prod.mk.injEq] at a;obtain ⟨rfl,rfl⟩:=a;have o:=k.more _ r (by rw [m];decide) (by rw [m];decide);have v:=s _ _ _ _ _ _ x o;exact v
     ·simp only [Except.ok.injEq,Prod.mk.injEq] at a;obtain ⟨rfl,rfl⟩:=a;exact r
  ·intro st f p b g q a l;rw [dW] at a;split at a
   ·simp at a
   ·rename_i A z m;have t:=y _ _ _ _ _ m l;split at a
    ·rename_i j;have o:=k.more _ t (by rw [j];decide) (by rw [j];decide);exact s _ _ _ _ _ _ a o
    ·split at a
     ·rename_i j;simp only [Except.ok.injEq,Prod.mk.injEq] at a;obtain ⟨rfl,rfl,rfl⟩:=a;exact k.more _ t (by rw [j];decide) (by rw [j];decide)
     ·simp at a
theorem uP:(⟨#[]⟩ : ByteArray).size=0:=rfl
theorem aIo(d:ByteArray)(a b:Nat):(d.extract a b).size<=b-a:=by rw [ByteArray.size_extract];omega
theorem aUz(e:ByteArray):∀f i b g d,eO e f i b=some (g,d)->g.size+b<=i.size+d/\d<=e.size:=by
 intro f;induction f with
 |zero=>intro i b g d a;simp [eO] at a
 |succ f ih=>
  intro i b g d a;rw [eO] at a;split at a
  ·split at a
   ·split at a
    ·simp at a;obtain ⟨rfl,rfl⟩:=a;omega
    ·simp at a
   ·split at a
    ·split at a
     ·have j:=ih _ _ _ _ a;have:=aIo e (b+1) (b+2);rw [ByteArray.size_append] at j;omega
     ·simp at a
    ·split at a
     ·simp at a
     ·have j:=ih _ _ _ _ a;have:=aIo e b (b+bB e b);rw [ByteArray.size_append] at j;omega
  ·simp at a
theorem aV0{b:ByteArray}{g e:Nat}{d:Tk}(a:dH b g=.tok d e):d.txt.size<=b.size:=by
 unfold dH at a;split at a
 ·split at a
  ·cases a
  ·simp only [Nx.tok.injEq] at a;rw [<-a.1];simp only;rw [ByteArray.size_extract];omega
 ·split at a
  ·split at a
   ·rename_i i k f;simp only [Nx.tok.injEq] at a;rw [<-a.1];have j:=aUz _ _ _ _ _ _ f;rw [uP] at j;show i.size<=b.size;omega
   ·cases a
  ·split at a
   ·split at a
    ·simp only [Nx.tok.injEq] at a;rw [<-a.1];exact Nat.zero_le _
    ·cases a
   ·split at a
    ·simp only [Nx.tok.injEq] at a;rw [<-a.1];exact Nat.zero_le _
    ·cases a
theorem aV1(f:ByteArray):∀a d,∀e∈(bW f a d).1,e.txt.size<=f.size:=by
 intro a;induction a with
 |zero=>intro d;simp [bW]
 |succ a ih=>
  intro d;rw [bW];split
  ·split
   ·exact ih _
   ·split
    ·exact ih _
    ·split
     ·rename_i e i b;intro g hu;rcases zu.1 hu with rfl|hu
      ·exact aV0 b
      ·exact ih _ g hu
     ·simp
  ·intro e b;simp at b;rw [b];exact Nat.zero_le _
structure wG(L T:List Tk):Prop where
 small:∀i,(aH T i).txt.size<=1000000
 low:∀i,i<L.length->(aH T i).kind≠63/\i<T.length
 rest:∀i,¬i<L.length->(aH T i).kind=63
theorem wH(e:ByteArray)(n:e.size<=1000000):wG (bW e (e.size+1) 0).1 (eC (bW e (e.size+1) 0)):=by
 obtain ⟨_,_,_,k⟩:=aIm e (e.size+1) 0;have j:=aV1 e (e.size+1) 0;generalize bW e (e.size+1) 0=r at *;obtain ⟨d,f⟩:=r;simp only at k j;have i:∀a,(a<d.length/\aH (eC (d,f)) a∈d/\a<(eC (d,f)).length)\/(¬a<d.length/\(aH (eC (d,f)) a).kind=63/\(aH (eC (d,f)) a).txt=⟨#[]⟩):=by
  intro a;by_cases b:a<d.length
  ·refine Or.inl ⟨b,?_,by simp [eC];omega⟩;have:aH (eC (d,f)) a=d[a]:=by simp [aH,eC,zv b,b]
   rw [this];exact zt _
  ·refine Or.inr ⟨b,?_⟩;cases f with
   |none=>
    have:aH (eC (d,none)) a=tD:=by simp only [aH,eC,List.append_nil];rw [zz,zx (by omega)];rfl
    rw [this];exact ⟨rfl,rfl⟩
   |some p=>
    by_cases m:a=d.length
    ·subst m;have:aH (eC (d,some p)) d.length=⟨63,⟨#[]⟩,p⟩:=by simp [aH,eC]
     rw [this];exact ⟨rfl,rfl⟩
    ·have:aH (eC (d,some p)) a=tD:=by simp only [aH,eC];rw [zz,zx (by simp;omega)];rfl
     rw [this];exact ⟨rfl,rfl⟩
 refine ⟨λa=>?_,λa g=>?_,λa g=>?_⟩
 ·rcases i a with ⟨_,b,_⟩|⟨_,_,b⟩
  ·have:=j _ b;omega
  ·rw [b,uP];omega
 ·rcases i a with ⟨_,b,l⟩|⟨b,_⟩
  ·exact ⟨k _ b,l⟩
  ·exact absurd g b
 ·rcases i a with ⟨b,_⟩|⟨_,b,_⟩
  ·exact absurd b g
  ·exact b
def eD(a:List Nd):Prop:=∀x∈a,x.1.size<=1000000
theorem wI{a:List Nd}{x:Nd}(b:eD a)(d:x.1.size<=1000000):eD (a++[x]):=by
 intro e hy;rcases zs.1 hy with hy|hy
 ·exact b e hy
 ·simp at hy;subst hy;exact d
theorem aV2{d:List Nd}(e:eD d)(i j:Nat):eD (eB d i j):=by
 intro k b;unfold eB at b;rw [List.mem_iff_getElem?] at b;obtain ⟨g,a⟩:=b;rw [List.getElem?_modify] at a;cases hq:d[g]? with
 |none=>rw [hq] at a;simp at a
 |some z=>
  rw [hq] at a;have f:=e z (List.mem_of_getElem? hq);simp at a;subst a;split<;>exact f
theorem aV3{p g:List Tk}(s:wG p g):∀f,(∀j st b e d,cB g f j st b=.ok (e,d)->eD b->eD d)/\(∀st b k e d l,dW g f st b k=.ok (e,d,l)->eD b->eD d):=by
 intro f;induction f with
 |zero=>exact ⟨λj st b e d a=>by simp [cB] at a,λst b k e d l a=>by simp [dW] at a⟩
 |succ f ih=>
  obtain ⟨t,n⟩:=ih;constructor
  ·intro j st b e d a i;rw [cB] at a;split at a
   ·simp only [Except.ok.injEq,Prod.mk.injEq] at a;obtain ⟨rfl,rfl⟩:=a;exact wI i (by rw [uP];omega)
   ·split at a
    ·simp at a
    ·have m:=wI (x:=((aH g st.i).txt,0)) i (s.small _);split at a
     ·split at a
      ·simp at a
      ·rename_i v u y r;simp only [Except.ok.injEq,Prod.mk.injEq] at a;obtain ⟨rfl,rfl⟩:=a;exact aV2 (n _ _ _ _ _ _ r m) _ _
     ·simp only [Except.ok.injEq,Prod.mk.injEq] at a;obtain ⟨rfl,rfl⟩:=a;exact m
  ·intro st b k e d l a i;rw [dW] at a;split at a
   ·simp at a
   ·rename_i v u q;have o:=t _ _ _ _ _ q i;split at a
    ·exact n _ _ _ _ _ _ a o
    ·split at a
     ·simp only [Except.ok.injEq,Prod.mk.injEq] at a;obtain ⟨rfl,rfl,rfl⟩:=a;exact o
     ·simp at a
def pQ(w:World)(d:Nat)(a:List (Lt×Value)×Value):Prop:=w.ownsRow d 41 2 a.2 a.1.length (bC a.1)/\∀b∈a.1,w.ownsRow d 43 2 b.2 b.1.2.length (aV b.1.2)
theorem aCn{g:Nat}{i:Value}{P:List (Lt×Value)}(m:w.ownsRow g 41 2 i P.length (bC P))(q:∀a∈P,w.ownsRow g 43 2 a.2 a.1.2.length (aV a.1.2))(v:∀a∈P,eD a.1.2)(y:aS (P.map Prod.fst)<=1000000)(A:P.length<=2000000):∃b e,i=.slice b P.length e/\bP w b (P.map Prod.fst):=by
 obtain ⟨b,e,rfl,s⟩:=sJ m;refine ⟨b,e,rfl,⟨by simp;omega,λd t=>?_⟩⟩;have u:d<P.length:=by simpa using t
 obtain ⟨l,rfl,n,o⟩:=s d u;have f:P[d]∈P:=zt _;have z:=xQ (P.map Prod.fst) P[d].1 (List.mem_map.2 ⟨_,f,rfl⟩);obtain ⟨j,k,x,p⟩:=tR (q _ f) (by omega) (λB r=>by have:=v _ f _ (zt r);omega);refine ⟨l,0,j,k,rfl,?_,?_,?_⟩
 ·simpa using n
 ·rw [Nat.zero_add,o,x];simp
 ·simpa using p
theorem aV4:(zy.info? 29).map (λa=>(a.zero,a.size,a.bytes))=some (some (.slice none 0 0),1,24):=by kernel_rfl
theorem aV5{n:Array Oper}{b:Oper}{a:Act}{w:World}{K:Act->World->Prop}{p:Exit->Act->World->Prop}{o:Prop}(u:b.guard=none)(d:Nat)(j:Array Operand)(A:Array TypeId)
  (x:b.op=.call {callee:=.value (.func d),args:=j,argTypes:=A}) (t:∀m w,(callFunc d m).run zy w=.ok (.enter d m) w) (f:Array Value) (i:j.toList.map a.eval=f.toList) {l:Ending->World->Prop} (s:Calls zy d f w l)
  (q:∀e g,l e g->∃k,e=.returned k/\K (a.put b.dst k) g):if zw b (yielded n a.tmps)=true then Oper.wp zy b a w K p else o:=by
 have z:zw b (yielded n a.tmps)=true:=by simp [zw,u]
 rw [aG z];have y:(execOp a.eval b).run zy w=.ok (.enter d f) w:=by
  have i:j.map a.eval=f:=by apply Array.ext';rw [Array.toList_map];exact i
  subst i;simp [execOp,x,resolve,invoke,t,Act.eval,Deferred.ofValue]
 unfold Oper.wp;rw [y,Oper.upon_enter];exact s.mono λe g r=>by
  obtain ⟨k,rfl,v⟩:=q e g r;exact v
def iJ(a:List Tk)(st:bA):bA:=⟨if (aH a st.i).kind=126 then st.i+1 else st.i,st.vars,st.pz⟩
theorem zC{a:List Tk}{e d:Nat}(b:cB a (a.length+1) true (iJ a st) []=.error d):fN a (e+1) st c=.error d:=by unfold iJ at b;rw [fN,b]
theorem aCo{a:List Tk}{e:Nat}{b:bA}{d:List Nd}(f:cB a (a.length+1) true (iJ a st) []=.ok (b,d))(g:(aH a b.i).kind=124):fN a (e+1) st c=fN a e ⟨b.i+1,b.vars,b.pz⟩ (c++[(decide ((aH a st.i).kind=126),d)]):=by unfold iJ at f;rw [fN,f];simp only;rw [aG g]
theorem aCp{a:List Tk}{f:Nat}{b:bA}{d:List Nd}(e:cB a (a.length+1) true (iJ a st) []=.ok (b,d))(g:(aH a b.i).kind≠124):fN a (f+1) st c=.ok (b,c++[(decide ((aH a st.i).kind=126),d)]):=by unfold iJ at e;rw [fN,e];simp only;rw [aF g]
theorem aCq(a:List Tk)(st:bA):st.i<=(iJ a st).i/\(iJ a st).i<=st.i+1/\(iJ a st).vars=st.vars/\(iJ a st).pz=st.pz:=by unfold iJ;simp only;split<;>simp
theorem aV6{e a:List Tk}(f:TL e a brk){st:bA}(b:st.i<a.length):(iJ a st).i<a.length:=by
 unfold iJ;simp only;split
 ·rename_i d;exact f.more _ b (by rw [d];decide) (by rw [d];decide)
 ·exact b
theorem aIp:eD []:=λb a=>by simp at a
theorem aV7{l a:List Tk}(k:TL l a brk)(hx:wG l a):∀i st c b f,fN a i st c=.ok (b,f)->st.i<a.length->(∀e∈c,eD e.2)->
  (∀e∈f,eD e.2)/\st.i<b.i/\b.i<a.length/\aS f<=aS c+(b.i-st.i)/\f.length<=c.length+(b.i-st.i)/\st.pz.length<=b.pz.length/\b.pz.length<=st.pz.length+(b.i-st.i):=by
 intro i;induction i with
 |zero=>intro st c b f d;simp [fN] at d
 |succ i ih=>
  intro st c b f d q s;cases hq:cB a (a.length+1) true (iJ a st) [] with
  |error p=>rw [zC hq] at d;simp at d
  |ok g=>
   obtain ⟨y,u⟩:=g;obtain ⟨z,A,v,x⟩:=aCq a st;have m:=(uN a (a.length+1)).1 _ _ _ _ _ hq;have r:=(aUy k (a.length+1)).1 _ _ _ _ _ hq (aV6 k q);have t:=(aV3 hx (a.length+1)).1 _ _ _ _ _ hq aIp;rw [v,x] at m;simp only [zr] at m;have n:∀e∈c++[(decide ((aH a st.i).kind=126),u)],eD e.2:=by
    intro e hx;rcases zs.1 hx with hx|hx
    ·exact s e hx
    ·simp at hx;subst hx;exact t
   by_cases j:(aH a y.i).kind=124
   ·rw [aCo hq j] at d;have o:=k.more _ r (by rw [j];decide) (by rw [j];decide);have g:=ih _ _ _ _ d o n;rw [pZ] at g;simp only [zn,zq] at g;refine ⟨g.1,?_⟩;obtain ⟨_,B,C,D,E,F,G⟩:=g;omega
   ·rw [aCp hq j] at d;simp only [Except.ok.injEq,Prod.mk.injEq] at d;obtain ⟨rfl,rfl⟩:=d;refine ⟨n,?_⟩;rw [pZ];simp only [zn,zq];omega
theorem aIq{k b:List Tk}(g:TL k b brk)(e:wG k b){st d:bA}{c:List Lt}(a:jE b st=.ok (d,c))(m:st.i<b.length):(∀j∈c,eD j.2)/\st.i<d.i/\d.i<b.length/\aS c<=b.length/\c.length<=b.length/\st.pz.length<=d.pz.length/\d.pz.length<=st.pz.length+(d.i-st.i):=by
 unfold jE at a;cases hq:jO b st with
 |error p=>rw [hq] at a;simp at a
 |ok r=>
  obtain ⟨z,y⟩:=r;rw [hq] at a;simp only at a;split at a
  ·rename_i f;simp only [Except.ok.injEq,Prod.mk.injEq] at a;obtain ⟨rfl,rfl⟩:=a;unfold jO at hq;split at hq
   ·rename_i l;have o:=g.more _ m (by rw [l];decide) (by rw [l];decide);simp only [Except.ok.injEq,Prod.mk.injEq] at hq;obtain ⟨rfl,rfl⟩:=hq;have i:=g.more _ o (by rw [f];decide) (by rw [f];decide);refine ⟨λj e=>by simp at e,by simp;omega,i,by simp [aS],by simp,by simp,by simp⟩
   ·obtain ⟨q,s,t,u,v,n,x⟩:=aV7 g e _ _ _ _ _ hq m (λj e=>by simp at e);have i:=g.more _ t (by rw [f];decide) (by rw [f];decide);simp only [zr,aS,List.map_nil,List.sum_nil] at s u v n x;refine ⟨q,by simp only;omega,i,?_,by omega,n,by simp only;omega⟩;unfold aS;omega
  ·simp at a
theorem aV8{T:List Tk}(a:(aH T st.i).kind=63):jE T st=.error (aH T st.i).pos:=by
 have d:iJ T ⟨st.i,[],st.pz⟩=⟨st.i,[],st.pz⟩:=by unfold iJ;rw [aF (by simp only;rw [a];decide)]
 have e:cB T (T.length+1) true (iJ T ⟨st.i,[],st.pz⟩) []=.error (aH T st.i).pos:=by rw [d,cB,aF (by simp only;rw [a];exact λb=>absurd b.1 (by decide)),aG (by simp only;rw [a];decide)]
 have f:jO T st=.error (aH T st.i).pos:=by rw [jO,aF (by rw [a];decide)];exact zC e
 rw [jE,f]
theorem aV9(a:List Nd):∀g,eD a->eD (dY a g).1:=by
 have k:∀(a:List Nd) (b:List Nd×List Int),eD a->eD b.1->eD (a.foldl cD b).1:=by
  intro a;induction a with
  |nil=>intro b _ d;exact d
  |cons x r ih=>
   intro b i e;refine ih _ (λl j=>i l (zp _ j)) ?_;have f:=i x (zm ..);unfold cD;split
   ·split
    ·exact wI e (by first|exact f|(rw [uP];omega))
    ·exact wI e (by first|exact f|(rw [uP];omega))
   ·exact wI e f
 exact λg d=>k a ([],g) d aIp
theorem aVa(c:List Lt)(d:∀a∈c,eD a.2):∀a∈(dB c).1,eD a.2:=by
 have i:∀(c:List Lt) (b:List Lt×List Int),(∀a∈c,eD a.2)->(∀a∈b.1,eD a.2)->∀a∈(c.foldl dM b).1,eD a.2:=by
  intro c;induction c with
  |nil=>intro b _ d;exact d
  |cons y r ih=>
   intro b e f;refine ih _ (λj g=>e j (zp _ g)) ?_;intro a hx;unfold dM at hx;simp only at hx;rcases zs.1 hx with hx|hx
   ·exact f a hx
   ·simp at hx;subst hx;exact aV9 _ _ (e y (zm ..))
 exact i c ([],[]) d (λa hx=>by simp at hx)
theorem aVb(c:List Lt):aS (dB c).1=aS c:=by
 have b:∀(c:List Lt) (a:List Lt×List Int),aS (c.foldl dM a).1=aS a.1+aS c:=by
  intro c;induction c with
  |nil=>intro a;simp [aS]
  |cons y r ih=>
   intro a;rw [List.foldl_cons,ih];unfold dM;simp only;rw [pZ];simp only [aS,List.map_cons,List.sum_cons];have:=(vF y.2 a.2).1;omega
 have:=b c ([],[]);simpa [dB,aS] using this
theorem aVc(c:List Lt)(f:∀a∈c,eD a.2):(∀a∈aT c,eD a.2)/\aS (aT c)<=aS c/\(aT c).length<=c.length:=by
 obtain ⟨b,d,e⟩:=rF c;refine ⟨aVa _ λa g=>f a (e a g),?_,?_⟩
 ·unfold aT;rw [aVb];exact d
 ·unfold aT;rw [(rG _).1];exact b
def pR(b:List (Nat×List Lt))(a:Nat)(d:a<b.length):Prop:=40<=a\/cZ (aT b[a].2)=false
def zD(a:List (Nat×List Lt))(i:List (List Lt))(e f:Int):Prop:=
 (∃b d,pR a b d/\(∀g j,g<b->¬pR a g j)/\i=[]/\e=a[b].1/\f=4)\/((∀b d,¬pR a b d)/\i=a.map (λk=>aT k.2)/\e=0/\f=0)
def kO(f:ByteArray)(d:List (List Lt))(a b:Int):Prop:=
 (3000<f.size/\d=[]/\a=0/\b=1)\/(f.size<=3000/\
  match rU f with
  | .error p=>d=[]/\a=p/\b=2
  | .ok (st,cs)=>∃e,uI st.pz e/\((0<=e/\d=[]/\a=e/\b=3)\/(e<0/\zD cs d a b)))
theorem aVd(b f:List Nd)(a e:Nat)(d:a<b.length):eB (b++f) a e=eB b a e++f:=by
 induction b generalizing a with
 |nil=>simp at d
 |cons x t ih=>
  cases a with
  |zero=>rfl
  |succ a=>
   have:=ih a (by simpa using d);unfold eB at this ⊢;simpa using this
theorem aVe(b e:List Nd)(a d:Nat):eB (b++e) (b.length+a) d=b++eB e a d:=by
 induction b with
 |nil=>simp
 |cons x t ih=>
  unfold eB at ih ⊢;simp only [zk,zl];rw [show t.length+1+a=t.length+a+1 by omega];simpa using ih
theorem uQ(a:List Nd)(b d:Nat):(eB a b d).length=a.length:=by simp [eB]
theorem aVf(b:List Nd)(a e d:Nat):eB (eB b a e) a d=eB b a d:=by
 induction b generalizing a with
 |nil=>simp [eB]
 |cons x t ih=>
  cases a with
  |zero=>rfl
  |succ a=>
   have:=ih a;unfold eB at this ⊢;simpa using this
theorem aIr(b:List Tk):∀d,(∀f st a,cB b d f st a=match cB b d f st [] with | .error p=>.error p | .ok (s,r)=>.ok (s,a++r))/\(∀st a e,dW b d st a e=match dW b d st [] e with | .error p=>.error p | .ok (s,r,k)=>.ok (s,a++r,k)):=by
 intro d;induction d with
 |zero=>exact ⟨λf st a=>by simp [cB],λst a e=>by simp [dW]⟩
 |succ d ih=>
  obtain ⟨l,g⟩:=ih;constructor
  ·intro f st a;rw [cB,cB];split
   ·simp
   ·split
    ·simp
    ·split
     ·rw [g _ (a++[((aH b st.i).txt,0)]) 0,g _ ([]++[((aH b st.i).txt,0)]) 0];cases dW b d ⟨st.i+1,st.vars,st.pz++[((aH b st.i).txt,f,0,((aH b st.i).pos:Int))]⟩ [] 0 with
      |error p=>rfl
      |ok r=>
       obtain ⟨j,i,m⟩:=r;simp only [List.nil_append,zr];have:=aVe a ([((aH b st.i).txt,0)]++i) 0 m;rw [List.append_assoc,show a.length=a.length+0 from rfl,this]
     ·simp
  ·intro st a e;rw [dW,dW,l false _ a];cases hq:cB b d false ⟨st.i+1,st.vars,st.pz⟩ [] with
   |error p=>rfl
   |ok r=>
    obtain ⟨j,i⟩:=r;simp only;split
    ·rw [g j (a++i) (e+1),g j i (e+1)];cases dW b d j [] (e+1) with
     |error p=>rfl
     |ok r=>simp
    ·split
     ·rfl
     ·rfl
def mT(a:List Pl):List Value:=a.map λp=>.int .i64 p.2.2.2
theorem aVg(a:List Pl)(b:Pl):mT (a++[b])=mT a++[.int .i64 b.2.2.2]:=by simp [mT]
theorem aVh(b:List Pl)(a d:Nat):mT (oR b a d)=mT b:=by
 induction b generalizing a with
 |nil=>simp [oR]
 |cons x t ih=>
  cases a with
  |zero=>rfl
  |succ a=>
   have:=ih a;unfold oR mT at this ⊢;simpa using this
theorem aVi(a:List Pl)(b d:Nat):(oR a b d).length=a.length:=by simp [oR]
def zE(d:Nat)(w:World)(f:Value)(b:List (List (Lt×Value)×Value)):Prop:=
 w.ownsRow d 29 1 f b.length (b.map Prod.snd)/\∀a∈b,pQ w d a/\(∀e∈a.1,eD e.1.2)/\aS (a.1.map Prod.fst)<=1000000/\a.1.length<=1000000
theorem zE.nil(a:Nat)(w:World):zE a w (.slice none 0 0) []:=⟨World.ownsRow_nil _ _ _ _,λp b=>by simp at b⟩
structure kP(B:Nat)(w:World)(v:Value)(QV:List (List (Lt×Value)×Value)):Prop where
 mem:zE B w v QV
 once:(QV.map λp=>p.2.ownBlock).Nodup
 atoms:(QV.flatMap λp=>p.1.filterMap λq=>q.2.ownBlock).Nodup
theorem kP.nil(a:Nat)(w:World):kP a w (.slice none 0 0) []:=⟨zE.nil _ _,by simp,by simp⟩
