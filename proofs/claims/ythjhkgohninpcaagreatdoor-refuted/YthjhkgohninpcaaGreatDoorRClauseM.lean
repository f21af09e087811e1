import Derived.Test.YthjhkgohninpcaaGreatDoorRefs1M
import Derived.Test.YthjhkgohninpcaaGreatDoorRTermM
import Derived.Deep.AppendLies
import Derived.Deep.RegionLaw
import Derived.Deep.RegionHeld3
import Derived.Deep.SlicePairs
import Derived.SizedLaws
import Derived.Shelf.Strings.BuilderK
import Derived.Shelf.Strings.BuilderRune
import Derived.Shelf.Strings.Search3
import Derived.Shelf.Utf8.RuneCount
import Derived.Shelf.Unicode.ValidAny
import Derived.Shelf.Strconv.Itoa3
import Derived.Test.YthjhkgohninpcaaGreatDoorProg
import Derived.Test.YthjhkgohninpcaaGreatDoorText0M
open List renaming getElem?_eq_some_iff→zv,range→zt,mem_map→zs,take_succ_eq_append_getElem→zr,getElem_mem→zp,mem_append→zl,take_of_length_le→zf,mem_iff_getElem→z6,length→z7,mem_cons→yz,mem_filterMap→yy,mem_cons_self→yw
open Nat renaming le_refl→zx,add_assoc→z8
open Or renaming inr→za,inl→yp
open Prod renaming fst→zy,snd→yi
namespace Go.Proofs.YthjhkgohninpcaaGreatDoor
open Region renaming wanted→zh
open _root_.Go.Proofs.Tryz renaming prog→zz,underlying53→zu,underlying41→zq,underlying9→zo,underlying3→zn,underlying4→zm,ntmps148→zg,func148→ze,zeroValue3→zd,zeroValue4→zc,zeroValue9→zb,underlying106→yx,underlying211→yv,underlying55→yu,sizeOf3→yt,sizeOf4→ys,sizeOf9→yr,zeroValue211→yq,underlying5→yn,underlying0→ym,isAgg3→yl,isAgg4→yk,isAgg9→yj
open Value renaming ownBlock→zw
open World renaming cell?→zj,ownsRow_nil→zi
set_option maxHeartbeats 2000000
set_option maxRecDepth 100000
variable{c:List Lt}{l:List Nd}{xs:List Value}{B n size:Nat}{H:Type}{e:TypeId}{v:Value}{w w' w1:World}
section
open Go.RowKit
def eT(l:List Nd):Bool:=fQ l && !aM (l.headD (⟨#[]⟩,0))
def cG(c:List Lt):Bool:=cD c && (c.all λl=>eT l.2) && decide (c=aU c)
theorem aTl(l:List Nd)(b:List Int):(dF l b).1.map zy=l.map zy:=by
 suffices ∀(l:List Nd) (a:List Nd×List Int),(l.foldl cZ a).1.map zy=a.1.map zy++l.map zy by
  have d:=this l ([],b);simpa [dF] using d
 intro l;induction l with
 |nil=>intro a;simp
 |cons x r ih=>
  intro a;rw [List.foldl_cons,ih];have:(cZ a x).1.map zy=a.1.map zy++[x.1]:=by
   unfold cZ;split
   ·split<;>simp
   ·simp
  rw [this];simp
theorem aTm(c:List Lt):∀a∈(dG c).1,∃b∈c,a.2.map zy=b.2.map zy:=by
 suffices ∀(c:List Lt) (d:List Lt×List Int),∀a∈(c.foldl eG d).1,a∈d.1\/∃b∈c,a.2.map zy=b.2.map zy by
  intro a f;rcases this c ([],[]) a f with h|h
  ·simp at h
  ·exact h
 intro c;induction c with
 |nil=>intro d a f;exact yp f
 |cons b r ih=>
  intro d a f;rcases ih (eG d b) a f with h|⟨j,g,i⟩
  ·rcases zl.1 (show a∈d.1++[(b.1,(dF b.2 d.2).1)] from h) with h|h
   ·exact yp h
   ·simp at h;subst h;exact za ⟨b,by simp,aTl _ _⟩
  ·exact za ⟨j,by simp [g],i⟩
theorem aTn(c:List Lt):∀b∈aU c,∃a∈c,b.2.map zy=a.2.map zy:=by intro b f;obtain ⟨a,g,d⟩:=aTm _ b f;exact ⟨a,(oY c).2.2 a g,d⟩
def uP(c:List Lt):Prop:=∀a∈c,a.2.length<=5864062014805/\∀n∈a.2,n.1.size<=140737488355328
theorem bD.shorts{b:Option Addr}(d:bD w b c):uP c:=by intro o j;obtain ⟨m,g,rfl⟩:=z6.1 j;obtain ⟨_,_,_,_,_,_,_,a⟩:=d.cell m g;refine ⟨a.few,λn i=>?_⟩;obtain ⟨k,f,rfl⟩:=z6.1 i;exact a.short k f
theorem uP.ord(b:uP c):uP (aU c):=by
 intro g o;obtain ⟨a,f,d⟩:=aTn c g o;have i:g.2.length=a.2.length:=by have:=congrArg z7 d;simpa using this
 refine ⟨by rw [i];exact (b a f).1,λn m=>?_⟩;have:n.1∈a.2.map zy:=by rw [<-d];exact zs.2 ⟨n,m,rfl⟩
 obtain ⟨p,j,k⟩:=zs.1 this;rw [<-k];exact (b a f).2 p j
theorem aDn{a:List (Lt×Value)}{b:List Lt}(u:a.map zy=b)(C:w.ownsRow B 55 2 v a.length (bS a))(s:∀i∈a,w.ownsRow B 106 2 i.2 i.1.2.length (aP i.1.2))(x:b.length<=4398046511104)(m:uP b):∃f g,v=.slice f b.length g/\bD w f b:=by
 subst u;obtain ⟨f,g,rfl,t⟩:=sB C;refine ⟨f,g,by simp,x,λd y=>?_⟩;have z:d<a.length:=by simpa using y
 obtain ⟨q,rfl,r,j⟩:=t d z;have D:=s a[d] (zp _);have k:a[d].1∈a.map zy:=zs.2 ⟨a[d],zp _,rfl⟩;obtain ⟨o,p,E,A⟩:=tA D (m _ k).1 (λG F=>(m _ k).2 _ (zp _));rw [E] at j;refine ⟨q,0,o,p,rfl,?_,?_,?_⟩
 ·rw [Nat.zero_add,r];simp
 ·rw [Nat.zero_add,j];simp
 ·simpa using A
theorem aIn:fQ []=false:=by decide
theorem aDo(q:Option Addr)(C:Nat)(c:List Lt)(w:World)(s:bD w q c):Calls zz 118 #[.slice q c.length C] w λe w'=>e=.returned (.bool (cG c))/\aC w w':=by
 have d1:=s.few;have k:=wY q C c w s;by_cases o:cD c=true
 ·have b6:c.length<=8/\aR c<=60:=by simpa [cD] using o
  rw [o] at k;have J:=aA k;have L:=aA s;have z:aG (cG c=((c.all λl=>eT l.2) && decide (c=aU c))):=by unfold cG;rw [o];exact Bool.true_and _▸rfl
  obtain ⟨d0,c9⟩:=b6;clear k o s;go_enter Tryz.func118,Tryz.ntmps118;go_wp2_with (go_at_call 47;refine (aB J).mono ?_;rintro e w' ⟨rfl,rfl⟩);go_loopw [4] (λP wr=>∃b:Nat,b<=c.length/\P=.int .i64 b/\aC w' wr/\((c.take b).all λl=>eT l.2)=true) (λP _=>c.length-(intOf P).toNat);case atStart=>exact ⟨0,Nat.zero_le _,rfl,Below.refl _ _,rfl⟩
  case round=>
   obtain ⟨b,d2,rfl,d,t⟩:=hrel;by_cases a4:b<c.length
   ·obtain ⟨c5,d4,b3,b4,rfl,V,X,m⟩:=L.o.cell b a4;have E:=aD d V;have F:=aD d X;have g:=aU9 b3 b4 c[b].2 wr (m.below d (zx _));have b1:aG (((c.take (b+1)).all λl=>eT l.2)=eT c[b].2):=by
     rw [zr a4,List.all_append,t];exact Bool.and_true _▸rfl
    have S:aG (eT c[b].2=false->cG c=false):=λb8=>by
     rw [z.o,Bool.and_eq_false_iff];left;rw [List.all_eq_false];exact ⟨c[b],zp _,by simp [b8]⟩
    have j:=aA d;have u:=d.size;clear V X t d;generalize c[b]=x at *;obtain ⟨d6,R⟩:=x;simp only at E F m g;by_cases i:fQ R=true
    ·cases R with
     |nil=>rw [aIn] at i;exact absurd i (by simp)
     |cons n0 r=>
      rw [i] at g;obtain ⟨c6,d3,rfl,D,W⟩:=m.cell 0 (by simp);simp only [List.getElem_cons_zero,Nat.zero_mul,Nat.add_zero] at D W;obtain ⟨y,Q⟩:=n0;simp only at D;have A:=aA g;have b7:=m.few;simp only [List.length_cons] at b7 E F;have U:=aD j.o D;have G:eT ((y,Q)::r) = !y.toList.isEmpty:=by simp [eT,i,aM]
      clear g m D W i;cases hv:y.toList.isEmpty
      ·have p:=aA (show eT ((y,Q)::r)=true by rw [G];first|rfl|simp [hv]);clear G;go_wp2_with (first
        |(go_at_call 142;refine (aB A).mono ?_;rintro e I ⟨rfl,a⟩;have c1:=aD a E;have c2:=aD a F;have c3:=aD a U;have f:=aA (j.o.trans (a.mono u));clear a)
        |go_in)
       go_roundw;case rel=>exact ⟨b+1,by omega,by go_num,f.o,by rw [b1.o,p.o]⟩
       case measure=>simp [intOf];omega
      ·have p:=aA (show eT ((y,Q)::r)=false by rw [G];first|rfl|simp [hv]);clear G;go_wp2_with (first
        |(go_at_call 142;refine (aB A).mono ?_;rintro e I ⟨rfl,a⟩;have c1:=aD a E;have c2:=aD a F;have c3:=aD a U;have f:=aA (j.o.trans (a.mono u));clear a)
        |go_in)
       go_ret;exact ⟨bM (S.o p.o).symm,f.o⟩
    ·have N:fQ R=false:=by simpa using i
     rw [N] at g;have A:=aA g;have p:=aA (S.o (by unfold eT;rw [N];rfl));clear g i N m;go_wp2_with (first
      |(go_at_call 142;refine (aB A).mono ?_;rintro e I ⟨rfl,a⟩;have f:=aA (j.o.trans (a.mono u));clear a)
      |go_in)
     go_ret;exact ⟨bM p.o.symm,f.o⟩
   ·have a1:c.take b=c:=zf (by omega);rw [a1] at t;have a6:aG (cG c=decide (c=aU c)):=by rw [z.o,t];exact Bool.true_and _▸rfl
    have j:=aA d;have u:=d.size;have O:=L.o.below d (zx _);have T:=aDt q C c wr O (by omega);have a2:(aU c).length<=8:=by have b5:=(oZ (bY c)).1;have c7:=(oY c).1;have c8:(aU c).length=(bY c).length:=b5;omega
    have a8:=aA a2;have a9:=aA T;have b2:=aA O;clear a1 t d O T a2;go_wp2_with (first
     |(go_at_call 77;refine (aB a9).mono ?_;rintro e I ⟨v,c4,rfl,Y,a5,Z,a⟩;obtain ⟨b9,c0,rfl,a3⟩:=aDn Y a5 Z (by have:=a8.o;omega) L.o.shorts.ord;have b0:=aA (wX q b9 C c0 c (aU c) I (b2.o.below a (zx _)) a3);have f:=aA (j.o.trans (a.mono u));clear Y a5 Z a a3)
     |(go_at_call 14;refine (aB b0).mono ?_;rintro e d5 ⟨rfl,a0⟩;have a7:=aA (aV f.o (aL a0));clear a0)
     |go_in)
    go_ret;exact ⟨bM a6.o.symm,a7.o⟩
 ·have M:cD c=false:=by simpa using o
  rw [M] at k;have z:aG (cG c=false):=by unfold cG;rw [M];rfl
  have J:=aA k;clear k o M s;go_enter Tryz.func118,Tryz.ntmps118;go_wp2_with (go_at_call 47;refine (aB J).mono ?_;rintro e w' ⟨rfl,rfl⟩);go_ret;exact ⟨bM z.o.symm,Below.refl _ _⟩
def eU(w:World)(v b:Value):Prop:=b.ownBlock=v.ownBlock\/∃a,b.ownBlock=some a/\w.heap.size<=a
theorem eU.refl(w:World)(v:Value):eU w v v:=yp rfl
theorem eU.trans{w w1:World}{v d f:Value}(a:eU w v d)(k:eU w1 d f)(i:w.heap.size<=w1.heap.size):eU w v f:=by
 rcases k with k|⟨g,k,b⟩
 ·rcases a with a|⟨g,a,b⟩
  ·exact yp (k.trans a)
  ·exact za ⟨g,k.trans a,b⟩
 ·exact za ⟨g,k,by omega⟩
theorem aIo{f g:World}{m:Value}(a:w.grownBy f v.ownBlock)(d:eU w v m)(b:f.grownBy g m.ownBlock):w.grownBy g v.ownBlock:=
 ⟨b.os.trans a.os,b.tape.trans a.tape,b.output.trans a.output,Nat.le_trans a.size b.size,λk i j=>by
  rw [b.block k (Nat.lt_of_lt_of_le i a.size) (λe=>by
   rcases d with d|⟨o,d,p⟩
   ·exact j (e.trans d)
   ·rw [d] at e;simp at e;omega),a.block k i j]⟩
theorem iA{f:Option Nat}(a:aC w w'):w.grownBy w' f:=⟨a.os,a.tape,a.output,a.size,λd b _=>a.block d b⟩
theorem aTo(l:List Nd):∀b∈aP l,b.oneCell'=true:=by intro b a;simp only [aP,List.mem_flatMap] at a;obtain ⟨n,_,a⟩:=a;simp at a;rcases a with rfl|rfl<;>rfl
def lI(w:World)(B:Nat)(v:Value)(l:List Nd):Prop:=w.ownsRow B 106 2 v l.length (aP l)
theorem lI.shape(b:lI w B v l):∃a n c,v=.slice a n c:=by obtain ⟨a,c,e⟩:=aW b;exact ⟨a,_,c,e⟩
theorem dW{f:Option Nat}(j:w.ownsRow B e size v n xs)(o:w.grownBy w' f)(ho:v.ownBlock=none\/v.ownBlock≠f):w'.ownsRow B e size v n xs:=by
 obtain ⟨b,⟨rfl,k⟩|⟨a,g,i,rfl,m,d,p⟩⟩:=j
 ·exact ⟨b,yp ⟨rfl,k⟩⟩
 ·refine ⟨b,za ⟨a,g,i,rfl,m,?_,p⟩⟩;rw [o.block a (Array.getElem?_eq_some_iff.1 d).1 ?_,d];rintro rfl;rcases ho with ho|ho
  ·simp [zw] at ho
  ·simp [zw] at ho
theorem tO(a:w.ownsRow B e size v n xs):v.ownBlock≠some w.heap.size:=λe=>by have:=(bL a _ e).2;omega
theorem dY{tb:Nat}{b:TypeId}{d:Array Value}(f:w.ownsRow B e size v n xs)(a:w.heap[tb]?=some (.cells d b))(g:e≠b):v.ownBlock≠some tb:=by
 obtain ⟨_,⟨rfl,_⟩|⟨m,j,k,rfl,_,i,_⟩⟩:=f
 ·simp [zw]
 ·simp [zw];rintro rfl;rw [i] at a;simp at a;exact g a.2
theorem kI{a j:Nat}{b:TypeId}{x:Value}{f:Array Value}(d:w.ownsRow B e size v n xs)(g:w.heap[a]?=some (.cells f b))(i:e≠b):(w.setCell ⟨a,j,none⟩ x).ownsRow B e size v n xs:=
 dW d (bX w ⟨a,j,none⟩ x) (za (dY d g i))
theorem aIp(m:w.ownsRow B 106 2 v l.length (aP l)):∃i d,v=.slice i l.length d/\∀a n,l[a]?=some n->∃b,i=some ⟨b,0,none⟩/\w.cell? ⟨b,a*2,none⟩=some (.string n.1)/\w.cell? ⟨b,a*2+1,none⟩=some (.int .i64 n.2):=by
 obtain ⟨o,⟨rfl,p⟩|⟨b,d,k,rfl,q,s,r,t,x,u⟩⟩:=m
 ·refine ⟨none,0,by rw [p],λa n f=>?_⟩;have:=(zv.1 f).1;omega
 ·have j:w.ownsRow B 106 2 (.slice (some ⟨b,0,none⟩) l.length d) l.length (aP l):=⟨o,za ⟨b,d,k,rfl,q,s,r,t,x,u⟩⟩;refine ⟨_,_,rfl,λa n f=>⟨b,rfl,?_,?_⟩⟩
  ·obtain ⟨g,rfl⟩:=zv.1 f;rw [j.cellAt (a*2) (by omega),(uI l a g).1]
  ·obtain ⟨g,rfl⟩:=zv.1 f;rw [j.cellAt (a*2+1) (by omega),(uI l a g).2]
theorem yN(b:w.ownsRow B e size v n xs):∃a d c,v=.slice a d c:=by obtain ⟨a,c,e⟩:=aW b;exact ⟨a,_,c,e⟩
theorem wV(w:World)(a b:Value)(d:TypeId):(w.alloc (.cells #[a,b] d)).cell? ⟨w.heap.size,0,none⟩=some a/\(w.alloc (.cells #[a,b] d)).cell? ⟨w.heap.size,1,none⟩=some b:=by
 have f:(w.alloc (.cells #[a,b] d)).heap[w.heap.size]?=some (.cells #[a,b] d):=by show (w.heap.push _)[w.heap.size]?=_;simp
 constructor
 ·unfold zj;rw [f];rfl
 ·unfold zj;rw [f];rfl
theorem aAs(w:World)(E:Nat)(j s e:TypeId)(b:TypeInfo)(D:Value)(size u:Nat)(C:zz.underlying j=some (.slice e))(y:zz.info? e=some b)(S:b.zero=some D)
  (Q:b.size=size) (I:b.bytes=u) (X:0<size)
  (v:Value) (n:Nat) (xs:List Value) (q:w.ownsRow E e size v n xs) (R:v.ownBlock≠none)
  (k:Addr) (a c:Nat) (g:List Value) (p:g.length=a*size) (z:∀i d,g[i]?=some d->w.cell? (k.add i)=some d) (F:∀d∈g,d.oneCell'=true)
  (G:n+a<=maxLen) (J:(n+a)*u<=140737488355328) {t:Value} {w':World} (f:(Builtin.append_ #[j,j] s #[v,.slice (some k) a c]).run zz w=.ok t w'):t.ownBlock=v.ownBlock\/t.ownBlock=some w.heap.size:=by
 subst Q;subst I
 have W:n+a<=9223372036854775807:=by simp only [maxLen] at G;omega
 rcases q.2 with ⟨rfl,rfl⟩|⟨m,o,x,rfl,T,N,V,U,L,Y⟩
 ·exact absurd rfl R
 ·by_cases A:n+a<=o
  ·have M:n*b.size+g.length<=x.size:=by rw [p,L,<-Nat.add_mul];exact Nat.mul_le_mul_right _ A
   have r:=run_append_room (P:=zz) w j s e b C y m n o x N k a c g p z F A M;rw [r] at f;simp at f;rw [<-f.1];exact yp rfl
  ·have O:∀i d,xs[i]?=some d->w.cell? ((⟨m,0,none⟩ : Addr).add i)=some d:=q.cells (g:=m) rfl;have r:=run_append_grow (P:=zz) w j s e b D C y S ⟨m,0,none⟩ n o xs q.1 O k a c g p z (by omega) (by omega) (growslice_fits (by omega) J);rw [r] at f;simp at f;rw [<-f.1];exact za rfl
theorem wW{d:Array Oper}{i:Nat}{a:Oper}{b:Act}{K:Act->World->Prop}{f:Exit->Act->World->Prop}(k:d[i]?=some a)(j:a.guard=none)(m:(execOp b.eval a).run zz w=.ok (.value v) w')(g:K (b.put a.dst v) w'):wpOp zz d f i K b w:=by
 refine wpOp_step k λo hK=>?_
 rw [aJ (by simp [zh,j])];unfold Oper.wp;rw [m];exact hK _ _ g
theorem aTp(l:List Nd)(a:Nat)(g:Value)(b:(aP l)[a]?=some g):∃d,∃f:d<l.length,(a=d*2/\g=.string l[d].1)\/(a=d*2+1/\g=.int .i64 l[d].2):=by
 have k:a<(aP l).length:=(zv.1 b).1;rw [aCn] at k;have f:a / 2<l.length:=by omega
 obtain ⟨i,j⟩:=uI l (a / 2) f;refine ⟨a / 2,f,?_⟩;rcases Nat.mod_two_eq_zero_or_one a with h0|h0
 ·left;have e:a=a / 2*2:=by omega
  rw [e] at b;rw [i] at b;exact ⟨e,by simpa using b.symm⟩
 ·right;have e:a=a / 2*2+1:=by omega
  rw [e] at b;rw [j] at b;exact ⟨e,by simpa using b.symm⟩
theorem aTq{d:Addr}(k:dO w (some d) l):∀a b,(aP l)[a]?=some b->w.cell? (d.add a)=some b:=by
 intro a b r;obtain ⟨s,q,p⟩:=aTp l a b r;obtain ⟨f,g,m,e,j⟩:=k.cell s q;obtain rfl:d=⟨f,g,none⟩:=by simpa using m
 have o:∀i,(⟨f,g,none⟩ : Addr).add i=⟨f,g+i,none⟩:=λi=>by unfold Addr.add;split<;>simp_all
 rw [o];rcases p with ⟨rfl,rfl⟩|⟨rfl,rfl⟩
 ·exact e
 ·rw [<-z8];exact j
theorem aTr{ty:TypeId}{a:Option Addr}{c:Nat}(d:dO w a l)(t:a=none->c=0):∃v w',(Builtin.append_ #[53,53] ty #[.slice none 0 0,.slice a l.length c]).run zz w=.ok v w'/\w'.ownsRow w.heap.size 106 2 v l.length (aP l)/\w.grownBy w' none:=by
 obtain ⟨g,f,i,j,k⟩:=info_parts nB;have b:=zi w w.heap.size 106 2;have y:=d.few;cases a with
 |none=>
  have p:l=[]:=by
   cases l with
   |nil=>rfl
   |cons x r=>obtain ⟨u,z,m,_⟩:=d.cell 0 (by simp);simp at m
  subst p;rw [t rfl];exact ⟨_,w,run_append_owned_none w w.heap.size 53 ty 106 g 2 zu f _ 0 [] b,b,⟨rfl,rfl,rfl,zx _,λ_ _ _=>rfl⟩⟩
 |some ad=>
  obtain ⟨v,w',s,q,o,_⟩:=run_append_own_at (P:=zz) w w.heap.size 53 ty 106 g (.agg #[.string ⟨#[]⟩,.int .i64 0]) 2 24 zu f i j k rfl (by decide) _ 0 [] b ad l.length c (aP l) (aCn l) (aTq d) (aTo l) (by unfold maxLen;omega) (by omega) (zx _);refine ⟨v,w',s,?_,o⟩;simpa using q
theorem aTs{f:Array Oper}{b:Oper}{a:Act}{w:World}{K:Act->World->Prop}{k:Exit->Act->World->Prop}{j:Prop}(q:b.guard=none)(g i:Operand)
  (s:b.op=.call {callee:=.builtin .append,args:=#[g,i],argTypes:=#[53,53]}) (d:Option Addr) (c:Nat) (l:List Nd) (u:a.eval g=.slice none 0 0) (y:a.eval i=.slice d l.length c) (r:dO w d l) (z:d=none->c=0)
  (m:∀v w',w'.ownsRow w.heap.size 106 2 v l.length (aP l)->w.grownBy w' none->K (a.put b.dst v) w'):if zh b (yielded f a.tmps)=true then Oper.wp zz b a w K k else j:=by
 have x:zh b (yielded f a.tmps)=true:=by simp [zh,q]
 rw [aJ x];obtain ⟨v,w',t,o,p⟩:=aTr (ty:=b.type) r z;unfold Oper.wp execOp;simp only [s,resolve,invoke,builtin,Sem.run_bind,Sem.run_pure,Result.andThen_ok,List.map_toArray,List.map_cons,List.map_nil,u,y,t];exact m v w' o p
def aTt(w:World)(g:Option Addr)(c:List Lt):Prop:=∀d,d<c.length->∀a f i n b,g=some ⟨a,f,none⟩->w.cell? ⟨a,f+d*2+1,none⟩=some (.slice i n b)->n<=b
theorem aDp{a:Nat}{d f:Value}{g:TypeId}(b:w.heap[a]?=some (.cells #[d,f] g)):w.cell? ⟨a,0,none⟩=some d/\w.cell? ⟨a,1,none⟩=some f:=⟨by simp [zj,b],by simp [zj,b]⟩
theorem aDq{a b:Value}{c d:Value}(f:a=c)(g:b=d):Ending.returned (.tuple #[a,b])=.returned (.tuple #[c,d]):=by rw [f,g]
theorem aTu(a:eT l=true):bA l 1=true/\l.length<=60:=by
 have:fQ l=true:=by simp [eT] at a;exact a.1
 simpa [fQ] using this
theorem aTv(w:World)(a:Obj):(w.alloc a).heap[w.heap.size]?=some a:=by show (w.heap.push a)[w.heap.size]?=_;simp
def tP(w:World)(i:Option Addr)(c:List Lt):Prop:=∀f,f<c.length->∀b g a n d,i=some ⟨b,g,none⟩->w.cell? ⟨b,g+f*2+1,none⟩=some (.slice a n d)->a=none->d=0
theorem tP.below{a:Option Addr}(u:tP w a c)(hl:bD w a c)(k:aC w w1):tP w1 a c:=by
 intro p o d q r n t g j;obtain ⟨s,x,b,f,i,_,m,_⟩:=hl.cell p o;obtain ⟨rfl,rfl⟩ : d=s/\q=x:=by rw [g] at i;simpa using i
 have:=aD k m;rw [this] at j;obtain ⟨rfl,rfl,rfl⟩ : b=r/\_=n/\f=t:=by simpa using j
 exact u p o d q b _ f g m
theorem aTw{wr f:World}{xb:Bool}{b:Option Addr}{d:Nat}{a:List Nd}(g:aC wr f)(m:f.heap[wr.heap.size]?=some (.cells #[.bool xb,.slice none 0 0] 55))(k:w1.ownsRow f.heap.size 106 2 (.slice b a.length d) a.length (aP a))(i:f.grownBy w1 none):(w1.setCell ⟨wr.heap.size,1,none⟩ (.slice b a.length d)).cell? ⟨wr.heap.size,0,none⟩=some (.bool xb)/\(w1.setCell ⟨wr.heap.size,1,none⟩ (.slice b a.length d)).cell? ⟨wr.heap.size,1,none⟩=some (.slice b a.length d)/\
   (w1.setCell ⟨wr.heap.size,1,none⟩ (.slice b a.length d)).ownsRow wr.heap.size 106 2 (.slice b a.length d) a.length (aP a)/\aC wr (w1.setCell ⟨wr.heap.size,1,none⟩ (.slice b a.length d)):=by
 have j:wr.heap.size<f.heap.size:=(Array.getElem?_eq_some_iff.1 m).1;have q:w1.heap[wr.heap.size]?=some (.cells #[.bool xb,.slice none 0 0] 55):=by rw [i.block _ j (by simp),m]
 obtain ⟨o,p⟩:=aDp q;refine ⟨?_,World.cell?_setCell_same w1 _ _ p,?_,(g.grown i g.size (λr e=>by simp at e)).setCell (zx _) _⟩
 ·rw [World.cell?_setCell_other w1 _ _ _ (by simp),o]
 ·refine eJ (k.kept (bX w1 _ _) ?_) (Nat.le_of_lt j);right;intro e;have:=(bL k _ e).1;simp at this;omega
theorem aTx{b:List (Lt×Value)}{x:Lt}{f:Nat}(k:((b.map yi).filterMap zw).Nodup)(m:∀d∈b,∀a,d.2.ownBlock=some a->a<f)(o:∀a,v.ownBlock=some a->f<=a):(((b++[(x,v)]).map yi).filterMap zw).Nodup:=by
 rw [List.map_append,List.filterMap_append,List.nodup_append];refine ⟨k,?_,λi p j q=>?_⟩
 ·simp only [List.map_cons,List.map_nil];cases hv:v.ownBlock<;>simp [List.filterMap,hv]
 ·obtain ⟨y,s,t⟩:=yy.1 p;obtain ⟨d,r,rfl⟩:=zs.1 s;obtain ⟨z,g,u⟩:=yy.1 q;simp at g;subst g;have:=m d r i t;have:=o j u;omega
theorem aTy(z:Option Addr)(b5:Nat)(c:List Lt)(w:World)(F:bD w z c)(a2:tP w z c):Calls zz 12 #[.slice z c.length b5] w λe w'=>∃v d,e=.returned v/\d.map zy=c/\w'.ownsRow w.heap.size 55 2 v d.length (bS d)/\(∀b∈d,w'.ownsRow w.heap.size 106 2 b.2 b.1.2.length (aP b.1.2))/\aC w w'/\((d.map yi).filterMap zw).Nodup:=by
 obtain ⟨d1,b7,b8,b9,c0⟩:=info_parts sC;have d4:=F.few;go_enter Tryz.func12,Tryz.ntmps12;go_wp2;go_loopw [3,4] (λd2 M wr=>∃(a:Nat) (d:List (Lt×Value)),a<=c.length/\M=.int .i64 a/\d.map zy=c.take a/\wr.ownsRow w.heap.size 55 2 d2 d.length (bS d)/\(∀b∈d,wr.ownsRow w.heap.size 106 2 b.2 b.1.2.length (aP b.1.2))/\aC w wr/\((d.map yi).filterMap zw).Nodup)
  (λ_ M _=>c.length-(intOf M).toNat)
 case atStart=>exact ⟨0,[],Nat.zero_le _,rfl,rfl,zi _ _ _ _,λb j=>by simp at j,Below.refl _ _,by simp⟩
 case round=>
  obtain ⟨a,d,d5,rfl,k,r,p,f,q⟩:=hrel;have d3:d.length<=a/\a<=d.length:=by have b6:=congrArg z7 k;simp at b6;omega
  by_cases I:a<c.length
  ·obtain ⟨D,b,A,C,rfl,V,E,X⟩:=F.cell a I;have a3:=a2 a I D b A _ C rfl E;have W:=aD f V;have m:=aD f E;have L:c.take (a+1)=c.take a++[c[a]]:=zr I;rw [<-k] at L;have S:=aA (X.below f (zx _));generalize c[a]=x at *;obtain ⟨g,i⟩:=x;simp only at W m S;have b2:=aA L;have Q:=aA p;have b1:=aA r;have a6:=aA f;have a9:=aA q;have b4:=aA a3;have Z:=f.size;clear V E F L k p r f X a2 a3 q;have e1:(0:Int)<=(a:Int):=Int.natCast_nonneg _;have e2:(a:Int)<(c.length:Int):=by omega
   have y:=aA (S.o.below ((Below.refl _ _).alloc (zx _) (.cells #[.bool g,.slice none 0 0] 55)) (zx _));have d6:D<wr.heap.size:=World.block_lt_of_cell? wr _ m;have c9:=World.new_ne wr _ m;have a8:=aA (aD ((Below.refl wr.heap.size wr).alloc (zx _) (.cells #[.bool g,.slice none 0 0] 55)) m);go_wp2_with fail;go_region_law (refine aTs (by rfl) _ _ (by rfl) A C i (by rfl) (by rfl) (by first|exact y.o|exact y.o.drawn ⟨1,rfl⟩|exact y.o.drawn ⟨2,rfl⟩) b4.o ?_;intro v w1 J o;obtain ⟨O,P,rfl⟩:=aW J;have c7:=o.cell (a:=⟨wr.heap.size,1,none⟩) (v:=.slice none 0 0) (by simp) (by simp);have c8:w1.frozen? ⟨wr.heap.size,1,none⟩=false:=(by rw [o.frozen_far _ (by simp) (by simp)];simp);have c6:=o.cell (a:=⟨D,b+a*2+1,none⟩) (v:=.slice A i.length C) a8.o (by simp));all_goals
    have d0:=aTw (xb:=g) (wr:=wr) ((Below.refl _ _).alloc (zx _) (.cells #[.bool g,.slice none 0 0] 55)).drew (aTv wr _) J o;generalize w1.setCell ⟨wr.heap.size,1,none⟩ (.slice O i.length P)=w2 at *;obtain ⟨d7,d8,N,u⟩:=d0;have t:=bB b1.o u (zx _);have a5:=aA (λb j=>bB (Q.o b j) u (zx _));have b3:=aA (eJ N Z);have b0:=aA (aTx a9.o (λb j a e=>(bL (Q.o b j) a e).2) (λa e=>(bL N a e).1) (x:=(g,i)));have R:=aA (a6.o.trans (u.mono Z));have Y:=R.o.size;clear J o c7 c8 c6 N u W m c9;go_wp2_with (first
     |(at_builtin;refine wpList_append_own _ rfl (.tmp 27) (.tmp 29) 41 rfl w.heap.size 55 d1 (.agg #[.bool false,.slice none 0 0]) 2 32 zq b7 b8 b9 c0 rfl (by decide) _ _ _ rfl (t.alloc _) ⟨w2.heap.size,0,none⟩ 1 1 [.bool g,.slice O i.length P] rfl rfl ?c1 ?c2 ?c3 ?c4 ?c5 ?_)
     |go_in)
    case c1=>exact fS _ _ _ _ _ (by simp)
    case c2=>first|exact sD _ _ _ _|exact ⟨rfl,rfl⟩
    case c3=>unfold maxLen;omega
    case c4=>omega
    case c5=>exact Nat.le_trans Y (World.grownBy_alloc _ _ none).size
    intro d9 e0 a1 G _;have U:=aJ0 (x:=(g,i)) (sn:=[]) (s:=.slice none 0 0) (λb j=>(a5.o b j).alloc _) (t.alloc _) (zi _ _ _ _) (b3.o.alloc _) a1 G;have a7:=aA ((R.o.alloc Y _).grown G (by simp;omega) λa e=>(bL t a e).1);have T:=aA U;clear a1 G t U;go_wp2;go_roundw;case rel=>exact ⟨a+1,d++[((g,i),.slice O i.length P)],by omega,by go_num,by rw [b2.o];simp,T.o.2.1,T.o.1,a7.o,b0.o⟩
    case measure=>simp [intOf];omega
  ·have a0:c.take a=c:=zf (by omega);rw [a0] at k;have a4:=aA (And.intro k (And.intro r (And.intro p (And.intro f q))));clear a0 k p r f q;go_wp2;go_ret;exact ⟨_,d,rfl,a4.o⟩
theorem aTz(b:Option Addr)(f:Nat)(c:List Lt)(w:World)(g:bD w b c)(p:tP w b c):Calls zz 12 #[.slice b c.length f] w λe w'=>∃v a,e=.returned v/\a.map zy=c/\w'.ownsRow w.heap.size 55 2 v a.length (bS a)/\(∀d∈a,w'.ownsRow w.heap.size 106 2 d.2 d.1.2.length (aP d.1.2))/\aC w w':=by
 refine (aTy b f c w g p).mono ?_;rintro e w' ⟨v,a,i,j,k,m,o,_⟩;exact ⟨v,a,i,j,k,m,o⟩
end
section
open Go.RowKit Go.ChangeShapes Go.WideShapes
theorem aIq{a:Addr}(d:w.cell? (a.add (0*2))=some v):∃b f,a=⟨b,f,none⟩:=by
 obtain ⟨b,f,g⟩:=a;cases g with
 |none=>exact ⟨b,f,rfl⟩
 |some s=>
  simp only [Addr.add,zj] at d;split at d<;>simp at d
theorem yO(a d b:Nat):(⟨a,d,none⟩ : Addr).add b=⟨a,d+b,none⟩:=by unfold Addr.add;split<;>simp_all
theorem aU0:zz.bytesOf 106=24:=by kernel_rfl
theorem aU1:zz.bytesOf 55=32:=by kernel_rfl
theorem aAt{H:Type}{a:Program}{e:TypeId}{d:DataW H}:∀{b:List (DataW H)},d∈b->∀n∈d.weights a e,n∈DataW.weightsAll a e b
 |[],h,_,_=>by simp at h
 |x::r,h,n,hn=>by
  simp only [DataW.weightsAll,zl];rcases yz.1 h with rfl|h
  ·exact yp hn
  ·exact za (aAt h n hn)
theorem aU2{g:Nat}{b f:Nat->DataW H}{m:List (DataW H)}{a:Nat}(i:a<g)(k:n∈(b a).weights zz 9):n∈(DataW.slice ((zt g).map λa=>.agg [b a,f a]) m).weights zz 53:=by simp only [DataW.weights,zu,yz,zl];right;left;refine aAt (d:=.agg [b a,f a]) (zs.2 ⟨a,List.mem_range.2 i,rfl⟩) n ?_;simp only [DataW.weights,yx];exact DataW.weights_mem_each (j:=0) rfl rfl n k
theorem aU3{g:Nat}{f b:Nat->DataW H}{m:List (DataW H)}{a:Nat}(i:a<g)(k:n∈(b a).weights zz 53):n∈(DataW.slice ((zt g).map λa=>.agg [f a,b a]) m).weights zz 41:=by simp only [DataW.weights,zq,yz,zl];right;left;refine aAt (d:=.agg [f a,b a]) (zs.2 ⟨a,List.mem_range.2 i,rfl⟩) n ?_;simp only [DataW.weights,yu];exact DataW.weights_mem_each (j:=1) rfl rfl n k
theorem aU4{J:TypeId×Value->H}{L:Nat}{x:List Value}{E:DataW H×List MemPlace}(g:DataW.trod J zz w 0 (λ_=>true) true L 53 x=some E)(k:∀n∈E.1.weights zz 53,n<=reachBytes):∃f l j,x=[.slice f (z7 l) j]/\dO w f l/\(f=none->j=0):=by
 rcases Deep.open_slice_pairs zu yx (by kernel_rfl) rfl rfl (by kernel_rfl) (by kernel_rfl) g with ⟨rfl,rfl⟩|⟨f,b,j,m,n,F,G,o,u,U,V,rfl,W,Y,Z,Q,rfl,s⟩
 ·exact ⟨none,[],0,rfl,⟨by decide,λa g=>absurd g (by simp),λa g=>absurd g (by simp)⟩,λ_=>rfl⟩
 ·have P:m=j:=by simpa using Q
  subst P;obtain ⟨y,q⟩:=Deep.choose_lt (α:=Nd) (n:=b) (p:=λd t=>F d=.string t.1/\G d=.int .i64 t.2/\o d=.lit (.string t.1.data.toList)) (λd X=>by
   obtain ⟨_,_,M,N⟩:=s d (by omega);obtain ⟨S,C,O,_⟩:=DataW.trod_string zo M;obtain ⟨T,k,_⟩:=DataW.trod_int zn N;exact ⟨(S,T),by simpa using C,by simpa using k,congrArg zy O⟩)
  have a1:(b+(m-b))*24<=reachBytes:=by have:=k ((((zt b).map λd=>DataW.agg [o d,u d]).length+((zt (m-b)).map λD=>DataW.agg [o (b+D),u (b+D)]).length)*zz.bytesOf 106) (by simp only [DataW.weights,zu];exact yw);rw [aU0] at this;simpa using this
  have a0:=reachBytes_lt;refine ⟨some f,(zt b).map y,m,by simp,⟨by simp;omega,λa r=>?_,λa r=>?_⟩,by simp⟩
  ·have i:a<b:=by simpa using r
   have C:(y a).1.size<=reachBytes:=by refine k _ (aU2 i ?_);rw [(q a i).2.2];simp [DataW.weights]
   simp;omega
  ·have i:a<b:=by simpa using r
   obtain ⟨I,R,rfl⟩:=aIq (s 0 (by omega)).1;obtain ⟨z,A,_⟩:=s a (by omega);rw [yO,(q a i).1] at z;rw [yO,(q a i).2.1] at A;exact ⟨I,R,rfl,by simpa using z,by simpa [z8] using A⟩
theorem aU5{R:TypeId×Value->H}{S:Nat}{F:List Value}{L:DataW H×List MemPlace}(r:DataW.trod R zz w 0 (λ_=>true) true S 41 F=some L)(I:∀n∈L.1.weights zz 41,n<=reachBytes):∃m c x,F=[.slice m (z7 c) x]/\bD w m c/\tP w m c:=by
 rcases Deep.open_slice_pairs zq yu (by kernel_rfl) rfl rfl (by kernel_rfl) (by kernel_rfl) r with ⟨rfl,rfl⟩|⟨m,d,x,t,n,M,N,C,D,a3,a4,rfl,a5,a7,a8,Y,rfl,A⟩
 ·exact ⟨none,[],0,rfl,⟨by decide,λa r=>absurd r (by simp)⟩,λa r=>absurd r (by simp)⟩
 ·have X:t=x:=by simpa using Y
  subst X;obtain ⟨f,s⟩:=Deep.choose_lt (α:=Lt×Option Addr×Nat) (n:=d) (p:=λg k=>M g=.bool k.1.1/\N g=.slice k.2.1 k.1.2.length k.2.2/\dO w k.2.1 k.1.2/\(k.2.1=none->k.2.2=0)) (λg W=>by
   obtain ⟨_,_,T,U⟩:=A g (by omega);obtain ⟨b,a0,a6⟩:=DataW.trod_bool zm T;obtain ⟨u,l,O,a1,z,Z⟩:=aU4 U (λn z=>I n (aU3 W z));exact ⟨((b,l),u,O),by simpa using a0,by simpa using a1,z,Z⟩)
  have b0:(d+(t-d))*32<=reachBytes:=by have:=I ((((zt d).map λg=>DataW.agg [C g,D g]).length+((zt (t-d)).map λJ=>DataW.agg [C (d+J),D (d+J)]).length)*zz.bytesOf 55) (by simp only [DataW.weights,zq];exact yw);rw [aU1] at this;simpa using this
  have a9:=reachBytes_lt;have E:∀a,a<d->∃b i,m=⟨b,i,none⟩/\w.cell? ⟨b,i+a*2,none⟩=some (.bool (f a).1.1)/\w.cell? ⟨b,i+a*2+1,none⟩=some (.slice (f a).2.1 (f a).1.2.length (f a).2.2):=by intro a j;obtain ⟨b,i,rfl⟩:=aIq (A 0 (by omega)).1;obtain ⟨q,o,_⟩:=A a (by omega);rw [yO,(s a j).1] at q;rw [yO,(s a j).2.1] at o;exact ⟨b,i,rfl,q,by simpa [z8] using o⟩
  refine ⟨some m,(zt d).map λg=>(f g).1,t,by simp,⟨by simp;omega,λa y=>?_⟩,λa y b i u n Q V G=>?_⟩
  ·have j:a<d:=by simpa using y
   obtain ⟨b,i,rfl,q,o⟩:=E a j;exact ⟨b,i,(f a).2.1,(f a).2.2,rfl,by simpa using q,by simpa using o,by simpa using (s a j).2.2.1⟩
  ·have j:a<d:=by simpa using y
   obtain ⟨P,a2,rfl,q,o⟩:=E a j;obtain ⟨rfl,rfl⟩ : P=b/\a2=i:=by simpa using V
   rw [o] at G;obtain ⟨rfl,rfl,rfl⟩ : (f a).2.1=u/\(f a).1.2.length=n/\(f a).2.2=Q:=by simpa using G
   exact (s a j).2.2.2
end
section
open Go.Shelf Go.Proofs
def yP:Go.Shelf.Ren:=⟨fun|143=>177|144=>166|195=>167|196=>165|217=>175|219=>181|224=>161|225=>162|259=>176|266=>180|267=>182|314=>183|n=>n,fun|0=>0|3=>3|4=>4|5=>5|9=>9|12=>12|46=>211|51=>229|53=>228|119=>222|138=>224|139=>225|146=>230|n=>n,fun|1=>0|3=>1|4=>2|n=>n⟩
theorem aU6:Lays.n144 zz yP:={
 mixed:=by kernel_rfl
 f143:=Tryz.func177.trans (congrArg some (by kernel_rfl))
 f144:=Tryz.func166.trans (congrArg some (by kernel_rfl))
 f217:=Tryz.func175.trans (congrArg some (by kernel_rfl))
 f219:=Tryz.func181.trans (congrArg some (by kernel_rfl))
 f224:=Tryz.func161.trans (congrArg some (by kernel_rfl))
 f225:=Tryz.func162.trans (congrArg some (by kernel_rfl))
 f266:=Tryz.func180.trans (congrArg some (by kernel_rfl))
 f267:=Tryz.func182.trans (congrArg some (by kernel_rfl))
 f314:=Tryz.func183.trans (congrArg some (by kernel_rfl))
 t3:=zn
 a3:=yl
 z3:=yt
 v3:=zd
 t4:=zm
 a4:=yk
 z4:=ys
 v4:=zc
 t5:=yn
 a5:=Tryz.isAgg5
 z5:=Tryz.sizeOf5
 v5:=Tryz.zeroValue5
 t9:=zo
 a9:=yj
 z9:=yr
 v9:=zb
 t46:=yv
 a46:=Tryz.isAgg211
 z46:=Tryz.sizeOf211
 v46:=yq
 t51:=Tryz.underlying229
 a51:=Tryz.isAgg229
 z51:=Tryz.sizeOf229
 v51:=Tryz.zeroValue229
 t146:=Tryz.underlying230
 a146:=Tryz.isAgg230
 z146:=Tryz.sizeOf230
 v146:=Tryz.zeroValue230
 g1:=by kernel_rfl}
theorem aU7:Lays.n195 zz yP:={
 mixed:=by kernel_rfl
 f195:=Tryz.func167.trans (congrArg some (by kernel_rfl))
 t0:=ym
 a0:=Tryz.isAgg0
 z0:=Tryz.sizeOf0
 v0:=Tryz.zeroValue0
 t3:=zn
 a3:=yl
 z3:=yt
 v3:=zd
 t4:=zm
 a4:=yk
 z4:=ys
 v4:=zc
 t9:=zo
 a9:=yj
 z9:=yr
 v9:=zb}
theorem aIr:Lays.n196 zz yP:={
 mixed:=by kernel_rfl
 f196:=Tryz.func165.trans (congrArg some (by kernel_rfl))
 f259:=Tryz.func176.trans (congrArg some (by kernel_rfl))
 t0:=ym
 a0:=Tryz.isAgg0
 z0:=Tryz.sizeOf0
 v0:=Tryz.zeroValue0
 t3:=zn
 a3:=yl
 z3:=yt
 v3:=zd
 t4:=zm
 a4:=yk
 z4:=ys
 v4:=zc
 t5:=yn
 a5:=Tryz.isAgg5
 z5:=Tryz.sizeOf5
 v5:=Tryz.zeroValue5
 t9:=zo
 a9:=yj
 z9:=yr
 v9:=zb
 t12:=Tryz.underlying12
 a12:=Tryz.isAgg12
 z12:=Tryz.sizeOf12
 v12:=Tryz.zeroValue12
 t46:=yv
 a46:=Tryz.isAgg211
 z46:=Tryz.sizeOf211
 v46:=yq
 t53:=Tryz.underlying228
 a53:=Tryz.isAgg228
 z53:=Tryz.sizeOf228
 v53:=Tryz.zeroValue228
 t119:=Tryz.underlying222
 a119:=Tryz.isAgg222
 z119:=Tryz.sizeOf222
 t138:=Tryz.underlying224
 a138:=Tryz.isAgg224
 z138:=Tryz.sizeOf224
 v138:=Tryz.zeroValue224
 t139:=Tryz.underlying225
 a139:=Tryz.isAgg225
 z139:=Tryz.sizeOf225
 v139:=Tryz.zeroValue225
 g3:=by kernel_rfl
 g4:=by kernel_rfl}
end
section
open Go.RowKit Go.Shelf
def iC(w:World):Prop:=Lib.Utf8Tabs (yP.g 3) (yP.g 4) w
theorem iC.below(a:iC w){B:Nat}(k:Below B w w1)(b:w.heap.size<=B):iC w1:=
 ⟨λc g=>Below.at' k b (a.1 c g),λf d=>⟨Below.at' k b (a.2 f d).1,Below.at' k b (a.2 f d).2⟩⟩
theorem aU8(a:ByteArray)(w:World)(y:a.size<=140737488355328)(j:iC w):Calls zz 148 #[.string a] w λe w'=>e=.returned (.bool (gE a))/\aC w w':=by
 by_cases u:a.size<=80
 ·have p:Calls zz 165 #[.string a] w _:=Any.utf8_ValidString aIr a w (by omega) j;have m:=λg=>(Any.strings_Contains_one aU6 a 10 g:Calls zz 166 #[.string a,.string ⟨#[10]⟩] g _)
  have o:=λg=>(Any.utf8_RuneCountInString aU7 a g (by omega):Calls zz 167 #[.string a] g _)
  have q:=aVy a;have x:=Lib.runeCount_le a;generalize Lib.validD a.data.toList=v at *;generalize decide (0<=Lib.indexByte a.data.toList 10)=n at *;generalize Lib.runeCount a=r at *;have f:=aA q;have i:=aA p;have k:=aA m;have s:=aA o;clear q p m o j;cases v
  ·go_enter ze,zg;go_wp2_with (go_at_call 165;refine (aB i).mono ?_;rintro e w' ⟨rfl,b⟩;have d:=aA b;clear b);go_ret;exact ⟨bM (by rw [f.o];rfl),d.o⟩
  ·cases n
   ·go_enter ze,zg;go_wp2_with (first
     |(go_at_call 165;refine (aB i).mono ?_;rintro e w' ⟨rfl,b⟩;have d:=aA b;clear b)
     |(go_at_call 166;refine (aB k _).mono ?_;rintro e t ⟨rfl,rfl⟩)
     |(go_at_call 167;refine (aB s _).mono ?_;rintro e A ⟨rfl,z,rfl⟩))
    all_goals
     go_ret;refine ⟨bM ?_,d.o.alloc d.o.size _⟩;rw [f.o,Bool.eq_iff_iff];simp;omega
   ·go_enter ze,zg;go_wp2_with (first
     |(go_at_call 165;refine (aB i).mono ?_;rintro e w' ⟨rfl,b⟩;have d:=aA b;clear b)
     |(go_at_call 166;refine (aB k _).mono ?_;rintro e t ⟨rfl,rfl⟩))
    go_ret;exact ⟨bM (by rw [f.o];rfl),d.o⟩
 ·have f:aG (gE a=false):=by
   cases h:gE a
   ·exact rfl
   ·have:=(aJk a h).2;omega
  clear j;go_enter ze,zg;go_wp2;go_ret;exact ⟨bM f.o.symm,Below.refl _ _⟩
end
