import Derived.Test.YtmelidkanelpbaaGreatDoorUAppG
import Derived.Test.YtmelidkanelpbaaGreatDoorOOrderG
import Derived.Lib.SliceRun
import Derived.Laws.Tables
open Array renaming getElem?_eq_some_iff→zy,getElem?_eq_getElem→zn,replicate→z0
open List renaming getElem?_eq_some_iff→zx,getElem?_eq_getElem→zw,replicate→zu,getElem?_append_left→zt,take_succ_eq_append_getElem→zr,getElem?_eq_none→zq,length_set→zp,drop_eq_getElem_cons→zo,not_of_lt_findIdx→zm,findIdx_getElem→zl,take_take→zk,findIdx_append→zj,take_set_of_le→zh,length_append→zf,getElem?_map→ze,any_eq_true→zb,getElem_mem→za
open Nat renaming le_refl→zv,add_comm→zd
open Or renaming inl→zg
open Prod renaming snd→zs
namespace Go.Proofs.YtmelidkanelpbaaGreatDoor
open _root_.Go.Proofs.Tryz renaming prog→zz,underlying28→zc
open Go.RowKit Go.Shelf Go.WideMaps
set_option maxHeartbeats 8000000
set_option maxRecDepth 100000
variable{ks:List Nat}{L:List Nd}{B k n p:Nat}{w:World}
def bI(M:List Tg)(p:Nat):Nat:=match M[p]? with|some t=>if aK t.2 then M.findIdx (fI t.1 t.2.2) else p|none=>p
theorem pY{M:List Tg}(a:M.length<=p):bI M p=p:=by unfold bI;rw [zq a]
theorem lM{a:List Tg}{b:Tg}(c:a[p]?=some b)(d:aK b.2=false):bI a p=p:=by unfold bI;rw [c];simp [d]
theorem kC{b:List Tg}{a:Tg}(e:b[p]?=some a)(g:aK a.2=true):bI b p=b.findIdx (fI a.1 a.2.2)/\bI b p<=p/\∃d,b[bI b p]?=some d/\aK d.2=true/\d.1=a.1/\d.2.2=a.2.2:=by
 have l:=(zx.1 e).1;have i:b[p]=a:=(zx.1 e).2;have j:fI a.1 a.2.2 a=true:=by simp [fI,g]
 have f:bI b p=b.findIdx (fI a.1 a.2.2):=by unfold bI;rw [e];simp [g]
 have m:b.findIdx (fI a.1 a.2.2)<=p:=by apply Nat.le_of_not_lt;intro c;have:=zm c;rw [i,j] at this;cases this
 have c:b.findIdx (fI a.1 a.2.2)<b.length:=by omega
 refine ⟨f,by omega,b[b.findIdx (fI a.1 a.2.2)],by rw [f];exact zw c,?_⟩;have:=zl (w:=c);simpa [fI] using this
def bAh(c:List Tg)(p d:Nat):Prop:=p=d\/∃a b,c[p]?=some a/\c[d]?=some b/\aK a.2=true/\aK b.2=true/\a.1=b.1/\a.2.2=b.2.2
theorem bAi(b:List Tg)(p c:Nat):bI b p=bI b c↔bAh b p c:=by
 constructor
 ·intro e;by_cases m:∃g,b[p]?=some g/\aK g.2=true
  ·obtain ⟨g,u,x⟩:=m;obtain ⟨F,G,E,f,A,C,D⟩:=kC u x;by_cases d:∃a,b[c]?=some a/\aK a.2=true
   ·obtain ⟨a,j,l⟩:=d;obtain ⟨y,z,v,i,q,r,s⟩:=kC j l;rw [e,i] at f;simp at f;subst f;exact Or.inr ⟨g,a,u,j,x,l,by rw [<-C,r],by rw [<-D,s]⟩
   ·exfalso;have o:bI b c=c:=by
     cases hm:b[c]? with
     |none=>exact pY (by simpa using hm)
     |some a=>
      refine lM hm ?_;cases hv:aK a.2
      ·rfl
      ·exact absurd ⟨a,hm,hv⟩ d
    rw [e,o] at f;exact d ⟨E,f,A⟩
  ·have t:bI b p=p:=by
    cases hm:b[p]? with
    |none=>exact pY (by simpa using hm)
    |some a=>
     refine lM hm ?_;cases hv:aK a.2
     ·rfl
     ·exact absurd ⟨a,hm,hv⟩ m
   by_cases d:∃a,b[c]?=some a/\aK a.2=true
   ·obtain ⟨a,j,l⟩:=d;obtain ⟨y,z,v,i,q,r,s⟩:=kC j l;rw [<-e,t] at i;exact absurd ⟨v,i,q⟩ m
   ·have o:bI b c=c:=by
     cases hm:b[c]? with
     |none=>exact pY (by simpa using hm)
     |some a=>
      refine lM hm ?_;cases hv:aK a.2
      ·rfl
      ·exact absurd ⟨a,hm,hv⟩ d
    rw [t,o] at e;exact zg e
 ·rintro (rfl|⟨g,a,h1,h2,h3,h4,h5,h6⟩)
  ·rfl
  ·rw [(kC h1 h3).1,(kC h2 h4).1,h5,h6]
def rZ(a:List Tg):List Nat:=(List.range a.length).map λp=>bI a p
theorem mY(M:List Tg):(rZ M).length=M.length:=by simp [rZ]
theorem uX{M:List Tg}(a:p<M.length):(rZ M)[p]?=some (bI M p):=by simp [rZ,a]
theorem aBm{a c:List Tg}(d:p<a.length):bI (a++c) p=bI a p:=by
 have b:a[p]?=some a[p]:=zw d;have e:(a++c)[p]?=some a[p]:=by rw [zt d,b]
 cases hv:aK a[p].2
 ·rw [lM b hv,lM e hv]
 ·obtain ⟨f,g,o,i,j,l,m⟩:=kC b hv;rw [(kC e hv).1,f,zj,aI (by omega)]
theorem bAj{a:List Tg}(c:p<a.length):oD (a.take p) a[p].1 a[p].2=bI a p:=by
 have e:a[p]?=some a[p]:=zw c;have b:(a.take p).length=p:=by simp;omega
 unfold oD;rw [b];cases hv:aK a[p].2
 ·rw [lM e hv];rfl
 ·obtain ⟨g,l,_⟩:=kC e hv;rw [aI rfl,g];have j:a=a.take p++a.drop p:=(List.take_append_drop p a).symm;have i:a.findIdx (fI a[p].1 a[p].2.2)=if (a.take p).findIdx (fI a[p].1 a[p].2.2)<(a.take p).length then (a.take p).findIdx (fI a[p].1 a[p].2.2) else (a.drop p).findIdx (fI a[p].1 a[p].2.2)+(a.take p).length:=by
   generalize fI a[p].1 a[p].2.2=f;conv=>lhs;rw [j]
   rw [zj]
  unfold jU;rw [i,b];split
  ·rename_i d;rw [List.findIdx?_eq_some_iff_findIdx_eq.2 ⟨by rw [b];exact d,rfl⟩];rfl
  ·rename_i d;rw [List.findIdx?_eq_none_iff_findIdx_eq.2 (by have:=List.findIdx_le_length (xs:=a.take p) (p:=fI a[p].1 a[p].2.2);omega)];rw [zo c,List.findIdx_cons];have:fI a[p].1 a[p].2.2 a[p]=true:=by simp [fI,hv]
   simp [this]
theorem aMm(M:List Tg)(b:Int)(a:List Nd):rZ (M++a.map λn=>(b,n))=rZ M++iS M b a a.length:=by
 apply List.ext_getElem?;intro p;by_cases c:p<M.length
 ·rw [uX (by simp;omega),zt (by rw [mY];exact c),uX c,aBm c]
 ·rw [List.getElem?_append_right (by rw [mY];omega),mY];by_cases f:p-M.length<a.length
  ·have d:p<(M++a.map λn=>(b,n)).length:=by simp;omega
   rw [uX d,<-bAj d];have e:(M++a.map λn=>(b,n))[p]=(b,a[p-M.length]):=by rw [List.getElem_append_right (by omega)];simp
   rw [e];have g:(M++a.map λn=>(b,n)).take p=M++(a.take (p-M.length)).map λn=>(b,n):=by rw [List.take_append,List.take_of_length_le (by omega),List.map_take]
   rw [g];simp [iS,f]
  ·rw [zq (by rw [mY];simp;omega),zq (by rw [aMa];omega)]
theorem aFf(b:List Tg):gF (rZ b) (bI b) (λp=>if bI b p=p then 0 else 1):=by
 refine ⟨λp q a=>?_,λp a=>?_,λp q a e=>?_,λp a=>pY (by rw [mY] at a;exact a)⟩
 ·have c:=(zx.1 a).1;rw [mY] at c ⊢;rw [uX c] at a;simp at a;subst a;have d:b[p]?=some b[p]:=zw c;cases hv:aK b[p].2
  ·rw [lM d hv];exact c
  ·have:=(kC d hv).2.1;omega
 ·have c:=(zx.1 a).1;rw [mY] at c;rw [uX c] at a;simpa using a
 ·have c:=(zx.1 a).1;rw [mY] at c;rw [uX c] at a;simp at a;subst a;have d:b[p]?=some b[p]:=zw c;cases hv:aK b[p].2
  ·rw [lM d hv] at e;exact absurd rfl e
  ·obtain ⟨i,r,s,j,l,m,o⟩:=kC d hv;have f:bI b p=bI b (bI b p):=by
    rw [(kC j l).1,i,m,o]
   refine ⟨f,?_⟩;rw [aI f.symm,aH (λg=>e g)];exact Nat.zero_lt_one
theorem bAk(a:List Tg):eA (aG (a.map zs)) (λl m=>bI a l=bI a m) λ_ _=>False:=by
 intro o q e j t;rcases (bAi a o q).1 e with rfl|⟨v,x,f,r,g,s,_⟩
 ·refine ⟨rfl,λk p u i c=>?_⟩;rw [i] at c;simp at c;subst c;exact eJ.refl _
 ·obtain ⟨n,b,d⟩:=nS j;rw [ze,f] at b;simp at b;subst b;rw [g] at d;cases d
theorem bAl(a:List Tg):kW (a.map zs) (bI a):=by intro p c;obtain ⟨n,b,d⟩:=nS c;rw [ze] at b;obtain ⟨g,e,f⟩:=Option.map_eq_some_iff.1 b;subst f;rw [lM e d];exact c
theorem tL{t:List Nd}(d:eU L){p:Nat}(b:p<L.length):(aG (L++t)).ch p=(aG L).ch p:=by
 have a:L[p]?=some L[p]:=zw b;have c:(L++t)[p]?=some L[p]:=by rw [zt b,a]
 rw [lT a,lT c,List.drop_append_of_le_length (by omega),aUn _ _ _ _ (d p _ a)]
theorem bAm{c:Nat->Nat->Prop}(s:∀o,c o o):∀(b:List Nd) (k a:Nat),b=L.drop a->dZ b k->(∀f∈gZ b k a,cE (aG L) c f)->∀p,a<=p->p<a+aO b k->cE (aG L) c p:=by
 intro b;induction b with
 |nil=>
  intro k a _ _ _ p q d;cases k<;>simp [aO] at d<;>omega
 |cons n r ih=>
  intro k a j g m p q d;cases k with
  |zero=>simp at d;omega
  |succ k=>
   have e:L[a]?=some n:=by have:=congrArg (λv=>v[0]?) j;simpa using this.symm
   have i:r=L.drop (a+1):=by have:=congrArg List.tail j;simpa using this
   have x:=(zx.1 e).1;have l:cE (aG L) c a:=m a (by rw [mM];simp);by_cases u:p=a
   ·subst u;exact l
   ·simp only [dZ] at g;simp only [aO] at d;refine ih (k+aX n) (a+1) i g (λf hxm=>?_) p (by omega) (by omega);rw [zd k,aUm] at hxm;rcases List.mem_append.1 hxm with hxm|hxm
    ·cases hv:aK n
     ·refine l.parts (s a) ((fO e).2 hv) ?_;rw [lT e,<-i];exact hxm
     ·rw [jS hv] at hxm;simp [gZ] at hxm
    ·refine m f ?_;rw [mM];refine List.mem_cons_of_mem _ ?_;have t:aO (n::r) 1=1+aO r (aX n):=by simp [aO]
     rw [t,zd 1,List.drop_succ_cons,show a+(aO r (aX n)+1)=a+1+aO r (aX n) by omega];exact hxm
theorem aMn{a:Nat->Nat->Prop}(d:∀i,a i i)(e:eU L){i:Nat}(f:i<L.length)(c:cE (aG L) a i):∀p,i<=p->p<i+aO (L.drop i) 1->cE (aG L) a p:=
 bAm d _ 1 i rfl (e.one f) λg b=>by
  simp [gZ] at b;subst b;exact c
theorem bAn{a:Nat}(b:w.heap[a]?=some (.map #[] 0)):w.ownsMap zz 185 fQ a 0 (.map []):=by
 have e:=(zy.1 b).1;have c:(World.alloc {w with heap:=w.heap.extract 0 a} (.map #[] 0)).ownsMap zz 185 fQ ({w with heap:=w.heap.extract 0 a}:World).heap.size 0 (.map []):=World.ownsMap_made _ _ _ _;have d:({w with heap:=w.heap.extract 0 a}:World).heap.size=a:=by simp;omega
 rw [d] at c;refine aFd c ?_;rw [b];have:=heap_alloc_new ({w with heap:=w.heap.extract 0 a}:World) (.map #[] 0);rw [d] at this;exact this.symm
theorem aBn{b:World}{d:Nat}{a:Array Value}{c:TypeId}(f:B<=k)(e:b.heap[k]?=some (.cells a c))(g:a.size=n*d)(i:n<=1000000):b.ownsRow B c d (.slice (some ⟨k,0,none⟩) 0 n) 0 []:=
 ⟨by simp,Or.inr ⟨k,n,a,rfl,f,e,Nat.zero_le _,by unfold maxLen;omega,g,by simp⟩⟩
structure aFg(w:World)(tb mp:Nat)(vn ve vl vs:Value)(w':World):Prop where
 tm:cK w' w.heap.size tb vn ve vl vs (.map (some mp)) [] [] [] []
 first:gK w' mp []
 low:aB w w'
 ne:mp≠tb
 mlow:w.heap.size<=mp
theorem bAo{a:World}{i b c d e tb:Nat}{l f:Array Value}(g:n<=1000000)(D:l.size=n*2)(j:f.size=n*1)(A:aB w a)(v:a.heap[i]?=some (.cells l 117))(x:a.heap[b]?=some (.cells f 3))(y:a.heap[c]?=some (.cells f 3))(z:a.heap[d]?=some (.cells f 3))(C:a.heap[e]?=some (.map #[] 0))
  (E:a.heap[tb]?=some (.cells #[.slice (some ⟨i,0,none⟩) 0 n,.slice (some ⟨b,0,none⟩) 0 n,.slice (some ⟨c,0,none⟩) 0 n,.slice (some ⟨d,0,none⟩) 0 n,.map (some e)] 165))
  (F:w.heap.size<=i/\w.heap.size<=b/\w.heap.size<=c/\w.heap.size<=d/\w.heap.size<=e/\w.heap.size<=tb) (G:b≠c/\b≠d/\c≠d/\e≠tb):aFg w tb e (.slice (some ⟨i,0,none⟩) 0 n) (.slice (some ⟨b,0,none⟩) 0 n) (.slice (some ⟨c,0,none⟩) 0 n) (.slice (some ⟨d,0,none⟩) 0 n) a:=by
 obtain ⟨m,o,q,r,s,t⟩:=F;obtain ⟨H,I,J,u⟩:=G;refine ⟨⟨E,t,aBn m v D g,aBn o x j g,aBn q y j g,aBn r z j g,?_,?_,?_,?_,?_,?_⟩,⟨0,.map [],bAn C,oE.start,zv _⟩,A,u,s⟩;all_goals simp [Value.ownBlock]
 all_goals assumption
abbrev Ob:=Option Nat
def vS(n:Nat):Ob->Value
 |some k=>.slice (some ⟨k,0,none⟩) 0 n
 |none=>undef
def vM:Ob->Value
 |some k=>.map (some k)
 |none=>undef
def aMo(a b c d e:Ob):Array Bool:=#[true,a.isSome,true,b.isSome,true,c.isSome,true,d.isSome,e.isSome,false,false,false]
def pA(n:Nat)(a b c d e:Ob):Act:={tmps:=#[.int .i64 n,undef,.pointer none,.int .i64 n,vS n a,.int .i64 n,vS n b,.int .i64 n,vS n c,.int .i64 n,vS n d,vM e,undef,undef],defers:=[]}
def sA(a b c d e:Bool):List Nat:=(if a then [] else [1])++(if b then [] else [3])++(if c then [] else [5])++(if d then [] else [7])++(if e then [] else [8])
def qY(a b c d e:Ob):List Nat:=sA a.isSome b.isSome c.isSome d.isSome e.isSome
structure fY(w:World)(c1 c2:Array Value)(o1 o2 o3 o4 o5:Ob)(W:World):Prop where
 low:aB w W
 h1:∀k,o1=some k->w.heap.size<=k/\W.heap[k]?=some (.cells c1 117)
 h2:∀k,o2=some k->w.heap.size<=k/\W.heap[k]?=some (.cells c2 3)
 h3:∀k,o3=some k->w.heap.size<=k/\W.heap[k]?=some (.cells c2 3)
 h4:∀k,o4=some k->w.heap.size<=k/\W.heap[k]?=some (.cells c2 3)
 h5:∀k,o5=some k->w.heap.size<=k/\W.heap[k]?=some (.map #[] 0)
 n23:∀k,o2=some k->o3≠some k
 n24:∀k,o2=some k->o4≠some k
 n34:∀k,o3=some k->o4≠some k
section
variable {w W:World}{c1 c2:Array Value}{o1 o2 o3 o4 o5:Ob}
theorem fY.start(b:aB w W):fY w c1 c2 none none none none none W:=⟨b,(λ_ a=>nomatch a),(λ_ a=>nomatch a),(λ_ a=>nomatch a),(λ_ a=>nomatch a),(λ_ a=>nomatch a),(λ_ a=>nomatch a),(λ_ a=>nomatch a),(λ_ a=>nomatch a)⟩
theorem fY.lt(b:fY w c1 c2 o1 o2 o3 o4 o5 W):(o1≠some W.heap.size/\o2≠some W.heap.size)/\o3≠some W.heap.size/\o4≠some W.heap.size/\o5≠some W.heap.size:=by
 refine ⟨⟨λa=>?_,λa=>?_⟩,λa=>?_,λa=>?_,λa=>?_⟩
 ·have:=(zy.1 (b.h1 _ a).2).1;omega
 ·have:=(zy.1 (b.h2 _ a).2).1;omega
 ·have:=(zy.1 (b.h3 _ a).2).1;omega
 ·have:=(zy.1 (b.h4 _ a).2).1;omega
 ·have:=(zy.1 (b.h5 _ a).2).1;omega
theorem zK{b c:Obj}(a:W.heap[k]?=some b):(W.alloc c).heap[k]?=some b:=by rw [heap_alloc_old W c (zy.1 a).1,a]
theorem fY.alloc(a:fY w c1 c2 o1 o2 o3 o4 o5 W)(x:Obj):fY w c1 c2 o1 o2 o3 o4 o5 (W.alloc x):=
 ⟨a.low.alloc a.low.size x,λk b=>⟨(a.h1 k b).1,zK (a.h1 k b).2⟩,λk b=>⟨(a.h2 k b).1,zK (a.h2 k b).2⟩,λk b=>⟨(a.h3 k b).1,zK (a.h3 k b).2⟩,λk b=>⟨(a.h4 k b).1,zK (a.h4 k b).2⟩,λk b=>⟨(a.h5 k b).1,zK (a.h5 k b).2⟩,a.n23,a.n24,a.n34⟩
theorem fY.s1(b:fY w c1 c2 o1 o2 o3 o4 o5 W):fY w c1 c2 (some W.heap.size) o2 o3 o4 o5 (W.alloc (.cells c1 117)):=by have k:=b.alloc (.cells c1 117);exact ⟨k.low,λc a=>by simp at a;subst a;exact ⟨b.low.size,heap_alloc_new _ _⟩,k.h2,k.h3,k.h4,k.h5,k.n23,k.n24,k.n34⟩
theorem fY.s2(b:fY w c1 c2 o1 o2 o3 o4 o5 W):fY w c1 c2 o1 (some W.heap.size) o3 o4 o5 (W.alloc (.cells c2 3)):=by have k:=b.alloc (.cells c2 3);exact ⟨k.low,k.h1,λc a=>by simp at a;subst a;exact ⟨b.low.size,heap_alloc_new _ _⟩,k.h3,k.h4,k.h5,λc a=>by simp at a;subst a;exact b.lt.2.1,λc a=>by simp at a;subst a;exact b.lt.2.2.1,k.n34⟩
theorem fY.s3(b:fY w c1 c2 o1 o2 o3 o4 o5 W):fY w c1 c2 o1 o2 (some W.heap.size) o4 o5 (W.alloc (.cells c2 3)):=by have k:=b.alloc (.cells c2 3);exact ⟨k.low,k.h1,k.h2,λd a=>by simp at a;subst a;exact ⟨b.low.size,heap_alloc_new _ _⟩,k.h4,k.h5,λd a c=>by simp at c;subst c;exact b.lt.1.2 a,k.n24,λd a=>by simp at a;subst a;exact b.lt.2.2.1⟩
theorem fY.s4(c:fY w c1 c2 o1 o2 o3 o4 o5 W):fY w c1 c2 o1 o2 o3 (some W.heap.size) o5 (W.alloc (.cells c2 3)):=by have k:=c.alloc (.cells c2 3);exact ⟨k.low,k.h1,k.h2,k.h3,λd a=>by simp at a;subst a;exact ⟨c.low.size,heap_alloc_new _ _⟩,k.h5,k.n23,λd a b=>by simp at b;subst b;exact c.lt.1.2 a,λd a b=>by simp at b;subst b;exact c.lt.2.1 a⟩
theorem fY.s5(b:fY w c1 c2 o1 o2 o3 o4 o5 W):fY w c1 c2 o1 o2 o3 o4 (some W.heap.size) (W.alloc (.map #[] 0)):=by have k:=b.alloc (.map #[] 0);exact ⟨k.low,k.h1,k.h2,k.h3,k.h4,λc a=>by simp at a;subst a;exact ⟨b.low.size,heap_alloc_new _ _⟩,k.n23,k.n24,k.n34⟩
end
def uY(a b c d e:Ob):Nat:=(qY a b c d e).length
theorem bAp{c1 c2:Array Value}{g:Array Oper}{G:Exit->Act->World->Prop}{o q r s t:Oper}
  (Y:g[1]?=some o) (Z:g[3]?=some q) (a0:g[5]?=some r) (a1:g[7]?=some s) (a2:g[8]?=some t)
  (a3:o.guard=none/\q.guard=none/\r.guard=none/\s.guard=none/\t.guard=none) (R:o.dst=some 4/\q.dst=some 6/\r.dst=some 8/\s.dst=some 10/\t.dst=some 11)
  (M:∀(b c d e f:Ob) (a:World),(execOp (pA n b c d e f).eval o).run zz a=.ok (.value (.slice (some ⟨a.heap.size,0,none⟩) 0 n)) (a.alloc (.cells c1 117)))
  (N:∀(b c d e f:Ob) (a:World),(execOp (pA n b c d e f).eval q).run zz a=.ok (.value (.slice (some ⟨a.heap.size,0,none⟩) 0 n)) (a.alloc (.cells c2 3)))
  (O:∀(b c d e f:Ob) (a:World),(execOp (pA n b c d e f).eval r).run zz a=.ok (.value (.slice (some ⟨a.heap.size,0,none⟩) 0 n)) (a.alloc (.cells c2 3)))
  (P:∀(b c d e f:Ob) (a:World),(execOp (pA n b c d e f).eval s).run zz a=.ok (.value (.slice (some ⟨a.heap.size,0,none⟩) 0 n)) (a.alloc (.cells c2 3)))
  (Q:∀(b c d e f:Ob) (a:World),(execOp (pA n b c d e f).eval t).run zz a=.ok (.value (.map (some a.heap.size))) (a.alloc (.map #[] 0)))
  (J:∀(u v x y z:Bool),(u && v && x && y && z)=false->Region.ready .any g #[true,u,true,v,true,x,true,y,z,false,false,false]=sA u v x y z)
  (H:∀(A C D E F:Nat) (a:World),fY w c1 c2 (some A) (some C) (some D) (some E) (some F) a->wpAny zz .any g G 3 (aMo (some A) (some C) (some D) (some E) (some F)) (pA n (some A) (some C) (some D) (some E) (some F)) a):∀(j:Nat) (b c d e f:Ob) (a:World),uY b c d e f=j->fY w c1 c2 b c d e f a->wpAny zz .any g G (j+3) (aMo b c d e f) (pA n b c d e f) a:=by
 obtain ⟨a4,a5,a6,a7,a8⟩:=a3;obtain ⟨S,T,U,V,W⟩:=R;intro j;induction j with
 |zero=>
  intro b c d e f a l i;have a9:=List.eq_nil_of_length_eq_zero l;cases b<;>cases c<;>cases d<;>cases e<;>cases f<;>first|(simp [qY,sA] at a9;done)|exact H _ _ _ _ _ _ i
 |succ j ih=>
  intro b c d e f a l i;have I:qY b c d e f≠[]:=λX=>by unfold uY at l;rw [X] at l;simp at l
  rw [show j+1+3=(j+3)+1 by omega];refine wpAny_all (rs:=qY b c d e f) (J _ _ _ _ _ (by cases b<;>cases c<;>cases d<;>cases e<;>cases f<;>first|rfl|exact absurd rfl I)) I λm b0=>?_
  have b1:(m=1/\b=none)\/(m=3/\c=none)\/(m=5/\d=none)\/(m=7/\e=none)\/(m=8/\f=none):=by clear J H ih M N O P Q;cases b<;>cases c<;>cases d<;>cases e<;>cases f<;>simp [qY,sA] at b0 ⊢<;>omega
  rcases b1 with ⟨rfl,rfl⟩|⟨rfl,rfl⟩|⟨rfl,rfl⟩|⟨rfl,rfl⟩|⟨rfl,rfl⟩
  ·refine wZ Y a4 (M _ _ _ _ _ a) ?_;rw [S];exact ih (some a.heap.size) c d e f _ (by unfold uY qY sA at *;simp at *;omega) i.s1
  ·refine wZ Z a5 (N _ _ _ _ _ a) ?_;rw [T];exact ih b (some a.heap.size) d e f _ (by unfold uY qY sA at *;simp at *;omega) i.s2
  ·refine wZ a0 a6 (O _ _ _ _ _ a) ?_;rw [U];exact ih b c (some a.heap.size) e f _ (by unfold uY qY sA at *;simp at *;omega) i.s3
  ·refine wZ a1 a7 (P _ _ _ _ _ a) ?_;rw [V];exact ih b c d (some a.heap.size) f _ (by unfold uY qY sA at *;simp at *;omega) i.s4
  ·refine wZ a2 a8 (Q _ _ _ _ _ a) ?_;rw [W];exact ih b c d e (some a.heap.size) _ (by unfold uY qY sA at *;simp at *;omega) i.s5
theorem aMp(n:Nat)(Z:n<=1000000)(w:World):Calls zz 103 #[.int .i64 n] w λd a6=>∃M a1 a4 a2 a3 a5,d=.returned (.pointer (some ⟨M,0,none⟩))/\aFg w M a1 a4 a2 a3 a5 a6:=by
 obtain ⟨J,C,D,E,F⟩:=info_parts sL;obtain ⟨I,a,y,z,A⟩:=info_parts tT;have Y:=@run_makeMap zz;obtain ⟨m,G,X⟩ : ∃m:Array Value,m.size=n*2/\∀w:World,(Instr.makeSlice 84 (.int .i64 0) (.int .i64 n)).run zz w=.ok (.slice (some ⟨w.heap.size,0,none⟩) 0 n) (w.alloc (.cells m 117)):=
  ⟨madeCells (Value.agg #[.string ⟨#[]⟩,.int .i64 0]).cells (n*J.size),by rw [size_madeCells,E],λw=>by
   have:=run_make (P:=zz) w 84 117 J _ Tryz.underlying84 C D .i64 .i64 0 n (Int.le_refl _) (by omega) (by rw [F];omega) (by omega);simpa using this⟩
 obtain ⟨o,H,x⟩ : ∃o:Array Value,o.size=n*1/\∀w:World,(Instr.makeSlice 28 (.int .i64 0) (.int .i64 n)).run zz w=.ok (.slice (some ⟨w.heap.size,0,none⟩) 0 n) (w.alloc (.cells o 3)):=
  ⟨madeCells (Value.int .i64 0).cells (n*I.size),by rw [size_madeCells,z],λw=>by
   have:=run_make (P:=zz) w 28 3 I _ zc a y .i64 .i64 0 n (Int.le_refl _) (by omega) (by rw [A];omega) (by omega);simpa using this⟩
 have N:=aA G;have O:=aA H;clear C D E F a y z A G H;go_enter Tryz.func103,Tryz.ntmps103;go_upto_region 1 with (fail);refine wp_region_any (by kernel_rfl) ?_;refine wpAny_take (i:=0) (v:=.int .i64 n) rfl (by kernel_rfl) (by kernel_rfl) (by kernel_rfl) (λ_ _ _ b=>b) (zg ⟨by rfl,λw=>rfl⟩) ?_;refine wpAny_take (i:=2) (v:=.int .i64 n) rfl (by kernel_rfl) (by kernel_rfl) (by kernel_rfl) (λ_ _ _ b=>b) (zg ⟨by rfl,λw=>rfl⟩) ?_;refine wpAny_take (i:=4) (v:=.int .i64 n) rfl (by kernel_rfl) (by kernel_rfl) (by kernel_rfl) (λ_ _ _ b=>b) (zg ⟨by rfl,λw=>rfl⟩) ?_;refine wpAny_take (i:=6) (v:=.int .i64 n) rfl (by kernel_rfl) (by kernel_rfl) (by kernel_rfl) (λ_ _ _ b=>b) (zg ⟨by rfl,λw=>rfl⟩) ?_;refine bAp (w:=w) (c1:=m) (c2:=o) (n:=n) rfl rfl rfl rfl rfl ⟨rfl,rfl,rfl,rfl,rfl⟩ ⟨rfl,rfl,rfl,rfl,rfl⟩ ?_ ?_ ?_ ?_ ?_ ?_ ?_ 5 none none none none none _ rfl ?_
 ·intro q r s t u c;simp [execOp,pA,Act.eval,X]
 ·intro q r s t u c;simp [execOp,pA,Act.eval,x]
 ·intro q r s t u c;simp [execOp,pA,Act.eval,x]
 ·intro q r s t u c;simp [execOp,pA,Act.eval,x]
 ·intro q r s t u c;simp [execOp,pA,Y]
 ·intro R S T U V b;cases R<;>cases S<;>cases T<;>cases U<;>cases V<;>first|(cases b;done)|kernel_rfl
 ·intro i e g j l c a;change wpAny zz .any _ _ 3 #[true,true,true,true,true,true,true,true,true,false,false,false] {tmps:=#[.int .i64 n,undef,.pointer none,.int .i64 n,.slice (some ⟨i,0,none⟩) 0 n,.int .i64 n,.slice (some ⟨e,0,none⟩) 0 n,.int .i64 n,.slice (some ⟨g,0,none⟩) 0 n,.int .i64 n,.slice (some ⟨j,0,none⟩) 0 n,.map (some l),undef,undef],defers:=[]} c;refine wpAny_take (i:=9) (v:=.agg #[.slice (some ⟨i,0,none⟩) 0 n,.slice (some ⟨e,0,none⟩) 0 n,.slice (some ⟨g,0,none⟩) 0 n,.slice (some ⟨j,0,none⟩) 0 n,.map (some l)]) rfl (by kernel_rfl) (by kernel_rfl) (by kernel_rfl) (λ_ _ _ b=>b) (zg ⟨by rfl,λw=>by go_simp⟩) ?_;refine wpAny_all (rs:=[10]) (by kernel_rfl) (by simp) λa0 W=>?_
  obtain rfl:a0=10:=by simpa using W
  refine wZ (v:=.pointer (some ⟨c.heap.size,0,none⟩)) (w':=c.alloc (.cells #[.slice (some ⟨i,0,none⟩) 0 n,.slice (some ⟨e,0,none⟩) 0 n,.slice (some ⟨g,0,none⟩) 0 n,.slice (some ⟨j,0,none⟩) 0 n,.map (some l)] 165)) rfl rfl (by rfl) ?_;refine wpAny_take (i:=11) (v:=.pointer (some ⟨c.heap.size,0,none⟩)) rfl (by kernel_rfl) (by kernel_rfl) (by kernel_rfl) (λ_ _ _ b=>b) (zg ⟨by rfl,λw=>by rfl⟩) ?_;refine wpAny_done (by kernel_rfl) ?_ _;have f:=a.alloc (.cells #[.slice (some ⟨i,0,none⟩) 0 n,.slice (some ⟨e,0,none⟩) 0 n,.slice (some ⟨g,0,none⟩) 0 n,.slice (some ⟨j,0,none⟩) 0 n,.map (some l)] 165);have Q:=aA (bAo (tb:=c.heap.size) Z N.o O.o f.low (f.h1 i rfl).2 (f.h2 e rfl).2 (f.h3 g rfl).2 (f.h4 j rfl).2 (f.h5 l rfl).2 (heap_alloc_new _ _) ⟨(a.h1 i rfl).1,(a.h2 e rfl).1,(a.h3 g rfl).1,(a.h4 j rfl).1,(a.h5 l rfl).1,a.low.size⟩ ⟨λd=>a.n23 e rfl (by rw [d]),λd=>a.n24 e rfl (by rw [d]),λd=>a.n34 g rfl (by rw [d]),λd=>a.lt.2.2.2 (by rw [d])⟩);clear a f;go_wp2;go_ret;exact ⟨_,_,_,_,_,_,rfl,Q.o⟩
 ·exact fY.start (aR ⟨1,rfl⟩)
abbrev aN(o:Int)(a:List Nd):List Tg:=a.map λn=>(o,n)
theorem aBo(o:Int)(a:List Nd):(aN o a).map zs=a:=by unfold aN;rw [List.map_map];exact List.map_id _
structure lN(B tb mp:Nat)(M:List Tg)(w:World):Prop where
 tm:∃vn ve vl vs,cK w B tb vn ve vl vs (.map (some mp)) (M.map zs) (eO (M.map zs)) (rZ M) (zu M.length 0)
 first:gK w mp M
 whole:eU (M.map zs)
 big:B<=w.heap.size
 ne:mp≠tb
 mlow:B<=mp
theorem lN.new{i:World}{c b:Nat}{f d e g:Value}(a:aFg w c b f d e g i):lN w.heap.size c b [] i:=
 ⟨⟨f,d,e,g,a.tm⟩,a.first,λl n j=>by simp at j,a.low.size,a.ne,a.mlow⟩
theorem aBp{g i:Nat}{a:List Tg}(b:lN B g i a w)(d:Int)(e:Option Addr)(l:Nat)(c:List Nd)(x:dV w e c)(r:aQ c 1=true)(v:∀p,e=some p->p.block<B)(u:a.length+c.length<=1000000)(y : -1000<=d/\d<=1000):Calls zz 105 #[.pointer (some ⟨g,0,none⟩),.int .i64 d,.slice e c.length l] w λm j=>m=.returned (.int .i64 a.length)/\lN B g i (a++aN d c) j/\Below B w j:=by
 obtain ⟨F,A,D,H,z⟩:=b.tm;have f:(a.map zs).length=a.length:=by simp
 refine (aMd B g i F A D H (a.map zs) (rZ a) (zu a.length 0) a d e l c w z rfl b.whole b.first (by rw [mY,f]) (by rw [List.length_replicate,f]) b.big b.ne b.mlow r x v (by rw [f];exact u) y).mono ?_;rintro m j ⟨G,C,E,I,rfl,s,t,o,_⟩;have q:(a++aN d c).map zs=a.map zs++c:=by rw [List.map_append,aBo]
 refine ⟨by rw [f],⟨⟨G,C,E,I,?_⟩,t,by rw [q];exact b.whole.append (zD r),Nat.le_trans b.big o.low.size,b.ne,b.mlow⟩,o.low⟩;rw [q,aMm,zf,List.replicate_append_replicate.symm];simpa using s
theorem bAq(m:eU L){j:Nat->Nat->Prop}{g:Nat->Nat}{i:List Nat}{d:List Nd}(l:aW (aG L) j g i d)(e:∀a∈i,a<L.length):∀n∈d,(aK n=true/\∃a,a<L.length/\n=(⟨#[]⟩,(g a:Int)))\/(aK n=false/\n∈L):=by
 induction l with
 |nil=>intro n hn;simp at hn
 |@var a r d h1 _ ih=>
  intro n hn;rcases List.mem_cons.1 hn with rfl|hn
  ·exact zg ⟨pW _,a,e a (by simp),rfl⟩
  ·exact ih (λc o=>e c (by simp [o])) n hn
 |@name a c r d h1 h2 _ ih=>
  intro n hn;obtain ⟨u,b,s⟩:=nS h2;have q:=(zx.1 b).1;rcases List.mem_cons.1 hn with rfl|hn
  ·right;rw [pO b];exact ⟨s,List.mem_of_getElem? b⟩
  ·refine ih (λp hp=>?_) n hn;rcases List.mem_append.1 hp with hp|hp
   ·rw [lT b] at hp;have t:=(aDl _ _ _ (m c _ b) p hp).2;have f:aO (L.drop c) 1<=(L.drop c).length:=tG _ _;rw [zo q,(zx.1 b).2] at f;simp [aO] at f;omega
   ·exact e p (by simp [hp])
theorem zL{c:Option Addr}{a:List Nd}(d:dV w c a)(i:aQ a 1=true):∀p,c=some p->p.block<w.heap.size:=by
 intro p g;have e:0<a.length:=by
  cases a with
  |nil=>simp [aQ] at i
  |cons=>simp
 obtain ⟨j,l,b,f,_⟩:=d.cell 0 e;rw [g] at b;simp at b;rw [b];exact World.block_lt_of_cell? w _ f
theorem dN.set{a c:Nat}(d:dN B w (.slice (some ⟨a,0,none⟩) n c) ks)(e:n=ks.length)(b x:Nat):dN B (w.setCell ⟨a,b,none⟩ (.int .i64 (x:Nat))) (.slice (some ⟨a,0,none⟩) n c) (ks.set b x)/\w.grownBy (w.setCell ⟨a,b,none⟩ (.int .i64 (x:Nat))) (some a):=by subst e;have:=rO (w:=w) d b (.int .i64 (x:Nat));refine ⟨?_,cM w ⟨a,b,none⟩ _⟩;unfold dN;rw [zp,List.map_set];exact this
theorem dN.take{g b:Nat}(d:dN B w (.slice (some ⟨g,0,none⟩) n b) ks){m:Nat}(u:m<=ks.length):dN B w (.slice (some ⟨g,0,none⟩) m b) (ks.take m):=by
 obtain ⟨s,⟨a,_⟩|⟨r,q,c,a,e,f,t,j,o,l⟩⟩:=d
 ·cases a
 ·simp at a;obtain ⟨rfl,_,rfl⟩:=a;have i:(ks.take m).length=m:=by simp;omega
  unfold dN;rw [i];refine ⟨by simp;omega,Or.inr ⟨g,b,c,rfl,e,f,by omega,j,o,?_⟩⟩;rw [List.map_take,<-l,zk];congr 1
  omega
theorem dN.cleared{B:Nat}{b n d:Nat}:∀(m a:Nat) (w:World) (ks:List Nat),dN B w (.slice (some ⟨b,0,none⟩) n d) ks->n=ks.length->
  ∃c,dN B (w.setCells b a (zu m (.int .i64 0))) (.slice (some ⟨b,0,none⟩) n d) c/\c.length=ks.length/\c.take a=ks.take a/\w.grownBy (w.setCells b a (zu m (.int .i64 0))) (some b)
 |0,a,w,ks,h,_=>⟨ks,h,rfl,rfl,⟨rfl,rfl,rfl,zv _,λ_ _ _=>rfl⟩⟩
 |m+1,a,w,ks,h,hn=>by
  obtain ⟨e,f⟩:=h.set hn a 0;obtain ⟨c,g,i,j,l⟩:=dN.cleared m (a+1) _ _ e (by rw [zp];exact hn);refine ⟨c,g,by rw [i,zp],?_,lH f l⟩;have:=congrArg (List.take a) j;rw [zk,zk,Nat.min_eq_left (Nat.le_succ a),zh (zv _)] at this;exact this
def bAr(w:World)(e b c:Nat)(p:Nat->Bool)(ks:List Nat):Prop:=∀k∈ks,∀a,w.grownBy a (some e)->Calls zz 50 #[.int .i64 (k:Nat),.pointer (some ⟨b,0,none⟩),.pointer (some ⟨c,0,none⟩)] a λd f=>d=.returned (.bool (p k))/\aB a f
theorem aMq{p:Nat->Bool}{a:Nat}(b:a<ks.length):(ks.take (a+1)).filter (λk=>!p k)=(ks.take a).filter (λk=>!p k)++if p ks[a] then [] else [ks[a]]:=by rw [zr b,List.filter_append];cases h:p ks[a]<;>simp [h]
theorem bAs(B c d:Nat)(p:Nat->Bool)(a:Option Addr)(b:Nat)(ks:List Nat)(w:World)(i:dN B w (.slice a ks.length b) ks)(r:ks.length<=1000000)(m:aKc w c d p ks)(e:ks.any p=false):Calls zz 49 #[.slice a ks.length b,.func (.func 50) #[] #[.pointer (some ⟨c,0,none⟩),.pointer (some ⟨d,0,none⟩)]] w λg t=>g=.returned (.slice a ks.length b)/\aB w t:=by
 have f:=aA (aKd B c d p a b ks w i r m);have l:oQ p ks=-1:=aDs (λu q=>by
  rw [Bool.eq_false_iff];intro s;rw [zb.2 ⟨_,za q,s⟩] at e;cases e)
 rw [l] at f;clear i m e l;go_enter Tryz.func49,Tryz.ntmps49;go_wp2_with (first
  |(go_at_call 79;refine (aD f).mono ?_;rintro g v ⟨rfl,j⟩;have o:=aA j;clear j)
  |go_in)
 go_ret;exact ⟨rfl,o.o⟩
theorem bAt(B H I:Nat)(p:Nat->Bool)(d f:Nat)(ks:List Nat)(w:World)(y:dN B w (.slice (some ⟨d,0,none⟩) ks.length f) ks)(d3:ks.length<=1000000)(O:bAr w d H I p ks)(b2:ks.any p=true):Calls zz 49 #[.slice (some ⟨d,0,none⟩) ks.length f,.func (.func 50) #[] #[.pointer (some ⟨H,0,none⟩),.pointer (some ⟨I,0,none⟩)]] w λb b6=>b=.returned (.slice (some ⟨d,0,none⟩) (ks.filter λk=>!p k).length f)/\dN B b6 (.slice (some ⟨d,0,none⟩) (ks.filter λk=>!p k).length f) (ks.filter λk=>!p k)/\w.grownBy b6 (some d):=by
 have U:=aA (aKd B H I p _ f ks w y d3 (λk d2 u Q=>O k d2 u (gS Q)));have M:ks.findIdx p<ks.length:=List.findIdx_lt_length.2 (zb.1 b2);obtain ⟨e,D⟩ : ∃e,ks.findIdx p=e:=⟨_,rfl⟩;have a5:oQ p ks=(e:Nat):=by unfold oQ;rw [aI M,D]
 rw [D] at M;have b0:p ks[e]=true:=by have:=zl (xs:=ks) (p:=p) (w:=by omega);simpa [D] using this
 have a4:(ks.take e).filter (λk=>!p k)=ks.take e:=by
  rw [List.filter_eq_self];intro m q;obtain ⟨c,a8,rfl⟩:=List.getElem_of_mem q;have e7:c<e:=by simp at a8;omega
  have:=zm (xs:=ks) (p:=p) (i:=c) (by omega);rw [List.getElem_take];simpa using this
 have b1:(ks.take (e+1)).filter (λk=>!p k)=ks.take e:=by rw [aMq M,a4,aI b0,List.append_nil]
 rw [a5] at U;have e1:ks.length<=f:=by
  obtain ⟨_,⟨b,_⟩|⟨s,a0,a1,b,_,_,A,_⟩⟩:=y
  ·cases b
  ·simp at b;omega
 have c3:=aA b1;have c0:=aA y;have c2:=aA O;have f0:((e:Int)==-1)=false:=by rw [beq_eq_false_iff_ne];omega
 clear y O b2 a5 D b0 a4 b1;go_enter Tryz.func49,Tryz.ntmps49;go_wp2_with (first
  |(go_at_call 79;refine (aD U).mono ?_;rintro b f2 ⟨rfl,a3⟩;have V:=aA a3;clear a3)
  |go_in)
 have e9:(e:Int)<(ks.length:Int):=by omega
 go_loopw [5,6] (λd5 R wr=>∃(a c:Nat) (g:List Nat),d5=.int .i64 a/\R=.int .i64 c/\c<=ks.length/\a<c/\g.length=ks.length/\dN B wr (.slice (some ⟨d,0,none⟩) ks.length f) g/\g.take a=(ks.take c).filter (λk=>!p k)/\(∀j,c<=j->g[j]?=ks[j]?)/\w.grownBy wr (some d)) (λ_ R _=>ks.length-(intOf R).toNat);case atStart=>exact ⟨e,e+1,ks,rfl,by simp,by omega,by omega,rfl,bK c0.o V.o (zv _),c3.o.symm,λ_ _=>rfl,gS V.o⟩
 case round=>
  obtain ⟨a,c,g,rfl,rfl,a8,e5,z,l,i,E,t⟩:=hrel;by_cases N:c<ks.length
  ·obtain ⟨m,q⟩ : ∃m,ks[c]=m:=⟨_,rfl⟩;have a2:g[c]'(by omega)=m:=by
    have:=E c (zv _);rw [zw (by omega),zw N,q] at this;exact Option.some.inj this
   obtain ⟨s,b,A⟩:=l.cell (i:=c) (by omega);cases b;rw [a2] at A;obtain ⟨b7,J⟩ : ∃b7:Nat,wr.cell? ⟨d,a,none⟩=some (.int .i64 (b7:Nat)):=by obtain ⟨s,b,J⟩:=l.cell (i:=a) (by omega);cases b;exact ⟨_,J⟩
   have v:=aA (c2.o m (by rw [<-q];exact za N) wr t);have P:=aMq (p:=p) N;rw [q] at P;have d1:(c:Int)<(ks.length:Int):=by omega
   have e4:(a:Int)<(ks.length:Int):=by omega
   have W:=aA l;have Z:=aA i;have X:=aA E;have x:=aA t;have Y:=aA P;have G:=aA z;have a7:∀u,wr.grownBy u none->u.frozen? ⟨d,a,none⟩=false:=λu Q=>by
    obtain ⟨_,⟨b,_⟩|⟨s,a0,a1,b,_,C,_⟩⟩:=l
    ·cases b
    ·simp at b;obtain ⟨rfl,_⟩:=b;have:=Q.block d (zy.1 C).1 (by simp);simp [World.frozen?,this,C]
   have b9:=aA a7;clear l i E t P a2 q z a7;cases hp:p m
   ·rw [hp] at v;have F:=aA hp;clear hp;go_wp2_with (first
     |(go_at_call 50;refine (aD v).mono ?_;rintro b T ⟨rfl,o⟩;have d7:=aC o J;have d8:=b9.o T (gS o);have r:=aA o;clear o)
     |go_in)
    go_roundw;case rel=>
     have c6:dN B T (.slice (some ⟨d,0,none⟩) ks.length f) g:=bK W.o r.o (zv _);obtain ⟨c7,c9⟩:=c6.set G.o.symm a m;have c8:=G.o;refine ⟨a+1,c+1,g.set a m,by go_num,by go_num,by omega,by omega,by rw [zp];exact c8,c7,?_,λj i=>?_,lH x.o (lH (gS r.o) c9)⟩
     ·rw [Y.o,F.o,<-Z.o,zr (by simp;omega),zh (zv _)];simp
     ·rw [List.getElem?_set_ne (by omega)];exact X.o j (by omega)
    case measure=>simp [intOf];omega
   ·rw [hp] at v;have F:=aA hp;clear hp;go_wp2_with (first
     |(go_at_call 50;refine (aD v).mono ?_;rintro b T ⟨rfl,o⟩;have r:=aA o;clear o)
     |go_in)
    go_roundw;case rel=>
     refine ⟨a,c+1,g,rfl,by go_num,by omega,by omega,G.o,bK W.o r.o (zv _),?_,λj i=>X.o j (by omega),lH x.o (gS r.o)⟩;rw [Y.o,F.o,<-Z.o];simp
    case measure=>simp [intOf];omega
  ·have d0:c=ks.length:=by omega
   rw [d0,List.take_length] at i;have a9:(ks.filter λk=>!p k).length=a:=by rw [<-i,List.length_take];omega
   have e2:∀S,(Builtin.clear_ #[28] S #[.slice (some ⟨d,a,none⟩) (ks.length-a) (f-a)]).run zz wr=.ok (.tuple #[]) (wr.setCells d a (zu (ks.length-a) (.int .i64 0))):=λS=>
    Lib.run_clear_slice wr _ 3 S (.int .i64 0) zc (λw=>by obtain ⟨f1,c4,c5,d9,e0⟩:=info_parts tT;simp [zeroValue,typeInfo,c4,c5]) rfl rfl d a _ _ (by omega) (λj i=>by
     obtain ⟨s,b,A⟩:=l.cell (i:=a+j) (by omega);cases b;rw [A];rfl) (λj i=>by
     obtain ⟨_,⟨b,_⟩|⟨s,a0,a1,b,_,C,_⟩⟩:=l
     ·cases b
     ·simp at b;obtain ⟨rfl,_⟩:=b;simp [World.frozen?,C])
   obtain ⟨d6,b3,d4,b4,b5⟩:=dN.cleared (ks.length-a) a wr g l z.symm;have a6:dN B (wr.setCells d a (zu (ks.length-a) (.int .i64 0))) (.slice (some ⟨d,0,none⟩) a f) (ks.filter λk=>!p k):=by have:=b3.take (m:=a) (by omega);rw [b4,i] at this;exact this
   have b8:=aA a6;have x:=aA (lH t b5);have c1:=aA a9;have d1:¬(c:Int)<(ks.length:Int):=by omega
   have e6:(a:Int)<=(ks.length:Int):=by omega
   have e3:(a:Int)<=(f:Int):=by omega
   have e8:(ks.length:Int)<=(f:Int):=by omega
   clear l i E t b3 d4 b4 b5 a6 z a9;go_wp2;go_ret;rw [c1.o];exact ⟨rfl,b8.o,x.o⟩
theorem bAu(a:Int->List Nd)(b c:List Nd):subst a (b++c)=subst a b++subst a c:=by simp [subst]
theorem bAv{n:Nd}(c:aK n=true):n=(⟨#[]⟩,n.2):=by
 obtain ⟨a,d⟩:=n;have:a.toList=[]:=by simpa [aK] using c
 have b:a=⟨#[]⟩:=by rw [ByteArray.toList_eq] at this;obtain ⟨e⟩:=a;simp at this;subst this;rfl
 rw [b]
theorem bAw(a:List Nd):subst (λb=>[(⟨#[]⟩,b)]) a=a:=by
 induction a with
 |nil=>rfl
 |cons n r ih=>
  rw [oB,ih];cases hv:aK n with
  |false=>rfl
  |true=>simp only [if_true];rw [<-bAv hv];rfl
def mB(a:List Nd)(k:Nat):Prop:=dZ a k/\aO a k=a.length
theorem aMr{a:List Nd}(b:aQ a k=true):mB a k:=⟨aJw a k b,by have:=yU a k [] b;simpa using this⟩
theorem aMs{a b:List Nd}{c:Nat}(d:mB a c)(f:mB b k):mB (a++b) (c+k):=by
 have e:aO (a++b) c=a.length:=by rw [aDm a b c d.1,d.2]
 refine ⟨(vY _ _ _).2 ⟨aJx a b c d.1,?_⟩,?_⟩
 ·rw [e,List.drop_left];exact f.1
 ·rw [uH,e,List.drop_left,f.2,zf]
theorem bAx{i:Int->List Nd}:∀(b:List Nd) (k:Nat),(∀n∈b,aK n=true->mB (i n.2) 1)->mB b k->mB (subst i b) k:=by
 intro b;induction b with
 |nil=>intro k _ a;exact a
 |cons n r ih=>
  intro k e a;cases k with
  |zero=>have:=a.2;simp at this
  |succ k=>
   have d:mB r (k+aX n):=⟨by have:=a.1;simpa [dZ] using this,by have:=a.2;simp [aO] at this;omega⟩;rw [oB];cases hv:aK n with
   |true=>
    rw [jS hv,Nat.add_zero] at d;have:=aMs (e n (by simp) hv) (ih k (λf c=>e f (by simp [c])) d);rw [zd] at this;simpa using this
   |false=>
    have g:=ih (k+aX n) (λf c=>e f (by simp [c])) d;refine ⟨by simpa [dZ] using g.1,?_⟩;have:=g.2;simp [aO];omega
def iV(a:Value):Array Value:=#[a]++z0 61 (.slice none 0 0)
def xB:Array Value:=z0 62 (.slice none 0 0)
theorem aFh(a:Value):(iV a).size=62:=by simp [iV]
theorem aMt(a:Value):(iV a)[0]?=some a:=by simp [iV]
theorem aFi(b:Value)(a:Nat)(c:a<61):(iV b)[1+a]?=some (.slice none 0 0):=by unfold iV;rw [Array.getElem?_append_right (by simp)];simp [c]
theorem bAy(a:Option Addr)(n b:Nat):zz.built 136 [(0,.slice a n b)]=some (iV (.slice a n b)):=by kernel_rfl
theorem aMu:(zz.info? 136).map (λa=>(a.zero,a.size))=some (some (.agg xB),62):=by kernel_rfl
theorem bAz(w:World)(d a:Array Value)(c:TypeId):(w.alloc (.cells d c)).setRow w.heap.size a=w.alloc (.cells a c):=by
 unfold World.setRow World.alloc;congr 1
 apply Array.ext
 ·simp
 ·intro b i e;simp only [Array.getElem_modify];by_cases f:b<w.heap.size
  ·rw [aH (by omega)];simp [Array.getElem_push_lt f]
  ·have g:b=w.heap.size:=by simp at e;omega
   subst g;simp
theorem bB0(w:World):(Instr.alloc 136 true (.tuple #[])).run zz w=.ok (.pointer (some ⟨w.heap.size,0,none⟩)) (w.alloc (.cells xB 136)):=by
 have a:=aMu;cases hi:zz.info? 136 with
 |none=>rw [hi] at a;simp at a
 |some i=>
  rw [hi] at a;simp at a;have b:(Value.agg xB).cells=xB:=rfl;simp [Instr.alloc,zeroValue,typeInfo,hi,a.1,newVar,newRow,b]
theorem bB1{t:Array Oper}{u:List Oper}{c i j m:Oper}{d:Act}{q:Exit->Act->World->Prop}(y:c.guard=none)(z:i.guard=none)(A:j.guard=none)(C:m.guard=none)(v o l r:Operand)
  (D:c.op=.move v) (E:i.op=.build 136 #[(0,o)]) (F:j.op=.alloc 136) (G:m.op=.store 136 l r) (b:Option Addr) (n a:Nat) (M:d.eval v=.slice b n a) (J:(d.put c.dst (.slice b n a)).eval o=.slice b n a)
  (N:(((d.put c.dst (.slice b n a)).put i.dst (.agg (iV (.slice b n a)))).put j.dst (.pointer (some ⟨w.heap.size,0,none⟩))).eval l=.pointer (some ⟨w.heap.size,0,none⟩))
  (O:(((d.put c.dst (.slice b n a)).put i.dst (.agg (iV (.slice b n a)))).put j.dst (.pointer (some ⟨w.heap.size,0,none⟩))).eval r=.agg (iV (.slice b n a)))
  (e:wpList zz t q u ((((d.put c.dst (.slice b n a)).put i.dst (.agg (iV (.slice b n a)))).put j.dst (.pointer (some ⟨w.heap.size,0,none⟩))).put m.dst undef) (w.alloc (.cells (iV (.slice b n a)) 136))):wpList zz t q (c::i::j::m::u) d w:=by
 refine wpList_plain y λK hK=>?_
 have x:c.wp zz d w K q:=by
  unfold Oper.wp execOp;simp only [D,M,Sem.run_pure];refine hK _ _ ?_;have s:zz.built 136 ((#[(0,o)]:Array (Nat×Operand)).map λ(f,l)=>(f,(d.put c.dst (.slice b n a)).eval l)).toList=some (iV (.slice b n a)):=by simp only [List.map_toArray,List.map_cons,List.map_nil,J];exact bAy b n a
  refine wpList_build z 136 #[(0,o)] E (by rw [s];rfl) ?_;rw [s];simp only [Option.getD_some];refine wpList_plain A λQ H=>?_
  unfold Oper.wp execOp;simp only [F,Sem.run_bind,bB0,Sem.run_pure,Result.andThen_ok];refine H _ _ ?_;refine wpList_store_row C 136 l r G w.heap.size (iV (.slice b n a)) N O 136 xB (heap_alloc_new w _) ?_ ?_ ?_ ?_
  ·have e:=aMu;cases g:zz.info? 136 with
   |none=>rw [g] at e;simp at e
   |some f=>rw [g] at e;simp at e;simp [e.2,aFh]
  ·simp [aFh,xB]
  ·have I:(iV (.slice b n a)).all (λP=>P.oneCell')=true:=by
    rw [Array.all_eq_true];intro f g;rcases Nat.eq_zero_or_pos f with rfl|hp
    ·have:=aMt (.slice b n a);rw [zn g] at this;simp at this;rw [this];rfl
    ·have:=aFi (.slice b n a) (f-1) (by rw [aFh] at g;omega);rw [show 1+(f-1)=f by omega,zn g] at this;simp at this;rw [this];rfl
   exact I
  ·rw [bAz];exact e
 exact x
