import Derived.Test.YtmelidkanelpbaaGreatDoorSCl0H
import Derived.Test.YtmelidkanelpbaaGreatDoorVRes1H
import Derived.Deep.RegionWith
open List renaming foldl_cons→zy,take_succ_eq_append_getElem→zx,foldl_append→zt,take_of_length_le→zs,drop_eq_getElem_cons→zo,append_cancel_left→zn,nil_append→zm,take_append_drop→zk,append_assoc→zh,cons_append→ze,length_cons→zd
open Nat renaming le_refl→zz,zero_le→zj
namespace Go.Proofs.YtmelidkanelpbaaGreatDoor
open Calls renaming quiet_of_same→zw
open _root_.Go.Proofs.Tryz renaming prog→zu,ntmps53→zr,func53→zq,ntmps82→zg,ntmps52→zf,func82→zc,func52→za
open Value renaming slice→zp
open World renaming cell?→zv,alloc_heap_new→zi
open Go.RowKit Go.Shelf Go.WideMaps
set_option maxHeartbeats 8000000
set_option maxRecDepth 100000
def jL(b:Option Int)(a:Nd):Option Int:=
 match b with
 |none=>none
 |some x=>if aL a then (if x<a.2 then none else if a.2=x then some (x+1) else some x) else some x
def eY(a:List Nd)(b:Option Int):Option Int:=a.foldl jL b
def nQ(a:List Lt):Option Int:=a.foldl (λb c=>eY c.2 b) (some 0)
theorem aDp(a:List Nd):eY a none=none:=by
 induction a with
 |nil=>rfl
 |cons x r ih=>simpa [eY,jL] using ih
theorem aVm(b:List Nd)(c:Option Int)(a:Nat)(d:a<b.length):eY (b.take (a+1)) c=jL (eY (b.take a) c) b[a]:=by rw [zx d];simp only [eY,zt,zy,List.foldl_nil]
theorem aVn(a:List Lt)(b:Nat)(c:b<a.length):nQ (a.take (b+1))=eY a[b].2 (nQ (a.take b)):=by rw [zx c];simp only [nQ,zt,zy,List.foldl_nil]
theorem aVo(a:List Nd)(c:Option Int)(b:Nat):eY a c=eY (a.drop b) (eY (a.take b) c):=by
 conv=>lhs;rw [<-zk b a]
 simp only [eY,zt]
theorem aVp(a:List Lt)(b:Nat):nQ a=(a.drop b).foldl (λc d=>eY d.2 c) (nQ (a.take b)):=by
 conv=>lhs;rw [<-zk b a]
 simp only [nQ,zt]
theorem aK2(a:List Lt):a.foldl (λc b=>eY b.2 c) none=none:=by
 induction a with
 |nil=>rfl
 |cons b r ih=>simp only [zy,aDp,ih]
def dF(a:Nat):List Int:=(List.range a).map Int.ofNat
theorem aK3(a:Nat):dF (a+1)=dF a++[(a:Int)]:=by simp [dF,List.range_succ]
theorem aK4(a:Nat):(dF a).length=a:=by simp [dF]
theorem aK5(b:Nat)(a:Int):eS (dF b) a=if 0<=a/\a<b then a else -1:=by
 induction b with
 |zero=>simp [dF,aGp];omega
 |succ b ih=>
  rw [aK3,aCi,aK4,ih];by_cases c:(b:Int)=a
  ·subst c;rw [aH rfl,aH (by omega)]
  ·rw [aI c];by_cases d:0<=a/\a<b
   ·rw [aH d,aH (by omega)]
   ·rw [aI d,aI (by omega)]
def qQ(b:List Nd):Prop:=∀a∈b,aL a=true->0<=a.2
theorem aK6(c:List Nd)(b:Nat)(a:Nd)(f:aL a=true)(d:¬(0<=a.2/\a.2<b)):cI (c,dF b) a=(c++[(a.1,(b:Int))],dF b++[a.2]):=by
 have e:eS (dF b) a.2=-1:=by rw [aK5,aI d]
 unfold cI;rw [aH f];show (if eS (dF b) a.2<0 then (c++[(a.1,((dF b).length:Int))],dF b++[a.2]) else (c++[(a.1,eS (dF b) a.2)],dF b))=_;rw [e,aH (by omega),aK4]
theorem aVq(c:List Nd)(b:Nat)(a:Nd)(f:aL a=true)(d:0<=a.2/\a.2<b):cI (c,dF b) a=(c++[a],dF b):=by
 have e:eS (dF b) a.2=a.2:=by rw [aK5,aH d]
 unfold cI;rw [aH f];show (if eS (dF b) a.2<0 then (c++[(a.1,((dF b).length:Int))],dF b++[a.2]) else (c++[(a.1,eS (dF b) a.2)],dF b))=_;rw [e,aI (by omega)]
theorem aK7(e:List Nd)(c:Nat)(b:Nd)(k:aL b=true->0<=b.2)(j:Int)(a:jL (some (c:Int)) b=some j):∃i:Nat,j=i/\cI (e,dF c) b=(e++[b],dF i):=by
 simp only [jL] at a;by_cases d:aL b=true
 ·have l:=k d;rw [aH d] at a;by_cases g:(c:Int)<b.2
  ·rw [aH g] at a;simp at a
  ·rw [aI g] at a;by_cases f:b.2=(c:Int)
   ·rw [aH f] at a;simp at a;refine ⟨c+1,by omega,?_⟩;rw [aK6 e c b d (by omega),aK3,<-f]
   ·rw [aI f] at a;simp at a;exact ⟨c,by omega,aVq e c b d (by omega)⟩
 ·rw [aI d] at a;simp at a;refine ⟨c,by omega,?_⟩;unfold cI;rw [aI d]
theorem aVr(d:List Nd):∀(c:List Nd) (b:Nat),qQ d->∀e,eY d (some (b:Int))=some e->∃f:Nat,e=f/\d.foldl cI (c,dF b)=(c++d,dF f):=by
 induction d with
 |nil=>intro c b _ e a;simp [eY] at a;exact ⟨b,by omega,by simp⟩
 |cons n r ih=>
  intro c b g e a;simp only [eY,zy] at a ⊢;cases hs:jL (some (b:Int)) n with
  |none=>rw [hs] at a;rw [show List.foldl jL none r=none from aDp r] at a;simp at a
  |some x=>
   rw [hs] at a;obtain ⟨f,rfl,k⟩:=aK7 c b n (g n (by simp)) x hs;rw [k];obtain ⟨m,i,j⟩:=ih (c++[n]) f (λo l=>g o (by simp [l])) e a;exact ⟨m,i,by rw [j];simp⟩
theorem aVs(c:List Nd):∀a:List Nd×List Int,∃b,(c.foldl cI a).1=a.1++b/\b.length=c.length:=by
 induction c with
 |nil=>intro a;exact ⟨[],by simp,rfl⟩
 |cons n r ih=>
  intro a;obtain ⟨b,e,f⟩:=ih (cI a n);have:∃d,(cI a n).1=a.1++[d]:=by
   unfold cI;split
   ·split<;>exact ⟨_,rfl⟩
   ·exact ⟨_,rfl⟩
  obtain ⟨d,g⟩:=this;exact ⟨d::b,by rw [zy,e,g];simp,by simp [f]⟩
theorem aVt(e:List Nd):∀(b:List Nd) (a:Nat),qQ e->eY e (some (a:Int))=none->(e.foldl cI (b,dF a)).1≠b++e:=by
 induction e with
 |nil=>intro b a _ c;simp [eY] at c
 |cons n r ih=>
  intro b a g c;simp only [eY,zy] at c ⊢;cases hs:jL (some (a:Int)) n with
  |none=>
   have d:aL n=true:=by
    cases d:aL n
    ·simp [jL,d] at hs
    ·rfl
   have f:(a:Int)<n.2:=by
    by_cases f:(a:Int)<n.2
    ·exact f
    ·exfalso;simp only [jL,aH d,aI f] at hs;split at hs<;>simp at hs
   have s:=g n (by simp) d;have l:=aK6 b a n d (by omega);rw [l];obtain ⟨t,m,_⟩:=aVs r (b++[(n.1,(a:Int))],dF a++[n.2]);rw [m];intro i;simp only [zh,ze,zm] at i;have:=zn i;simp only [List.cons.injEq] at this;have j:=congrArg Prod.snd this.1;simp at j;omega
  |some x=>
   rw [hs] at c;obtain ⟨p,rfl,k⟩:=aK7 b a n (g n (by simp)) x hs;rw [k];have:=ih (b++[n]) p (λq o=>g q (by simp [o])) c;simpa using this
theorem aK8(a:List Nd)(b:Nat)(f:qQ a)(c:Int)(e:eY a (some (b:Int))=some c):∃d:Nat,c=d/\dY a (dF b)=(a,dF d):=by have:=aVr a [] b f c e;simpa [dY] using this
theorem aVu(a:List Nd)(b:Nat)(d:qQ a)(c:eY a (some (b:Int))=none):(dY a (dF b)).1≠a:=by have:=aVt a [] b d c;simpa [dY] using this
theorem aVv(e:List Lt):∀(c:List Lt) (b:Nat),(∀a∈e,qQ a.2)->∀g,e.foldl (λo a=>eY a.2 o) (some (b:Int))=some g->∃f:Nat,e.foldl dM (c,dF b)=(c++e,dF f):=by
 induction e with
 |nil=>intro c b _ g d;exact ⟨b,by simp⟩
 |cons a r ih=>
  intro c b j g d;simp only [zy] at d ⊢;cases hs:eY a.2 (some (b:Int)) with
  |none=>rw [hs,aK2] at d;simp at d
  |some i=>
   rw [hs] at d;obtain ⟨f,rfl,l⟩:=aK8 a.2 b (j a (by simp)) i hs;have:dM (c,dF b) a=(c++[a],dF f):=by simp [dM,l]
   rw [this];obtain ⟨n,k⟩:=ih (c++[a]) f (λi m=>j i (by simp [m])) g d;exact ⟨n,by rw [k];simp⟩
theorem aVw(c:List Lt):∀a:List Lt×List Int,∃b,(c.foldl dM a).1=a.1++b:=by
 induction c with
 |nil=>intro a;exact ⟨[],by simp⟩
 |cons x r ih=>
  intro a;obtain ⟨b,d⟩:=ih (dM a x);exact ⟨(x.1,(dY x.2 a.2).1)::b,by rw [zy,d];simp [dM]⟩
theorem aVx(d:List Lt):∀(c:List Lt) (b:Nat),(∀a∈d,qQ a.2)->d.foldl (λp a=>eY a.2 p) (some (b:Int))=none->(d.foldl dM (c,dF b)).1≠c++d:=by
 induction d with
 |nil=>intro c b _ e;simp at e
 |cons a r ih=>
  intro c b f e;simp only [zy] at e ⊢;cases hs:eY a.2 (some (b:Int)) with
  |none=>
   have l:=aVu a.2 b (f a (by simp)) hs;obtain ⟨q,n⟩:=aVw r (dM (c,dF b) a);rw [n];intro i;simp only [dM,zh,ze,zm] at i;have:=zn i;simp only [List.cons.injEq] at this;have k:=congrArg Prod.snd this.1;exact l k
  |some g=>
   rw [hs] at e;obtain ⟨j,rfl,m⟩:=aK8 a.2 b (f a (by simp)) g hs;have:dM (c,dF b) a=(c++[a],dF j):=by simp [dM,m]
   rw [this];have:=ih (c++[a]) j (λg o=>f g (by simp [o])) e;simpa using this
theorem aK9(c:List Lt):∀a:List Lt,(c.foldl eG a).length=a.length+c.length->c.foldl eG a=a++c:=by
 induction c with
 |nil=>intro a _;simp
 |cons x b ih=>
  intro a e;simp only [zy,zd] at e ⊢;have g:∀(b a:List Lt),(b.foldl eG a).length<=a.length+b.length:=by
   intro b;induction b with
   |nil=>intro a;simp
   |cons y b ih=>
    intro a;have:=ih (eG a y);have d:(eG a y).length<=a.length+1:=by unfold eG;split<;>simp
    simp only [zy,zd];omega
  by_cases f:fO a x=true
  ·have d:eG a x=a:=by simp [eG,f]
   rw [d] at e;have:=g b a;omega
  ·have d:eG a x=a++[x]:=by simp [eG,f]
   rw [d] at e ⊢;have:=ih (a++[x]) (by simp;omega);rw [this];simp
theorem aVy(a:List Lt)(g:∀n∈a,qQ n.2):decide (a=aV a)=(decide ((bT a).length=a.length) && (nQ a).isSome):=by
 rw [Bool.eq_iff_iff];simp only [decide_eq_true_eq,Bool.and_eq_true];have i:dF 0=[]:=rfl;constructor
 ·intro d;have b:(bT a).length=a.length:=by
   have k:=(pJ (bT a)).1;have e:(aV a).length=(bT a).length:=k;rw [<-d] at e;exact e.symm
  have c:bT a=a:=by have:=aK9 a [] (by simpa [bT] using b);simpa [bT] using this
  refine ⟨b,?_⟩;cases hc:nQ a with
  |none=>
   exfalso;have:=aVx a [] 0 g hc;rw [i] at this;apply this;rw [zm];conv=>rhs;rw [d]
   unfold aV cW;rw [c]
  |some j=>rfl
 ·rintro ⟨b,l⟩;have c:bT a=a:=by
   have:=aK9 a [] (by simpa [bT] using b);simpa [bT] using this
  obtain ⟨j,m⟩:=Option.isSome_iff_exists.1 l;obtain ⟨o,f⟩:=aVv a [] 0 g j m;rw [i] at f;unfold aV cW;rw [c,f];simp
theorem aVz{b:List Nd}(c:gF b=true):qQ b:=by
 have a:aQ b 1=true:=by
  have:iZ b=true:=by simp [gF] at c;exact c.1
  have:aQ b 1=true/\b.length<=60:=by simpa [iZ] using this
  exact this.1
 clear c;generalize 1=q at a;intro d hn e;induction b generalizing q with
 |nil=>simp at hn
 |cons x r ih=>
  simp only [aQ] at a;split at a
  ·simp at a
  ·split at a
   ·next hok=>
    rcases List.mem_cons.1 hn with rfl|hn
    ·have:0<=d.2/\d.2<60:=by simpa [dC,e] using hok
     exact this.1
    ·exact ih _ a hn
   ·simp at a
theorem aW0(a:List Lt)(b:Nat)(e:b<a.length)(c:Nat)(g:c<a[b].2.length)(d:Int)(i:eY (a[b].2.take c) (nQ (a.take b))=some d)(f:jL (some d) a[b].2[c]=none):nQ a=none:=by
 rw [aVp a b,zo e,zy,aVo a[b].2 _ c,i,zo g];have:eY (a[b].2[c]::a[b].2.drop (c+1)) (some d)=none:=by show eY (a[b].2.drop (c+1)) (jL (some d) a[b].2[c])=none;rw [f,aDp]
 rw [this,aK2]
theorem aW1(Q:Option Addr)(a2:Nat)(b:List Lt)(y:World)(F:cH y Q b)(b7:aR b<=60):Calls zu 117 #[.slice Q b.length a2] y λu b0=>u=.returned (.bool (nQ b).isSome)/\aB y b0:=by
 have b9:=F.few;have a1:=aA F;clear F;go_enter Tryz.func117,Tryz.ntmps117;go_wp2;go_loopw [3,10] (λL I wr=>∃(c:Nat) (l:Int),c<=b.length/\I=.int .i64 c/\L=.int .i64 l/\0<=l/\l<=aR (b.take c)/\nQ (b.take c)=some l/\aB y wr) (λ_ I _=>b.length-(intOf I).toNat);case atStart=>exact ⟨0,0,zj _,rfl,rfl,by omega,by simp,rfl,Below.refl _ _⟩
 case round=>
  obtain ⟨c,l,c0,rfl,rfl,a7,c2,w,n⟩:=hrel;have b8:=xV b c;by_cases v:c<b.length
  ·obtain ⟨b5,c7,b3,b4,rfl,R,T,V⟩:=a1.o.cell c v;have a3:=aC n R;have a4:=aC n T;have X:=xV b (c+1);rw [zx v,rH] at X;have B:=aA (aVn b c v);have P:aM (aR (b.take (c+1))=aR (b.take c)+b[c].2.length):=by
    rw [zx v,rH];exact rfl
   have A:=aA (λd Z a=>aW0 b c v d Z a);rw [w] at B A;have E:=aA V;have D:=aA n;have a6:=n.size;generalize b[c]=z at *;obtain ⟨c8,i⟩:=z;simp only at a3 a4 B A E P X;have c5:=E.o.few;clear R T V n w;go_wp2;go_loopw [3,17] (λL J b1=>∃(d:Nat) (a:Int),d<=i.length/\J=.int .i64 d/\L=.int .i64 a/\0<=a/\a<=aR (b.take c)+d/\eY (i.take d) (some l)=some a/\aB y b1) (λ_ J _=>i.length-(intOf J).toNat);case atStart=>exact ⟨0,l,zj _,rfl,rfl,a7,by omega,rfl,D.o.alloc a6 _⟩
   case round=>
    obtain ⟨d,a,Z,rfl,rfl,H,c3,s,o⟩:=hrel;by_cases G:d<i.length
    ·obtain ⟨b6,c6,rfl,S,U⟩:=E.o.cell d G;have a8:=aC o S;have a9:=aC o U;have j:=aA (aVm i (some l) d G);have t:=aA (A.o d G a s);rw [s] at j;generalize i[d]=nd at *;obtain ⟨x,k⟩:=nd;simp only at a8 a9;have p:=aA (λb2=>pT x k b2);have q:=aA o;have C:=o.size;clear S U s o;cases hv:x.toList.isEmpty
     ·have e:aM (jL (some a) (x,k)=some a):=aA (by simp [jL,aL,hv]);rw [hv] at p;rw [e.o] at j;clear hv t e;go_wp2_with (go_at_call 67;refine (aD p _).mono ?_;rintro u O ⟨rfl,f⟩;obtain ⟨M,N,g⟩:=jC f;have m:=aA (q.o.trans (g.mono C));clear f g);go_roundw;case rel=>exact ⟨d+1,a,by omega,by go_num,rfl,H,by omega,j.o,m.o⟩
      case measure=>simp [intOf];omega
     ·rw [hv] at p;by_cases W:a<k
      ·have e:=aA (t.o (by simp [jL,aL,hv,W]));clear hv t j;go_wp2_with (go_at_call 67;refine (aD p _).mono ?_;rintro u O ⟨rfl,f⟩;obtain ⟨M,N,g⟩:=jC f;have m:=aA (q.o.trans (g.mono C));clear f g);go_ret;exact ⟨dL (by rw [e.o];rfl),m.o⟩
      ·by_cases r:k=a
       ·have e:aM (jL (some a) (x,k)=some (a+1)):=aA (by simp [jL,aL,hv,r]);rw [e.o] at j;have a5:(k==a)=true:=by simp [r]
        clear hv t e r;go_wp2_with (go_at_call 67;refine (aD p _).mono ?_;rintro u O ⟨rfl,f⟩;obtain ⟨M,N,g⟩:=jC f;have m:=aA (q.o.trans (g.mono C));clear f g);go_roundw;case rel=>exact ⟨d+1,a+1,by omega,by go_num,by go_num,by omega,by omega,j.o,m.o⟩
        case measure=>simp [intOf];omega
       ·have e:aM (jL (some a) (x,k)=some a):=aA (by simp only [jL,aL,hv,if_true,aI W,aI r]);rw [e.o] at j;have a5:(k==a)=false:=by simp [r]
        clear hv t e r;go_wp2_with (go_at_call 67;refine (aD p _).mono ?_;rintro u O ⟨rfl,f⟩;obtain ⟨M,N,g⟩:=jC f;have m:=aA (q.o.trans (g.mono C));clear f g);go_roundw;case rel=>exact ⟨d+1,a,by omega,by go_num,rfl,H,by omega,j.o,m.o⟩
        case measure=>simp [intOf];omega
    ·have a0:i.take d=i:=zs (by omega);rw [a0] at s;have e:=aA (B.o.trans s);have q:=aA o;have c1:d=i.length:=by omega
     have c4:a<=aR (b.take c)+i.length:=by omega
     clear s o a0 A B;go_wp2;go_roundw;case rel=>exact ⟨c+1,a,by omega,by go_num,rfl,H,by rw [P.o];omega,e.o,q.o⟩
     case measure=>simp [intOf];omega
  ·have Y:b.take c=b:=zs (by omega);rw [Y] at w;have e:=aA w;have D:=aA n;clear Y w n;go_wp2;go_ret;exact ⟨dL (by rw [e.o];rfl),D.o⟩
theorem aW2(c:Option Addr)(p:Nat)(a:List Lt)(l:World)(j:cH l c a)(y:aR a<=60)(u:∀H∈a,qQ H.2):Calls zu 102 #[.slice c a.length p] l λi F=>i=.returned (.bool (decide (a=aV a)))/\aB l F:=by
 have s:=aA (aVy a u);have r:=aA (aKz c p a l j);have J:=j.few;have I:=(jW a).1;have v:=aA (λwx (B:cH wx c a)=>aW1 c p a wx B y);have x:=aA j;clear j u;by_cases k:(bT a).length=a.length
 ·have A:(((bT a).length:Int)==(a.length:Int))=true:=by rw [beq_iff_eq];omega
  have n:aM (decide (a=aV a)=(nQ a).isSome):=aA (by rw [s.o,k];simp);clear k;generalize hdl:(bT a).length=m at *;go_enter Tryz.func102,Tryz.ntmps102;go_wp2_with (first
   |(go_at_call 69;refine (aD r).mono ?_;rintro i G ⟨C,o,rfl,d,q,f,b⟩;obtain ⟨D,E,rfl⟩:=bA f;have e:o.length=m:=(by rw [<-hdl,<-d];simp);rw [e];have g:=aA b;have z:=b.size;clear d q f b e)
   |(go_at_call 117;refine (aD v _ (x.o.below g.o (zz _))).mono ?_;rintro i L ⟨rfl,t⟩;have w:=aA (g.o.trans (t.mono z));clear t))
  go_ret;exact ⟨dL n.o.symm,w.o⟩
 ·have A:(((bT a).length:Int)==(a.length:Int))=false:=by rw [beq_eq_false_iff_ne];omega
  have n:aM (decide (a=aV a)=false):=aA (by rw [s.o];simp [k]);clear k;generalize hdl:(bT a).length=m at *;go_enter Tryz.func102,Tryz.ntmps102;go_wp2_with (first
   |(go_at_call 69;refine (aD r).mono ?_;rintro i G ⟨C,o,rfl,d,q,f,b⟩;obtain ⟨D,E,rfl⟩:=bA f;have e:o.length=m:=(by rw [<-hdl,<-d];simp);rw [e];have g:=aA b;clear d q f b e))
  go_ret;exact ⟨dL n.o.symm,g.o⟩
theorem aKa(q:Option Addr)(y:Nat)(a:List Lt)(e:World)(m:cH e q a)(M:kN e):Calls zu 81 #[.slice q a.length y] e λi Q=>i=.returned (.bool (aS a))/\aB e Q:=by
 have a3:=m.few;have g:=wO q y a e m;have U:=aA M;have G:=aA m;clear M;by_cases k:bL a=true
 ·have Z:a.length<=8/\aR a<=60:=by simpa [bL] using k
  rw [k] at g;have u:=aA g;have p:aM (aS a=((a.all λn=>gF n.2) && decide (a=aV a))):=by unfold aS;rw [k];exact Bool.true_and _▸rfl
  obtain ⟨a2,X⟩:=Z;clear g k m;go_enter Tryz.func81,Tryz.ntmps81;go_wp2_with (go_at_call 35;refine (aD u).mono ?_;rintro i a6 ⟨rfl,Y⟩);go_loopw [10] (λD wr=>∃b:Nat,b<=a.length/\D=.int .i64 b/\aB e wr/\((a.take b).all λn=>gF n.2)=true) (λD _=>a.length-(intOf D).toNat);case atStart=>exact ⟨0,zj _,rfl,Y,rfl⟩
  case round=>
   obtain ⟨b,a4,rfl,c,j⟩:=hrel;by_cases O:b<a.length
   ·obtain ⟨a1,a5,H,I,rfl,J,L,z⟩:=G.o.cell b O;have V:=aC c J;have W:=aC c L;have w:aM (((a.take (b+1)).all λn=>gF n.2)=gF a[b].2):=by
     rw [zx O,List.all_append,j];exact Bool.and_true _▸rfl
    have v:aM (gF a[b].2=false->aS a=false):=λC=>by
     rw [p.o,Bool.and_eq_false_iff];left;rw [List.all_eq_false];exact ⟨a[b],List.getElem_mem _,by simp [C]⟩
    have A:=c.size;generalize a[b]=o at *;obtain ⟨a0,E⟩:=o;simp only at V W z;have r:aB e (wr.alloc (.cells #[.bool a0,.slice H E.length I] 86)):=c.alloc A _;have f:=aZp H I E _ (z.below r (zz _)) (U.o.below r (zz _));have F:=aA r;clear J L j c z r;cases ha:gF E
    ·rw [ha] at f;have x:=aA (v.o ha);have s:=aA f;clear f ha v w;go_wp2_with (go_at_call 101;refine (aD s).mono ?_;rintro i R ⟨rfl,d⟩;have l:=aA (bK F.o d);clear d);go_ret;exact ⟨dL x.o.symm,l.o⟩
    ·rw [ha] at f;have x:=aA (w.o.trans ha);have s:=aA f;clear f ha v w;go_wp2_with (go_at_call 101;refine (aD s).mono ?_;rintro i R ⟨rfl,d⟩;have l:=aA (bK F.o d);clear d);go_roundw;case rel=>exact ⟨b+1,by omega,by go_num,l.o,x.o⟩
     case measure=>simp [intOf];omega
   ·have N:a.take b=a:=zs (by omega);rw [N] at j;have T:aM (aS a=decide (a=aV a)):=by rw [p.o,j];exact Bool.true_and _▸rfl
    have P:∀o∈a,qQ o.2:=λo C=>aVz (List.all_eq_true.1 j o C)
    have S:=aA (aW2 q y a wr (G.o.below c (zz _)) X P);have t:=aA c;have A:=c.size;clear N j c P;go_wp2_with (go_at_call 102;refine (aD S).mono ?_;rintro i R ⟨rfl,d⟩;have l:=aA (t.o.trans (d.mono A));clear d);go_ret;exact ⟨dL T.o.symm,l.o⟩
 ·have B:bL a=false:=by simpa using k
  rw [B] at g;have p:aM (aS a=false):=by unfold aS;rw [B];rfl
  have u:=aA g;clear g k B m;go_enter Tryz.func81,Tryz.ntmps81;go_wp2_with (go_at_call 35;refine (aD u).mono ?_;rintro i Q ⟨rfl,c⟩;have t:=aA c;clear c);go_ret;exact ⟨dL p.o.symm,t.o⟩
def aDq(c d:List Lt)(e f:Int)(a b:Nat):Prop:=∃(g:a<c.length) (i:b<d.length),e=a/\f=b/\c[a].1≠d[b].1
def jX(a c:List Lt)(i j:Int)(f:List Lt)(g:Bool)(e:Int):Prop:=
 (¬(aS a=true/\aS c=true)/\f=[]/\g=false/\e=5)\/
 (aS a=true/\aS c=true/\(((¬∃b d,aDq a c i j b d)/\f=[]/\g=false/\e=6)\/
  ∃b d,aDq a c i j b d/\dU (aN 0 (a.getD b default).2++aN 1 (c.getD d default).2) 0 (a.getD b default).2.length (aZ 0 [(a,b),(c,d)]) f g e))
def aKb(c:List Lt)(d e:Int)(a b:Nat):Prop:=∃(f:a<c.length) (g:b<c.length),d=a/\e=b/\a<b/\c[a].1=c[b].1
def uQ(a:List Lt)(g i:Int)(e:List Lt)(f:Bool)(d:Int):Prop:=
 (aS a=false/\e=[]/\f=false/\d=5)\/
 (aS a=true/\(((¬∃b c,aKb a g i b c)/\e=[]/\f=false/\d=6)\/
  ∃b c,aKb a g i b c/\dU (aN 0 (a.getD b default).2++aN 0 (a.getD c default).2) 0 (a.getD b default).2.length (aZ 0 [(a,c)]) e f d))
theorem jX.one{i j:List Lt}{m n:Int}{o p:List Lt}{q r:Bool}{k l:Int}(c:jX i j m n o q k)(a:jX i j m n p r l):o=p/\q=r/\k=l:=by
 rcases c with ⟨g,rfl,rfl,rfl⟩|⟨g,u,c⟩
 ·rcases a with ⟨_,rfl,rfl,rfl⟩|⟨b,v,_⟩
  ·exact ⟨rfl,rfl,rfl⟩
  ·exact absurd ⟨b,v⟩ g
 ·rcases a with ⟨b,_⟩|⟨_,_,a⟩
  ·exact absurd ⟨g,u⟩ b
  ·rcases c with ⟨b,rfl,rfl,rfl⟩|⟨d,e,f,c⟩
   ·rcases a with ⟨_,rfl,rfl,rfl⟩|⟨d,e,f,_⟩
    ·exact ⟨rfl,rfl,rfl⟩
    ·exact absurd ⟨d,e,f⟩ b
   ·rcases a with ⟨b,_⟩|⟨s,t,w,a⟩
    ·exact absurd ⟨d,e,f⟩ b
    ·obtain ⟨_,_,x,y,_⟩:=f;obtain ⟨_,_,z,A,_⟩:=w;obtain rfl:d=s:=by omega
     obtain rfl:e=t:=by omega
     exact aFp c a
def rU(g:List Lt->Bool->Int->Prop)(d:World)(i:Ending)(e:World):Prop:=
 ∃c a f b,i=.returned (.tuple #[c,.bool f,.int .i64 b])/\g a f b/\bR d.heap.size e c a/\a.length<=100/\aB d e
theorem rU.none{S:List Lt->Bool->Int->Prop}{w w':World}{a:Int}(b:S [] false a)(c:aB w w'):rU S w (.returned (.tuple #[.slice none 0 0,.bool false,.int .i64 a])) w':=
 ⟨_,[],false,a,rfl,b,bR.nil _ _,by simp,c⟩
theorem aKc(f:Option Addr)(b g:Nat)(a:Int)(e:World):Calls zu 82 #[.slice f b g,.int .i64 a] e λi j=>i=.returned (.bool (decide (0<=a/\a<b)))/\j=e:=by
 by_cases c:0<=a
 ·by_cases d:a<b
  ·have:decide (0<=a/\a<b)=true:=by simp [c,d]
   rw [this];go_enter zc,zg;go_wp2;go_ret;exact ⟨rfl,rfl⟩
  ·have:decide (0<=a/\a<b)=false:=by simp [d]
   rw [this];go_enter zc,zg;go_wp2;go_ret;exact ⟨rfl,rfl⟩
 ·have:decide (0<=a/\a<b)=false:=by simp [c]
  rw [this];go_enter zc,zg;go_wp2;go_ret;exact ⟨rfl,rfl⟩
theorem aW3(C D:Option Addr)(u v:Nat)(a b:List Lt)(l m:Int)(n:World)(F:cH n C a)(M:cH n D b)(V:kN n):Calls zu 53 #[.slice C a.length u,.int .i64 l,.slice D b.length v,.int .i64 m] n λj c7=>rU (jX a b l m) n j c7:=by
 have q:=aA (aKa C u a n F V);have b9:=aA V;have a4:=aA F;have S:=aA M;clear F M V;cases i1:aS a with
 |false=>
  have k:aM (jX a b l m [] false 5):=aA (Or.inl ⟨by simp [i1],rfl,rfl,rfl⟩);rw [i1] at q;clear i1;go_enter zq,zr;go_wp2_with (go_at_call 81;refine (aD q).mono ?_;rintro j G ⟨rfl,c⟩;have f:=aA c;clear c);go_returns;exact rU.none k.o f.o
 |true=>
  rw [i1] at q;have s:=aA (λp (r:aB n p)=>aKa D v b p (S.o.below r (zz _)) (b9.o.below r (zz _)));cases i2:aS b with
  |false=>
   have k:aM (jX a b l m [] false 5):=aA (Or.inl ⟨by simp [i2],rfl,rfl,rfl⟩);rw [i2] at s;clear i1 i2;go_enter zq,zr;go_wp2_with (first
    |(go_at_call 81;refine (aD s _ f.o).mono ?_;rintro j A ⟨rfl,g⟩;have i:=aA (f.o.trans (g.mono o));clear g)
    |(go_at_call 81;refine (aD q).mono ?_;rintro j G ⟨rfl,c⟩;have f:=aA c;have o:=c.size;clear c))
   go_returns;exact rU.none k.o i.o
  |true=>
   rw [i2] at s;have I:=aA (And.intro i1 i2);have x:=aA (λp=>aKc C a.length u l p);have B:=aA (λp=>aKc D b.length v m p);have t:aM ((¬∃d e,aDq a b l m d e)->jX a b l m [] false 6):=aA λc1=>Or.inr ⟨i1,i2,Or.inl ⟨c1,rfl,rfl,rfl⟩⟩
   clear i1 i2;by_cases w:0<=l/\l<a.length
   ·rw [fC w] at x;obtain ⟨d,rfl⟩ : ∃d:Nat,l=d:=⟨l.toNat,by omega⟩;have N:d<a.length:=by omega
    by_cases y:0<=m/\m<b.length
    ·rw [fC y] at B;obtain ⟨e,rfl⟩ : ∃e:Nat,m=e:=⟨m.toNat,by omega⟩;have O:e<b.length:=by omega
     have d5:(d:Int)<(a.length:Int):=by omega
     have d7:(e:Int)<(b.length:Int):=by omega
     have d6:(0:Int)<=(d:Int):=by omega
     have d8:(0:Int)<=(e:Int):=by omega
     obtain ⟨T,a1,c9,d0,rfl,E,_,_⟩:=a4.o.cell d N;obtain ⟨U,a2,d1,d2,rfl,L,_,_⟩:=S.o.cell e O;by_cases z:a[d].1=b[e].1
     ·have k:=aA (t.o (λ⟨a5,a6,b1,b2,b3,b4,c4⟩=>by
       obtain rfl:d=a5:=by omega
       obtain rfl:e=a6:=by omega
       exact c4 z))
      rw [z] at E;clear t w y z;go_enter zq,zr;go_upto_region 3 with (first
       |(go_at_call 81;refine (aD s _ f.o).mono ?_;rintro j A ⟨rfl,g⟩;have i:=aA (f.o.trans (g.mono o));clear g)
       |(go_at_call 81;refine (aD q).mono ?_;rintro j G ⟨rfl,c⟩;have f:=aA c;have o:=c.size;clear c))
      have a7:=aC i.o E;have a8:=aC i.o L;go_quiet (first|(go_at_call_of 82 (zp (some ⟨T,a1,none⟩) a.length u);exact zw (aD x _))|(go_at_call_of 82 (zp (some ⟨U,a2,none⟩) b.length v);exact zw (aD B _)));go_wp2;go_returns;exact rU.none k.o (bK i.o (aU ⟨_,rfl⟩))
     ·have c2:(a[d].1==b[e].1)=false:=by simpa using z
      have X:=kV I.o.1;have a0:=kV I.o.2;have b5:=aA (λ(p:World) (r:aB n p)=>aNe (some ⟨T,a1,none⟩) (some ⟨U,a2,none⟩) u v a b d e p (a4.o.below r (zz _)) (S.o.below r (zz _)) X.term a0.term N O X.len a0.len);have k:aM (∀P R J Q H,aB n Q->zB Q Q.heap.size (aN 0 a[d].2++aN 1 b[e].2) 0 a[d].2.length (aZ 0 [(a,d),(b,e)]) P R J H->rU (jX a b d e) n (.returned (.tuple #[P,.bool R,.int .i64 J])) H):=aA λP R J Q H r b0=>by
       obtain ⟨c3,F,M,c0⟩:=(b0.lift r).out;exact ⟨P,c3,R,J,rfl,Or.inr ⟨I.o.1,I.o.2,Or.inr ⟨d,e,⟨N,O,rfl,rfl,z⟩,by simpa [N,O] using F⟩⟩,M,c0,(b0.lift r).low⟩
      clear t w y X a0;obtain ⟨d3,W⟩ : ∃a3,a[d].1=a3:=⟨_,rfl⟩;obtain ⟨d4,Z⟩ : ∃a3,b[e].1=a3:=⟨_,rfl⟩;rw [W] at E;rw [Z] at L;rw [W,Z] at c2;clear W Z z;go_enter zq,zr;go_upto_region 3 with (first
       |(go_at_call 81;refine (aD s _ f.o).mono ?_;rintro j A ⟨rfl,g⟩;have i:=aA (f.o.trans (g.mono o));clear g)
       |(go_at_call 81;refine (aD q).mono ?_;rintro j G ⟨rfl,c⟩;have f:=aA c;have o:=c.size;clear c))
      have a7:=aC i.o E;have a8:=aC i.o L;go_quiet (first|(go_at_call_of 82 (zp (some ⟨T,a1,none⟩) a.length u);exact zw (aD x _))|(go_at_call_of 82 (zp (some ⟨U,a2,none⟩) b.length v);exact zw (aD B _)));have Y:aB n (A.drewN nq):=bK i.o (aU (w1:=A.drewN nq) ⟨nq,rfl⟩);have b6:=aA (b5.o _ Y);have b8:=aA Y;clear E L a7 a8 Y;go_wp2_with (first
       |(go_at_call 83;refine (aD b6).mono ?_)
       |go_in)
      rintro j H ⟨c6,c8,c5,rfl,a9⟩;have b7:=aA (k.o c6 c8 c5 _ H b8.o a9);clear a9;go_wp2;go_returns;exact b7.o
    ·rw [gB y] at B;have k:=aA (t.o (λ⟨a5,a6,b1,b2,b3,b4,_⟩=>y (by omega)));clear t w y;go_enter zq,zr;go_upto_region 3 with (first
      |(go_at_call 81;refine (aD s _ f.o).mono ?_;rintro j A ⟨rfl,g⟩;have i:=aA (f.o.trans (g.mono o));clear g)
      |(go_at_call 81;refine (aD q).mono ?_;rintro j G ⟨rfl,c⟩;have f:=aA c;have o:=c.size;clear c))
     go_quiet (first|(go_at_call_of 82 (zp C a.length u);exact zw (aD x _))|(go_at_call_of 82 (zp D b.length v);exact zw (aD B _)));go_wp2;go_returns;exact rU.none k.o (bK i.o (aU ⟨_,rfl⟩))
   ·rw [gB w] at x;have k:=aA (t.o (λ⟨d,e,b1,b2,b3,b4,_⟩=>w (by omega)));clear t w;go_enter zq,zr;go_upto_region 3 with (first
     |(go_at_call 81;refine (aD s _ f.o).mono ?_;rintro j A ⟨rfl,g⟩;have i:=aA (f.o.trans (g.mono o));clear g)
     |(go_at_call 81;refine (aD q).mono ?_;rintro j G ⟨rfl,c⟩;have f:=aA c;have o:=c.size;clear c))
    go_quiet ((go_at_call 82;exact zw (aD x _)));go_wp2;go_returns;exact rU.none k.o (bK i.o (aU ⟨_,rfl⟩))
theorem aDr(a b:Int)(e:World):Calls zu 52 #[.int .i64 a,.int .i64 b] e λf g=>f=.returned (.bool (decide (0<=a/\a<b)))/\g=e:=by
 by_cases c:0<=a
 ·by_cases d:a<b
  ·have:decide (0<=a/\a<b)=true:=by simp [c,d]
   rw [this];go_enter za,zf;go_wp2;go_ret;exact ⟨rfl,rfl⟩
  ·have:decide (0<=a/\a<b)=false:=by simp [d]
   rw [this];go_enter za,zf;go_wp2;go_ret;exact ⟨rfl,rfl⟩
 ·have:decide (0<=a/\a<b)=false:=by simp [c]
  rw [this];go_enter za,zf;go_wp2;go_ret;exact ⟨rfl,rfl⟩
theorem aW4(a:Lt):mH a a=true:=by rw [aGs];simp
theorem aW5(u v:Option Addr)(J L:Nat)(b:List Lt)(e:World)(n:cH e u b)(y:cH e v b):Calls zu 36 #[.slice u b.length J,.slice v b.length L,.func (Fn.func 37) #[] #[]] e λw M=>w=.returned (.bool true)/\aB e M:=by
 have V:=n.few;have r:=aA n;have s:=aA y;clear n y;go_enter Tryz.func36,Tryz.ntmps36;go_wp2;go_loopw [17] (λo wr=>∃a:Nat,a<=b.length/\o=.int .i64 a/\aB e wr) (λo _=>b.length-(intOf o).toNat);case atStart=>exact ⟨0,zj _,rfl,Below.refl _ _⟩
 case round=>
  obtain ⟨a,W,rfl,c⟩:=hrel;by_cases A:a<b.length
  ·obtain ⟨O,Y,F,G,rfl,j,k,p⟩:=r.o.cell a A;obtain ⟨P,Z,H,I,rfl,l,m,q⟩:=s.o.cell a A;have g:=aA (λ(C:World) (B:aB e C)=>aEc b[a].1 b[a].1 F H G I b[a].2 b[a].2 C (p.below B (zz _)) (q.below B (zz _)));rw [show mH (b[a].1,b[a].2) (b[a].1,b[a].2)=true from aW4 _] at g;generalize b[a]=x at *;obtain ⟨a1,N⟩:=x;simp only at j k l m g p q;have Q:=aC c j;have R:=aC c k;have f:=λd=>Below.trans c ((Below.refl e.heap.size wr).alloc c.size d)
   have S:=λd=>aC (f d) l
   have T:=λd=>aC (f d) m
   have X:(a:Int)<(b.length:Int):=by omega
   have t:=aA c;have i:=aA (λd E=>Below.trans (f d) ((Below.refl e.heap.size (wr.alloc d)).alloc (Nat.le_trans c.size (by simp)) E));have U:=c.size;clear j k l m p q c f;generalize N.length=xn at *;go_wp2_with (first
    |(go_at_call 37;refine (aD g _ (i.o _ _)).mono ?_;rintro w a0 ⟨rfl,z⟩;have D:=aA ((i.o _ _).trans (z.mono (i.o _ _).size));clear z)
    |go_in)
   go_roundw;case rel=>exact ⟨a+1,by omega,by go_num,D.o⟩
   case measure=>simp [intOf];omega
  ·obtain rfl:a=b.length:=by omega
   have t:=aA c;clear c r s;go_wp2;go_ret;exact ⟨rfl,t.o⟩
theorem aW6(j c p a:Nat)(t:Value)(q:Option Addr)(s r:Nat)(n:Option Addr)(m g:Nat)(b:World)(k:b.cell? ⟨j,a,none⟩=some (.slice n m g))(v:a<c):Calls zu 34 #[.slice (some ⟨j,0,none⟩) c p,t,.agg #[.int .i64 1,.int .i64 a,.int .i64 0,.int .i64 0,.int .i64 0,.slice q s r]] b λi u=>i=.returned (.tuple #[.slice n m g,.bool true])/\aB b u:=by
 have f:=aA (λe=>aDr (a:Int) (c:Int) e);rw [fC (show (0:Int)<=(a:Int)/\(a:Int)<(c:Int) by omega)] at f;have w:(a:Int)<(c:Int):=by omega
 have x:=λd=>aC ((Below.refl b.heap.size b).alloc (zz _) d) k
 have o:=aA (λd=>(Below.refl b.heap.size b).alloc (zz _) d);clear k;go_enter Tryz.func34,Tryz.ntmps34;go_wp2_with (first
  |(go_at_call 52;refine (aD f _).mono ?_;rintro i e ⟨rfl,l⟩;rw [l];clear l e)
  |go_in)
 go_returns;exact ⟨rfl,o.o _⟩
theorem aW7(a3:Option Addr)(a5 a4 u g U b c m n:Nat)(D:Option Addr)(F E:Nat)(z A:Option Addr)(B C:Nat)(s t q:List Lt)(a:World)(b1:b<g)(b3:c<g)(I:a.cell? ⟨u,b*6+5,none⟩=some (.slice z s.length B))(J:a.cell? ⟨u,c*6+5,none⟩=some (.slice A t.length C))(L:cH a z s)(M:cH a A t)(O:kN a)(N:jX s t m n q true 0)(Q:aS q=true):Calls zu 34 #[.slice a3 a5 a4,.slice (some ⟨u,0,none⟩) g U,.agg #[.int .i64 2,.int .i64 b,.int .i64 c,.int .i64 m,.int .i64 n,.slice D F E]] a λk i=>∃j r,k=.returned (.tuple #[.slice j q.length r,.bool true])/\cH i j q/\aB a i:=by
 have G:=aA (λf=>aDr (b:Int) (g:Int) f);have H:=aA (λf=>aDr (c:Int) (g:Int) f);rw [fC (show (0:Int)<=(b:Int)/\(b:Int)<(g:Int) by omega)] at G;rw [fC (show (0:Int)<=(c:Int)/\(c:Int)<(g:Int) by omega)] at H;have b2:(b:Int)<(g:Int):=by omega
 have b4:(c:Int)<(g:Int):=by omega
 obtain ⟨d,a0,o,p,Y⟩ : ∃d,a.alloc (.cells #[.int .i64 2,.int .i64 b,.int .i64 c,.int .i64 m,.int .i64 n,.slice D F E] 53)=d/\aB a d/\d.heap[a.heap.size]?=some (.cells #[.int .i64 2,.int .i64 b,.int .i64 c,.int .i64 m,.int .i64 n,.slice D F E] 53 (0,0))/\d.heap.size=a.heap.size+1:=⟨_,rfl,(Below.refl _ a).alloc (zz _) _,zi a _,by simp⟩;have a1:=aC o I;have a2:=aC o J;have b7:d.cell? ⟨a.heap.size,0,none⟩=some (.int .i64 2):=by simp [zv,p]
 have a6:d.cell? ⟨a.heap.size,1,none⟩=some (.int .i64 b):=by simp [zv,p]
 have a7:d.cell? ⟨a.heap.size,2,none⟩=some (.int .i64 c):=by simp [zv,p]
 have a8:d.cell? ⟨a.heap.size,3,none⟩=some (.int .i64 m):=by simp [zv,p]
 have a9:d.cell? ⟨a.heap.size,4,none⟩=some (.int .i64 n):=by simp [zv,p]
 have R:=aA (λ(f:World) (y:∃e,f=d.drewN e)=>(aW3 z A B C s t m n f (by obtain ⟨e,rfl⟩:=y;exact (L.below o (zz _)).below (aU ⟨e,rfl⟩) (zz _)) (by obtain ⟨e,rfl⟩:=y;exact (M.below o (zz _)).below (aU ⟨e,rfl⟩) (zz _)) (by obtain ⟨e,rfl⟩:=y;exact (O.below o (zz _)).below (aU ⟨e,rfl⟩) (zz _))).mono (R':=λk x=>∃j r,k=.returned (.tuple #[.slice j q.length r,.bool true,.int .i64 0])/\cH x j q/\aB a x/\aB d x) (λk x W=>by
  obtain ⟨e,rfl⟩:=y;obtain ⟨b6,b5,c4,b0,rfl,Z,V,_,v⟩:=W;obtain ⟨rfl,rfl,rfl⟩:=Z.one N;obtain ⟨j,r,rfl,_,X,_⟩:=V.lits (kV Q);exact ⟨j,r,rfl,X,bK o ((aU ⟨e,rfl⟩).trans v),(aU ⟨e,rfl⟩).trans v⟩))
 clear I J L M O N Q p Y;go_enter Tryz.func34,Tryz.ntmps34;go_upto_region 1 with (fail);clear a0;go_upto_region 9 with (first
  |(go_at_call_of 52 (Value.int IntKind.i64 (b:Int));refine (aD G _).mono ?_;rintro k f ⟨rfl,w⟩;rw [w];clear w f)
  |(go_at_call_of 52 (Value.int IntKind.i64 (c:Int));refine (aD H _).mono ?_;rintro k f ⟨rfl,w⟩;rw [w];clear w f)
  |go_in)
 generalize s.length=cn at *;generalize t.length=dn at *;go_region_held3 (λi=>i.cell? ⟨a.heap.size,1,none⟩=some (.int .i64 b)/\i.cell? ⟨a.heap.size,2,none⟩=some (.int .i64 c)/\i.cell? ⟨a.heap.size,3,none⟩=some (.int .i64 m)/\i.cell? ⟨a.heap.size,4,none⟩=some (.int .i64 n)/\i.cell? ⟨u,b*6+5,none⟩=some (.slice z cn B)/\i.cell? ⟨u,c*6+5,none⟩=some (.slice A dn C)) (first|trivial|go_keep)
  (first
   |(go_at_call 53;refine (aD R _ (by first|exact ⟨0,rfl⟩|exact ⟨1,rfl⟩|exact ⟨_,rfl⟩)).mono ?_;rintro k x ⟨j,r,rfl,P,v,l⟩;have T:=aA P;have S:=aA v;have b8:=aC l a6;have b9:=aC l a7;have c0:=aC l a8;have c1:=aC l a9;have c2:=aC l a1;have c3:=aC l a2;clear P v l)
   |go_in)
 go_wp2;go_returns;exact ⟨_,_,rfl,T.o,S.o⟩
theorem aW8(E D:Value)(p l m n o:Nat)(i:Option Addr)(k:Nat)(b:List Lt)(a:World)(C:cH a i b)(z:bL b=true)
  (A:∀e,aB a e->Calls zu 34 #[E,D,.agg #[.int .i64 p,.int .i64 l,.int .i64 m,.int .i64 n,.int .i64 o,.slice i b.length k]] e λj r=>∃d f,j=.returned (.tuple #[.slice d b.length f,.bool true])/\cH r d b/\aB e r):Calls zu 22 #[E,D,.agg #[.int .i64 p,.int .i64 l,.int .i64 m,.int .i64 n,.int .i64 o,.slice i b.length k]] a λj r=>j=.returned (.bool true)/\aB a r:=by
 obtain ⟨c,N,s,g,Q⟩ : ∃c,a.alloc (.cells #[.int .i64 p,.int .i64 l,.int .i64 m,.int .i64 n,.int .i64 o,.slice i b.length k] 53)=c/\aB a c/\c.heap[a.heap.size]?=some (.cells #[.int .i64 p,.int .i64 l,.int .i64 m,.int .i64 n,.int .i64 o,.slice i b.length k] 53 (0,0))/\c.heap.size=a.heap.size+1:=⟨_,rfl,(Below.refl _ a).alloc (zz _) _,zi a _,by simp⟩;have U:c.cell? ⟨a.heap.size,0,none⟩=some (.int .i64 p):=by simp [zv,g]
 have V:c.cell? ⟨a.heap.size,1,none⟩=some (.int .i64 l):=by simp [zv,g]
 have W:c.cell? ⟨a.heap.size,2,none⟩=some (.int .i64 m):=by simp [zv,g]
 have X:c.cell? ⟨a.heap.size,3,none⟩=some (.int .i64 n):=by simp [zv,g]
 have Y:c.cell? ⟨a.heap.size,4,none⟩=some (.int .i64 o):=by simp [zv,g]
 have O:c.cell? ⟨a.heap.size,5,none⟩=some (.slice i b.length k):=by simp [zv,g]
 have G:=aA (A c s);have v:=aA (λ(d:Option Addr) (f:Nat) (e:World) (u:cH e d b)=>wO d f b e u);rw [z] at v;have F:=aA (λ(d:Option Addr) (f:Nat) (e:World) (u:cH e d b) (M:aB a e)=>aW5 d i f k b e u (C.below M (zz _)));have H:=aA s;clear A C z g s;go_enter Tryz.func22,Tryz.ntmps22;go_upto_region 1 with (fail);clear N;go_wp2_with (first
  |(go_at_call 34;refine (aD G).mono ?_;rintro j R ⟨d,f,rfl,B,t⟩;have P:=aC t O;have x:=aA B;have I:=aA (bK H.o t);clear B t)
  |(go_at_call 35;refine (aD v d f _ x.o).mono ?_;rintro j S ⟨rfl,q⟩;have Z:=aC q P;have L:=aA (x.o.below q (zz _));have w:=aA (bK I.o q);clear q)
  |(go_at_call 36;refine (aD F d f _ L.o w.o).mono ?_;rintro j T ⟨rfl,y⟩;have J:=aA (bK w.o y);clear y)
  |go_in)
 go_ret;exact ⟨rfl,J.o⟩
