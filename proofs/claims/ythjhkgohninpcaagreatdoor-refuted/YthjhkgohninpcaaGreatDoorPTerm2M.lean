import Derived.Test.YthjhkgohninpcaaGreatDoorRClauseM
open Bool renaming eq_iff_iff→zo
open List renaming foldl_cons→zz,take_succ_eq_append_getElem→zy,foldl_append→zw,take_of_length_le→zv,drop_eq_getElem_cons→zt,length_cons→zr,append_cancel_left→zq,nil_append→zn,take_append_drop→zm,append_assoc→zk,cons_append→zj
open Nat renaming le_refl→zx,zero_le→zi
namespace Go.Proofs.YthjhkgohninpcaaGreatDoor
open _root_.Go.Proofs.Tryz renaming prog→zu,ntmps130→zs,func130→zp
open Go.RowKit Go.Shelf
set_option maxHeartbeats 1000000
set_option maxRecDepth 100000
theorem aI9(a:ByteArray)(b:Int)(g:World):Calls zu 100 #[.agg #[.string a,.int .i64 b]] g λd j=>d=.returned (.int .i64 (if a.toList.isEmpty then 0 else b))/\aC g j:=by
 have c:=aA (λk=>sE a b k);cases hv:a.toList.isEmpty;all_goals
  rw [hv] at c;clear hv;go_enter Tryz.func100,Tryz.ntmps100;go_wp2_with (go_at_call 92;refine (aB c _).mono ?_;rintro d n ⟨rfl,e⟩;obtain ⟨l,m,f⟩:=kY e;have i:=aA f;clear e f);go_ret;exact ⟨rfl,i.o⟩
theorem aSi(d:ByteArray)(a:Int)(j:World)(x:d.size<=140737488355328)(q:iC j):Calls zu 130 #[.agg #[.string d,.int .i64 a]] j λg z=>g=.returned (.bool (dU (d,a)))/\aC j z:=by
 have f:=aA (λk=>sE d a k);have r:aC j (j.alloc (.cells #[.string d,.int .i64 a] 106)):=(Below.refl _ _).alloc (zx _) _;have A:=aA r;have w:=aA q;clear r q;cases hv:d.toList.isEmpty
 ·have i:aG (dU (d,a)=(gE d && (decide (0<=a) && decide (a<=5)))):=aA (by simp [dU,aM,hv]);rw [hv] at f;by_cases l:0<=a
  ·by_cases p:a<=5
   ·have t:=aA (λk (y:iC k)=>aU8 d k x y);clear hv;go_enter zp,zs;go_wp2_with (first
     |(go_at_call 92;refine (aB f _).mono ?_;rintro g o ⟨rfl,b⟩;obtain ⟨m,n,c⟩:=kY b;have e:=aA c;clear b c)
     |(go_at_call 148;refine (aB t _ (w.o.below e.o (zx _))).mono ?_;rintro g B ⟨rfl,s⟩;have u:=aA (aV e.o s);clear s))
    go_ret;refine ⟨bM ?_,u.o⟩;rw [i.o];simp [l,p]
   ·clear hv;go_enter zp,zs;go_wp2_with (first
     |(go_at_call 92;refine (aB f _).mono ?_;rintro g o ⟨rfl,b⟩;obtain ⟨m,n,c⟩:=kY b;have e:=aA c;clear b c))
    go_ret;refine ⟨bM ?_,e.o⟩;rw [i.o];simp [p]
  ·have v:=aA (show decide (0<=a)=false by simpa using l);clear hv;go_enter zp,zs;go_wp2_with (first
    |(go_at_call 92;refine (aB f _).mono ?_;rintro g o ⟨rfl,b⟩;obtain ⟨m,n,c⟩:=kY b;have e:=aA c;clear b c))
   go_ret;refine ⟨bM ?_,e.o⟩;rw [i.o,v.o];simp
 ·have i:aG (dU (d,a)=(decide (0<=a) && decide (a<60))):=aA (by simp [dU,aM,hv]);rw [hv] at f;clear hv;by_cases l:0<=a;all_goals
   go_enter zp,zs;go_wp2_with (first
    |(go_at_call 92;refine (aB f _).mono ?_;rintro g o ⟨rfl,b⟩;obtain ⟨m,n,c⟩:=kY b;have e:=aA c;clear b c))
   go_ret;refine ⟨bM ?_,e.o⟩;rw [i.o,zo];simp;try omega
theorem aSj(a:List Nd)(b:¬a.length<=60):fQ a=false:=by simp [fQ,b]
theorem aSk(a:List Nd)(b:a.length<=60):fQ a=bA a 1:=by simp [fQ,b]
theorem aSl(N:Option Addr)(W:Nat)(a:List Nd)(v:World)(t:dO v N a)(E:iC v):Calls zu 95 #[.slice N a.length W] v λp a4=>p=.returned (.bool (fQ a))/\aC v a4:=by
 have a7:=t.few;by_cases Q:a.length<=60
 ·have r:=aA (aSk a Q);have V:=aA E;clear E;go_enter Tryz.func95,Tryz.ntmps95;go_wp2;go_loopw [3,11] (λa1 L wr=>∃b e:Nat,b<=a.length/\e<=1+5*b/\L=.int .i64 b/\a1=.int .i64 e/\aC v wr/\bA a 1=bA (a.drop b) e) (λ_ L _=>a.length-(intOf L).toNat);case atStart=>exact ⟨0,1,by omega,by omega,rfl,rfl,Below.refl _ _,rfl⟩
  case round=>
   obtain ⟨b,e,a8,a9,rfl,rfl,c,d⟩:=hrel;by_cases u:b<a.length
   ·obtain ⟨a6,b2,rfl,O,P⟩:=t.cell b u;have X:=aD c O;have Y:=aD c P;have T:=t.short b u;have x:=c.size;clear O P t;by_cases S:e=0
    ·subst S;rw [aG1 a b u] at d;have s:aG (fQ a=false):=r.o.trans d;have l:=aA c;clear d c;go_wp2;go_ret;exact ⟨bM s.o.symm,l.o.alloc l.o.size _⟩
    ·have j:((e:Int)==0)=false:=by rw [beq_eq_false_iff_ne];omega
     have I:=aG3 a b e u S;have G:=aG2 a b e u;generalize a[b]=nd at *;obtain ⟨i,f⟩:=nd;simp only at X Y T;have q:=aA (λA (J:iC A)=>aSi i f A T J);have w:=aA (λA=>aI9 i f A);have l:=aA c;have F:=aA (V.o.below (c.alloc x (.cells #[.string i,.int .i64 f] 106)) (zx _));by_cases o:dU (i,f)=true
     ·have M:=aA (d.trans (I o));simp only [o] at q;clear d I G c;by_cases m:i.toList.isEmpty=true
      ·have C:aG (bP (i,f)=0):=by unfold bP aM;rw [aJ m];exact rfl
       rw [aJ m] at w;clear o m;go_wp2_with (first
        |(go_at_call 130;refine (aB q _ F.out).mono ?_;rintro p U ⟨rfl,j⟩;obtain ⟨y,z,g⟩:=kY j;have n:=aA (l.o.trans (g.mono x));have D:=n.o.size;have Z:=g.size;clear j g)
        |(go_at_call 100;refine (aB w _).mono ?_;rintro p a5 ⟨rfl,k⟩;have a2:=aD k y;have a3:=aD k z;have B:=aA (n.o.trans (k.mono D));clear k))
       go_roundw;case rel=>exact ⟨b+1,e-1,by omega,by omega,by go_num,by go_num,B.o,by rw [M.o,C.o];rfl⟩
       case measure=>simp [intOf];omega
      ·have C:aG (bP (i,f)=f.toNat):=by unfold bP aM;rw [aI m];exact rfl
       have a0:i.toList.isEmpty=false:=by simpa using m
       have J:gE i=true/\0<=f/\f<=5:=by simpa [dU,aM,m] using o
       obtain ⟨_,b0,b1⟩:=J;rw [aI m] at w;clear o m a0;go_wp2_with (first
        |(go_at_call 130;refine (aB q _ F.out).mono ?_;rintro p U ⟨rfl,j⟩;obtain ⟨y,z,g⟩:=kY j;have n:=aA (l.o.trans (g.mono x));have D:=n.o.size;have Z:=g.size;clear j g)
        |(go_at_call 100;refine (aB w _).mono ?_;rintro p a5 ⟨rfl,k⟩;have a2:=aD k y;have a3:=aD k z;have B:=aA (n.o.trans (k.mono D));clear k))
       go_roundw;case rel=>exact ⟨b+1,e-1+f.toNat,by omega,by omega,by go_num,by go_num,B.o,by rw [M.o,C.o]⟩
       case measure=>simp [intOf];omega
     ·have H:dU (i,f)=false:=by simpa using o
      rw [G H] at d;have s:aG (fQ a=false):=r.o.trans d;simp only [H] at q;clear d I G c o H;go_wp2_with (first
       |(go_at_call 130;refine (aB q _ F.out).mono ?_;rintro p U ⟨rfl,j⟩;obtain ⟨y,z,g⟩:=kY j;have n:=aA (l.o.trans (g.mono x));clear j g))
      go_ret;exact ⟨bM s.o.symm,n.o⟩
   ·have R:a.drop b=[]:=List.drop_eq_nil_of_le (by omega);rw [R] at d;have s:aG (fQ a=decide (e=0)):=r.o.trans d;have l:=aA c;clear d R c;go_wp2;go_ret;refine ⟨bM ?_,l.o⟩;rw [s.o,zo];simp
 ·have r:=aA (aSj a Q);clear t E;go_enter Tryz.func95,Tryz.ntmps95;go_wp2;go_ret;exact ⟨bM r.o.symm,Below.refl _ _⟩
theorem aSm(l:Option Addr)(s:Nat)(b:List Nd)(f:World)(e:dO f l b)(o:iC f):Calls zu 54 #[.slice l b.length s] f λg z=>g=.returned (.bool (eT b))/\aC f z:=by
 have d:=aSl l s b f e o;by_cases c:fQ b=true
 ·cases b with
  |nil=>rw [aIn] at c;exact absurd c (by simp)
  |cons n0 r=>
   rw [c] at d;obtain ⟨C,D,rfl,m,n⟩:=e.cell 0 (by simp);simp only [List.getElem_cons_zero,Nat.zero_mul,Nat.add_zero] at m n;obtain ⟨q,u⟩:=n0;simp only at m n;have k:=aA (show eT ((q,u)::r) = !q.toList.isEmpty by simp [eT,c,aM]);have i:=aA d;have v:=aA (λB=>sE q u B);have y:=e.few;simp only [zr] at y;clear d c e o;go_enter Tryz.func54,Tryz.ntmps54;go_wp2_with (first
    |(go_at_call 95;refine (aB i).mono ?_;rintro g A ⟨rfl,a⟩;have E:=aD a m;have F:=aD a n;have j:=aA a;have x:=a.size;clear a)
    |(go_at_call 92;refine (aB v _).mono ?_;rintro g G ⟨rfl,t⟩;have w:=aA (j.o.trans (t.mono x));clear t))
   go_ret;exact ⟨bM k.o.symm,w.o⟩
 ·have p:fQ b=false:=by simpa using c
  rw [p] at d;have k:=aA (show eT b=false by simp [eT,p]);have i:=aA d;clear d c p e o;go_enter Tryz.func54,Tryz.ntmps54;go_wp2_with (go_at_call 95;refine (aB i).mono ?_;rintro g A ⟨rfl,a⟩;have j:=aA a;clear a);go_ret;exact ⟨bM k.o.symm,j.o⟩
def jX(b:Option Int)(a:Nd):Option Int:=
 match b with
 |none=>none
 |some x=>if aM a then (if x<a.2 then none else if a.2=x then some (x+1) else some x) else some x
def fN(a:List Nd)(b:Option Int):Option Int:=a.foldl jX b
def nM(a:List Lt):Option Int:=a.foldl (λb c=>fN c.2 b) (some 0)
theorem aDi(a:List Nd):fN a none=none:=by
 induction a with
 |nil=>rfl
 |cons x r ih=>simpa [fN,jX] using ih
theorem aSn(b:List Nd)(c:Option Int)(a:Nat)(d:a<b.length):fN (b.take (a+1)) c=jX (fN (b.take a) c) b[a]:=by rw [zy d];simp only [fN,zw,zz,List.foldl_nil]
theorem aSo(a:List Lt)(b:Nat)(c:b<a.length):nM (a.take (b+1))=fN a[b].2 (nM (a.take b)):=by rw [zy c];simp only [nM,zw,zz,List.foldl_nil]
theorem aSp(a:List Nd)(c:Option Int)(b:Nat):fN a c=fN (a.drop b) (fN (a.take b) c):=by
 conv=>lhs;rw [<-zm b a]
 simp only [fN,zw]
theorem aSq(a:List Lt)(b:Nat):nM a=(a.drop b).foldl (λc d=>fN d.2 c) (nM (a.take b)):=by
 conv=>lhs;rw [<-zm b a]
 simp only [nM,zw]
theorem aIa(a:List Lt):a.foldl (λc b=>fN b.2 c) none=none:=by
 induction a with
 |nil=>rfl
 |cons b r ih=>simp only [zz,aDi,ih]
def dV(a:Nat):List Int:=(List.range a).map Int.ofNat
theorem aIb(a:Nat):dV (a+1)=dV a++[(a:Int)]:=by simp [dV,List.range_succ]
theorem aIc(a:Nat):(dV a).length=a:=by simp [dV]
theorem aId(b:Nat)(a:Int):eK (dV b) a=if 0<=a/\a<b then a else -1:=by
 induction b with
 |zero=>simp [dV,aG4];omega
 |succ b ih=>
  rw [aIb,yB,aIc,ih];by_cases c:(b:Int)=a
  ·subst c;rw [aJ rfl,aJ (by omega)]
  ·rw [aI c];by_cases d:0<=a/\a<b
   ·rw [aJ d,aJ (by omega)]
   ·rw [aI d,aI (by omega)]
def qZ(b:List Nd):Prop:=∀a∈b,aM a=true->0<=a.2
theorem aIe(c:List Nd)(b:Nat)(a:Nd)(f:aM a=true)(d:¬(0<=a.2/\a.2<b)):cZ (c,dV b) a=(c++[(a.1,(b:Int))],dV b++[a.2]):=by
 have e:eK (dV b) a.2=-1:=by rw [aId,aI d]
 unfold cZ;rw [aJ f];show (if eK (dV b) a.2<0 then (c++[(a.1,((dV b).length:Int))],dV b++[a.2]) else (c++[(a.1,eK (dV b) a.2)],dV b))=_;rw [e,aJ (by omega),aIc]
theorem aSr(c:List Nd)(b:Nat)(a:Nd)(f:aM a=true)(d:0<=a.2/\a.2<b):cZ (c,dV b) a=(c++[a],dV b):=by
 have e:eK (dV b) a.2=a.2:=by rw [aId,aJ d]
 unfold cZ;rw [aJ f];show (if eK (dV b) a.2<0 then (c++[(a.1,((dV b).length:Int))],dV b++[a.2]) else (c++[(a.1,eK (dV b) a.2)],dV b))=_;rw [e,aI (by omega)]
theorem aIf(e:List Nd)(c:Nat)(b:Nd)(k:aM b=true->0<=b.2)(j:Int)(a:jX (some (c:Int)) b=some j):∃i:Nat,j=i/\cZ (e,dV c) b=(e++[b],dV i):=by
 simp only [jX] at a;by_cases d:aM b=true
 ·have l:=k d;rw [aJ d] at a;by_cases g:(c:Int)<b.2
  ·rw [aJ g] at a;simp at a
  ·rw [aI g] at a;by_cases f:b.2=(c:Int)
   ·rw [aJ f] at a;simp at a;refine ⟨c+1,by omega,?_⟩;rw [aIe e c b d (by omega),aIb,<-f]
   ·rw [aI f] at a;simp at a;exact ⟨c,by omega,aSr e c b d (by omega)⟩
 ·rw [aI d] at a;simp at a;refine ⟨c,by omega,?_⟩;unfold cZ;rw [aI d]
theorem aSs(d:List Nd):∀(c:List Nd) (b:Nat),qZ d->∀e,fN d (some (b:Int))=some e->∃f:Nat,e=f/\d.foldl cZ (c,dV b)=(c++d,dV f):=by
 induction d with
 |nil=>intro c b _ e a;simp [fN] at a;exact ⟨b,by omega,by simp⟩
 |cons n r ih=>
  intro c b g e a;simp only [fN,zz] at a ⊢;cases hs:jX (some (b:Int)) n with
  |none=>rw [hs] at a;rw [show List.foldl jX none r=none from aDi r] at a;simp at a
  |some x=>
   rw [hs] at a;obtain ⟨f,rfl,k⟩:=aIf c b n (g n (by simp)) x hs;rw [k];obtain ⟨m,i,j⟩:=ih (c++[n]) f (λo l=>g o (by simp [l])) e a;exact ⟨m,i,by rw [j];simp⟩
theorem aSt(c:List Nd):∀a:List Nd×List Int,∃b,(c.foldl cZ a).1=a.1++b/\b.length=c.length:=by
 induction c with
 |nil=>intro a;exact ⟨[],by simp,rfl⟩
 |cons n r ih=>
  intro a;obtain ⟨b,e,f⟩:=ih (cZ a n);have:∃d,(cZ a n).1=a.1++[d]:=by
   unfold cZ;split
   ·split<;>exact ⟨_,rfl⟩
   ·exact ⟨_,rfl⟩
  obtain ⟨d,g⟩:=this;exact ⟨d::b,by rw [zz,e,g];simp,by simp [f]⟩
theorem aSu(e:List Nd):∀(b:List Nd) (a:Nat),qZ e->fN e (some (a:Int))=none->(e.foldl cZ (b,dV a)).1≠b++e:=by
 induction e with
 |nil=>intro b a _ c;simp [fN] at c
 |cons n r ih=>
  intro b a g c;simp only [fN,zz] at c ⊢;cases hs:jX (some (a:Int)) n with
  |none=>
   have d:aM n=true:=by
    cases d:aM n
    ·simp [jX,d] at hs
    ·rfl
   have f:(a:Int)<n.2:=by
    by_cases f:(a:Int)<n.2
    ·exact f
    ·exfalso;simp only [jX,aJ d,aI f] at hs;split at hs<;>simp at hs
   have s:=g n (by simp) d;have l:=aIe b a n d (by omega);rw [l];obtain ⟨t,m,_⟩:=aSt r (b++[(n.1,(a:Int))],dV a++[n.2]);rw [m];intro i;simp only [zk,zj,zn] at i;have:=zq i;simp only [List.cons.injEq] at this;have j:=congrArg Prod.snd this.1;simp at j;omega
  |some x=>
   rw [hs] at c;obtain ⟨p,rfl,k⟩:=aIf b a n (g n (by simp)) x hs;rw [k];have:=ih (b++[n]) p (λq o=>g q (by simp [o])) c;simpa using this
theorem aIg(a:List Nd)(b:Nat)(f:qZ a)(c:Int)(e:fN a (some (b:Int))=some c):∃d:Nat,c=d/\dF a (dV b)=(a,dV d):=by have:=aSs a [] b f c e;simpa [dF] using this
theorem aSv(a:List Nd)(b:Nat)(d:qZ a)(c:fN a (some (b:Int))=none):(dF a (dV b)).1≠a:=by have:=aSu a [] b d c;simpa [dF] using this
theorem aSw(e:List Lt):∀(c:List Lt) (b:Nat),(∀a∈e,qZ a.2)->∀g,e.foldl (λo a=>fN a.2 o) (some (b:Int))=some g->∃f:Nat,e.foldl eG (c,dV b)=(c++e,dV f):=by
 induction e with
 |nil=>intro c b _ g d;exact ⟨b,by simp⟩
 |cons a r ih=>
  intro c b j g d;simp only [zz] at d ⊢;cases hs:fN a.2 (some (b:Int)) with
  |none=>rw [hs,aIa] at d;simp at d
  |some i=>
   rw [hs] at d;obtain ⟨f,rfl,l⟩:=aIg a.2 b (j a (by simp)) i hs;have:eG (c,dV b) a=(c++[a],dV f):=by simp [eG,l]
   rw [this];obtain ⟨n,k⟩:=ih (c++[a]) f (λi m=>j i (by simp [m])) g d;exact ⟨n,by rw [k];simp⟩
theorem aSx(c:List Lt):∀a:List Lt×List Int,∃b,(c.foldl eG a).1=a.1++b:=by
 induction c with
 |nil=>intro a;exact ⟨[],by simp⟩
 |cons x r ih=>
  intro a;obtain ⟨b,d⟩:=ih (eG a x);exact ⟨(x.1,(dF x.2 a.2).1)::b,by rw [zz,d];simp [eG]⟩
theorem aSy(d:List Lt):∀(c:List Lt) (b:Nat),(∀a∈d,qZ a.2)->d.foldl (λp a=>fN a.2 p) (some (b:Int))=none->(d.foldl eG (c,dV b)).1≠c++d:=by
 induction d with
 |nil=>intro c b _ e;simp at e
 |cons a r ih=>
  intro c b f e;simp only [zz] at e ⊢;cases hs:fN a.2 (some (b:Int)) with
  |none=>
   have l:=aSv a.2 b (f a (by simp)) hs;obtain ⟨q,n⟩:=aSx r (eG (c,dV b) a);rw [n];intro i;simp only [eG,zk,zj,zn] at i;have:=zq i;simp only [List.cons.injEq] at this;have k:=congrArg Prod.snd this.1;exact l k
  |some g=>
   rw [hs] at e;obtain ⟨j,rfl,m⟩:=aIg a.2 b (f a (by simp)) g hs;have:eG (c,dV b) a=(c++[a],dV j):=by simp [eG,m]
   rw [this];have:=ih (c++[a]) j (λg o=>f g (by simp [o])) e;simpa using this
theorem aIh(c:List Lt):∀a:List Lt,(c.foldl eO a).length=a.length+c.length->c.foldl eO a=a++c:=by
 induction c with
 |nil=>intro a _;simp
 |cons x b ih=>
  intro a e;simp only [zz,zr] at e ⊢;have g:∀(b a:List Lt),(b.foldl eO a).length<=a.length+b.length:=by
   intro b;induction b with
   |nil=>intro a;simp
   |cons y b ih=>
    intro a;have:=ih (eO a y);have d:(eO a y).length<=a.length+1:=by unfold eO;split<;>simp
    simp only [zz,zr];omega
  by_cases f:fI a x=true
  ·have d:eO a x=a:=by simp [eO,f]
   rw [d] at e;have:=g b a;omega
  ·have d:eO a x=a++[x]:=by simp [eO,f]
   rw [d] at e ⊢;have:=ih (a++[x]) (by simp;omega);rw [this];simp
theorem aSz(a:List Lt)(g:∀n∈a,qZ n.2):decide (a=aU a)=(decide ((bY a).length=a.length) && (nM a).isSome):=by
 rw [zo];simp only [decide_eq_true_eq,Bool.and_eq_true];have i:dV 0=[]:=rfl;constructor
 ·intro d;have b:(bY a).length=a.length:=by
   have k:=(oZ (bY a)).1;have e:(aU a).length=(bY a).length:=k;rw [<-d] at e;exact e.symm
  have c:bY a=a:=by have:=aIh a [] (by simpa [bY] using b);simpa [bY] using this
  refine ⟨b,?_⟩;cases hc:nM a with
  |none=>
   exfalso;have:=aSy a [] 0 g hc;rw [i] at this;apply this;rw [zn];conv=>rhs;rw [d]
   unfold aU dG;rw [c]
  |some j=>rfl
 ·rintro ⟨b,l⟩;have c:bY a=a:=by
   have:=aIh a [] (by simpa [bY] using b);simpa [bY] using this
  obtain ⟨j,m⟩:=Option.isSome_iff_exists.1 l;obtain ⟨o,f⟩:=aSw a [] 0 g j m;rw [i] at f;unfold aU dG;rw [c,f];simp
theorem aT0{b:List Nd}(c:eT b=true):qZ b:=by
 have a:bA b 1=true:=by
  have:fQ b=true:=by simp [eT] at c;exact c.1
  have:bA b 1=true/\b.length<=60:=by simpa [fQ] using this
  exact this.1
 clear c;generalize 1=q at a;intro d hn e;induction b generalizing q with
 |nil=>simp at hn
 |cons x r ih=>
  simp only [bA] at a;split at a
  ·simp at a
  ·split at a
   ·next hok=>
    rcases List.mem_cons.1 hn with rfl|hn
    ·have:0<=d.2/\d.2<60:=by simpa [dU,e] using hok
     exact this.1
    ·exact ih _ a hn
   ·simp at a
theorem aT1(a:List Lt)(b:Nat)(e:b<a.length)(c:Nat)(g:c<a[b].2.length)(d:Int)(i:fN (a[b].2.take c) (nM (a.take b))=some d)(f:jX (some d) a[b].2[c]=none):nM a=none:=by
 rw [aSq a b,zt e,zz,aSp a[b].2 _ c,i,zt g];have:fN (a[b].2[c]::a[b].2.drop (c+1)) (some d)=none:=by show fN (a[b].2.drop (c+1)) (jX (some d) a[b].2[c])=none;rw [f,aDi]
 rw [this,aIa]
theorem aT2(Q:Option Addr)(a2:Nat)(b:List Lt)(y:World)(F:bD y Q b)(b7:aR b<=60):Calls zu 96 #[.slice Q b.length a2] y λu b0=>u=.returned (.bool (nM b).isSome)/\aC y b0:=by
 have b9:=F.few;have a1:=aA F;clear F;go_enter Tryz.func96,Tryz.ntmps96;go_wp2;go_loopw [3,10] (λL I wr=>∃(c:Nat) (l:Int),c<=b.length/\I=.int .i64 c/\L=.int .i64 l/\0<=l/\l<=aR (b.take c)/\nM (b.take c)=some l/\aC y wr) (λ_ I _=>b.length-(intOf I).toNat);case atStart=>exact ⟨0,0,zi _,rfl,rfl,by omega,by simp,rfl,Below.refl _ _⟩
 case round=>
  obtain ⟨c,l,c0,rfl,rfl,a7,c2,w,n⟩:=hrel;have b8:=tQ b c;by_cases v:c<b.length
  ·obtain ⟨b5,c7,b3,b4,rfl,R,T,V⟩:=a1.o.cell c v;have a3:=aD n R;have a4:=aD n T;have X:=tQ b (c+1);rw [zy v,nT] at X;have B:=aA (aSo b c v);have P:aG (aR (b.take (c+1))=aR (b.take c)+b[c].2.length):=by
    rw [zy v,nT];exact rfl
   have A:=aA (λd Z a=>aT1 b c v d Z a);rw [w] at B A;have E:=aA V;have D:=aA n;have a6:=n.size;generalize b[c]=z at *;obtain ⟨c8,i⟩:=z;simp only at a3 a4 B A E P X;have c5:=E.o.few;clear R T V n w;go_wp2;go_loopw [3,17] (λL J b1=>∃(d:Nat) (a:Int),d<=i.length/\J=.int .i64 d/\L=.int .i64 a/\0<=a/\a<=aR (b.take c)+d/\fN (i.take d) (some l)=some a/\aC y b1) (λ_ J _=>i.length-(intOf J).toNat);case atStart=>exact ⟨0,l,zi _,rfl,rfl,a7,by omega,rfl,D.o.alloc a6 _⟩
   case round=>
    obtain ⟨d,a,Z,rfl,rfl,H,c3,s,o⟩:=hrel;by_cases G:d<i.length
    ·obtain ⟨b6,c6,rfl,S,U⟩:=E.o.cell d G;have a8:=aD o S;have a9:=aD o U;have j:=aA (aSn i (some l) d G);have t:=aA (A.o d G a s);rw [s] at j;generalize i[d]=nd at *;obtain ⟨x,k⟩:=nd;simp only at a8 a9;have p:=aA (λb2=>sE x k b2);have q:=aA o;have C:=o.size;clear S U s o;cases hv:x.toList.isEmpty
     ·have e:aG (jX (some a) (x,k)=some a):=aA (by simp [jX,aM,hv]);rw [hv] at p;rw [e.o] at j;clear hv t e;go_wp2_with (go_at_call 92;refine (aB p _).mono ?_;rintro u O ⟨rfl,f⟩;obtain ⟨M,N,g⟩:=kY f;have m:=aA (q.o.trans (g.mono C));clear f g);go_roundw;case rel=>exact ⟨d+1,a,by omega,by go_num,rfl,H,by omega,j.o,m.o⟩
      case measure=>simp [intOf];omega
     ·rw [hv] at p;by_cases W:a<k
      ·have e:=aA (t.o (by simp [jX,aM,hv,W]));clear hv t j;go_wp2_with (go_at_call 92;refine (aB p _).mono ?_;rintro u O ⟨rfl,f⟩;obtain ⟨M,N,g⟩:=kY f;have m:=aA (q.o.trans (g.mono C));clear f g);go_ret;exact ⟨bM (by rw [e.o];rfl),m.o⟩
      ·by_cases r:k=a
       ·have e:aG (jX (some a) (x,k)=some (a+1)):=aA (by simp [jX,aM,hv,r]);rw [e.o] at j;have a5:(k==a)=true:=by simp [r]
        clear hv t e r;go_wp2_with (go_at_call 92;refine (aB p _).mono ?_;rintro u O ⟨rfl,f⟩;obtain ⟨M,N,g⟩:=kY f;have m:=aA (q.o.trans (g.mono C));clear f g);go_roundw;case rel=>exact ⟨d+1,a+1,by omega,by go_num,by go_num,by omega,by omega,j.o,m.o⟩
        case measure=>simp [intOf];omega
       ·have e:aG (jX (some a) (x,k)=some a):=aA (by simp only [jX,aM,hv,if_true,aI W,aI r]);rw [e.o] at j;have a5:(k==a)=false:=by simp [r]
        clear hv t e r;go_wp2_with (go_at_call 92;refine (aB p _).mono ?_;rintro u O ⟨rfl,f⟩;obtain ⟨M,N,g⟩:=kY f;have m:=aA (q.o.trans (g.mono C));clear f g);go_roundw;case rel=>exact ⟨d+1,a,by omega,by go_num,rfl,H,by omega,j.o,m.o⟩
        case measure=>simp [intOf];omega
    ·have a0:i.take d=i:=zv (by omega);rw [a0] at s;have e:=aA (B.o.trans s);have q:=aA o;have c1:d=i.length:=by omega
     have c4:a<=aR (b.take c)+i.length:=by omega
     clear s o a0 A B;go_wp2;go_roundw;case rel=>exact ⟨c+1,a,by omega,by go_num,rfl,H,by rw [P.o];omega,e.o,q.o⟩
     case measure=>simp [intOf];omega
  ·have Y:b.take c=b:=zv (by omega);rw [Y] at w;have e:=aA w;have D:=aA n;clear Y w n;go_wp2;go_ret;exact ⟨bM (by rw [e.o];rfl),D.o⟩
theorem aT3(c:Option Addr)(p:Nat)(a:List Lt)(l:World)(j:bD l c a)(y:aR a<=60)(u:∀H∈a,qZ H.2):Calls zu 55 #[.slice c a.length p] l λi F=>i=.returned (.bool (decide (a=aU a)))/\aC l F:=by
 have s:=aA (aSz a u);have r:=aA (aJ4 c p a l j);have J:=j.few;have I:=(oY a).1;have v:=aA (λwx (B:bD wx c a)=>aT2 c p a wx B y);have x:=aA j;clear j u;by_cases k:(bY a).length=a.length
 ·have A:(((bY a).length:Int)==(a.length:Int))=true:=by rw [beq_iff_eq];omega
  have n:aG (decide (a=aU a)=(nM a).isSome):=aA (by rw [s.o,k];simp);clear k;generalize hdl:(bY a).length=m at *;go_enter Tryz.func55,Tryz.ntmps55;go_wp2_with (first
   |(go_at_call 94;refine (aB r).mono ?_;rintro i G ⟨C,o,rfl,d,q,f,b⟩;obtain ⟨D,E,rfl⟩:=aW f;have e:o.length=m:=(by rw [<-hdl,<-d];simp);rw [e];have g:=aA b;have z:=b.size;clear d q f b e)
   |(go_at_call 96;refine (aB v _ (x.o.below g.o (zx _))).mono ?_;rintro i L ⟨rfl,t⟩;have w:=aA (g.o.trans (t.mono z));clear t))
  go_ret;exact ⟨bM n.o.symm,w.o⟩
 ·have A:(((bY a).length:Int)==(a.length:Int))=false:=by rw [beq_eq_false_iff_ne];omega
  have n:aG (decide (a=aU a)=false):=aA (by rw [s.o];simp [k]);clear k;generalize hdl:(bY a).length=m at *;go_enter Tryz.func55,Tryz.ntmps55;go_wp2_with (first
   |(go_at_call 94;refine (aB r).mono ?_;rintro i G ⟨C,o,rfl,d,q,f,b⟩;obtain ⟨D,E,rfl⟩:=aW f;have e:o.length=m:=(by rw [<-hdl,<-d];simp);rw [e];have g:=aA b;clear d q f b e))
  go_ret;exact ⟨bM n.o.symm,g.o⟩
theorem aDj(q:Option Addr)(y:Nat)(a:List Lt)(e:World)(m:bD e q a)(M:iC e):Calls zu 29 #[.slice q a.length y] e λi Q=>i=.returned (.bool (cG a))/\aC e Q:=by
 have a3:=m.few;have g:=yR q y a e m;have U:=aA M;have G:=aA m;clear M;by_cases k:cD a=true
 ·have Z:a.length<=8/\aR a<=60:=by simpa [cD] using k
  rw [k] at g;have u:=aA g;have p:aG (cG a=((a.all λn=>eT n.2) && decide (a=aU a))):=by unfold cG;rw [k];exact Bool.true_and _▸rfl
  obtain ⟨a2,X⟩:=Z;clear g k m;go_enter Tryz.func29,Tryz.ntmps29;go_wp2_with (go_at_call 39;refine (aB u).mono ?_;rintro i a6 ⟨rfl,Y⟩);go_loopw [10] (λD wr=>∃b:Nat,b<=a.length/\D=.int .i64 b/\aC e wr/\((a.take b).all λn=>eT n.2)=true) (λD _=>a.length-(intOf D).toNat);case atStart=>exact ⟨0,zi _,rfl,Y,rfl⟩
  case round=>
   obtain ⟨b,a4,rfl,c,j⟩:=hrel;by_cases O:b<a.length
   ·obtain ⟨a1,a5,H,I,rfl,J,L,z⟩:=G.o.cell b O;have V:=aD c J;have W:=aD c L;have w:aG (((a.take (b+1)).all λn=>eT n.2)=eT a[b].2):=by
     rw [zy O,List.all_append,j];exact Bool.and_true _▸rfl
    have v:aG (eT a[b].2=false->cG a=false):=λC=>by
     rw [p.o,Bool.and_eq_false_iff];left;rw [List.all_eq_false];exact ⟨a[b],List.getElem_mem _,by simp [C]⟩
    have A:=c.size;generalize a[b]=o at *;obtain ⟨a0,E⟩:=o;simp only at V W z;have r:aC e (wr.alloc (.cells #[.bool a0,.slice H E.length I] 55)):=c.alloc A _;have f:=aSm H I E _ (z.below r (zx _)) (U.o.below r (zx _));have F:=aA r;clear J L j c z r;cases ha:eT E
    ·rw [ha] at f;have x:=aA (v.o ha);have s:=aA f;clear f ha v w;go_wp2_with (go_at_call 54;refine (aB s).mono ?_;rintro i R ⟨rfl,d⟩;have l:=aA (aV F.o d);clear d);go_ret;exact ⟨bM x.o.symm,l.o⟩
    ·rw [ha] at f;have x:=aA (w.o.trans ha);have s:=aA f;clear f ha v w;go_wp2_with (go_at_call 54;refine (aB s).mono ?_;rintro i R ⟨rfl,d⟩;have l:=aA (aV F.o d);clear d);go_roundw;case rel=>exact ⟨b+1,by omega,by go_num,l.o,x.o⟩
     case measure=>simp [intOf];omega
   ·have N:a.take b=a:=zv (by omega);rw [N] at j;have T:aG (cG a=decide (a=aU a)):=by rw [p.o,j];exact Bool.true_and _▸rfl
    have P:∀o∈a,qZ o.2:=λo C=>aT0 (List.all_eq_true.1 j o C)
    have S:=aA (aT3 q y a wr (G.o.below c (zx _)) X P);have t:=aA c;have A:=c.size;clear N j c P;go_wp2_with (go_at_call 55;refine (aB S).mono ?_;rintro i R ⟨rfl,d⟩;have l:=aA (t.o.trans (d.mono A));clear d);go_ret;exact ⟨bM T.o.symm,l.o⟩
 ·have B:cD a=false:=by simpa using k
  rw [B] at g;have p:aG (cG a=false):=by unfold cG;rw [B];rfl
  have u:=aA g;clear g k B m;go_enter Tryz.func29,Tryz.ntmps29;go_wp2_with (go_at_call 39;refine (aB u).mono ?_;rintro i Q ⟨rfl,c⟩;have t:=aA c;clear c);go_ret;exact ⟨bM p.o.symm,t.o⟩
