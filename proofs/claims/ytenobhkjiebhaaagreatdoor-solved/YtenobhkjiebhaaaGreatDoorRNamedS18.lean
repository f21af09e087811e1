import Derived.Test.YtenobhkjiebhaaaGreatDoorBase0S18
open Bool renaming true->V,and_eq_true->zl
open List renaming length->Z,drop_eq_getElem_cons->zo,mem_cons_of_mem->zm,nodup_append->zh,getElem_mem->ze,drop_eq_nil_of_le->zc,map_append->zb,mem_append_left->za,length_append->z0
open Nat renaming le_refl->zg,zero_le->z2
open Option renaming some->Y,none->zp
open Or renaming inl->zd,inr->z1
open Prod renaming fst->zn
namespace Go.Proofs.YtenobhkjiebhaaaGreatDoor
open Go renaming World->U,Value->zt
open _root_.Go.Proofs.Tryz renaming prog->zj
open Value renaming ownBlock->zu
open World renaming cell?->zv,ownsRow->zs,setCell->zr,cell?_setCell_other->zq,cell?_setCell_same->zk,block_lt_of_cell?->zi,grownBy->zf
open Go.RowKit
set_option maxHeartbeats 2000000
set_option maxRecDepth 100000
variable{x:Int}{c d:List Lt}{l r t:List Nd}{xs:List zt}{B k:Nat}{n:Nd}{a:Option Addr}{dv v:zt}{w w':U}
abbrev Pl:=ByteArray×Bool×Int×Int
structure aBf(w:U)(a:Option Addr)(l:List Pl):Prop where
 few:Z l<=1000000
 cell:∀k (h:k<Z l),∃b o,a=Y (aQ b o)/\zv w (aQ b (o+k*4))=Y (.string l[k].1)/\zv w (aQ b (o+k*4+1))=Y (.bool l[k].2.1)/\zv w (aQ b (o+k*4+2))=Y (iQ l[k].2.2.1)/\zv w (aQ b (o+k*4+3))=Y (iQ l[k].2.2.2)
theorem aBf.below{w1:U}{l:List Pl}(e:aBf w a l){B:Nat}(k:Below B w w1)(b:w.heap.size<=B):aBf w1 a l:=
 ⟨e.few,λj s=>by obtain⟨f,o,g,i,m,p,q⟩:=e.cell j s;exact⟨f,o,g,Below.at' k b i,Below.at' k b m,Below.at' k b p,Below.at' k b q⟩⟩
def pG(x b:Pl):Prop:=x.1=b.1/\(x.2.1≠b.2.1\/x.2.2.1≠b.2.2.1)
def lQ(l:List Pl)(b:Nat)(e:b<Z l):Prop:=5<l[b].2.2.1\/∃k,∃f:k<b,pG (l[k]'(by omega)) l[b]
def lR(l:List Pl)(r:Int):Prop:=(r=-1/\∀b e,¬lQ l b e)\/∃b e,lQ l b e/\(∀f g,f<b->¬lQ l f g)/\r=l[b].2.2.2
theorem bBc(a:Option Addr)(b0:Nat)(l:List Pl)(w:U)(I:aBf w a l):Calls zj 41 #[.slice a (Z l) b0] w λb1 w'=>∃r,b1=.returned (iQ r)/\lR l r/\∃n,w'=w.drewN n:=by
 have c7:=I.few;go_enter Tryz.func41,Tryz.ntmps41;go_wp2;go_loopw[3] (λb wr=>∃k:Nat,k<=Z l/\b=iQ k/\(∀f s,f<k->¬lQ l f s)/\∃n,wr=w.drewN n) (λb _=>Z l-(intOf b).toNat);exact⟨0,z2 _,rfl,λf _ s=>by omega,0,rfl⟩;obtain⟨k,J,rfl,P,e⟩:=hrel;have i:=O e;have F:=O P;by_cases Q:k<Z l
 .obtain⟨a8,b6,rfl,u,z,A,H⟩:=I.cell k Q;have S:=aC (aN e) u;have T:=aC (aN e) z;have W:=aC (aN e) A;have X:=aC (aN e) H;have a6:=O I;clear u z A H I P e;by_cases M:5<l[k].2.2.1
  .have g:aE (lR l l[k].2.2.2):=z1 ⟨k,Q,zd M,F.o,rfl⟩;generalize l[k]=x at *;obtain⟨a0,t,R,c5⟩:=x;simp only at S T W X M g;go_wp2;go_ret;exact⟨_,rfl,g.o,i.o⟩
  go_wp2;go_loopw[4] (λf c6=>∃n:Nat,n<=k/\f=iQ n/\(∀b,∀q:b<n,∀J:b<Z l,¬pG l[b] l[k])/\∃d,c6=wr.drewN d) (λf _=>k-(intOf f).toNat);exact⟨0,z2 _,rfl,λb q _=>by omega,0,rfl⟩;obtain⟨n,d1,rfl,N,e⟩:=hrel;have a1:=O N;have p:=O e;by_cases b4:n<k
  .have b5:n<Z l:=by omega
   obtain⟨a9,b7,a2,u,z,A,H⟩:=a6.o.cell n b5;obtain⟨rfl,rfl⟩:a9=a8/\b7=b6:=by simpa using a2.symm
   have b8:=aC (aN (iK i.o e)) u;have b9:=aC (aN (iK i.o e)) z;have c0:=aC (aN (iK i.o e)) A;have c1:=aC (aN e) S;have c2:=aC (aN e) T;have c3:=aC (aN e) W;have c4:=aC (aN e) X;have g:aE (pG l[n] l[k]->lR l l[k].2.2.2):=λE=>z1 ⟨k,Q,z1 ⟨n,b4,E⟩,F.o,rfl⟩
   have o:aE (¬pG l[n] l[k]->∀b,∀q:b<n+1,∀J:b<Z l,¬pG l[b] l[k]):=λE b q J=>by
    by_cases b2:b=n
    .subst b2;exact E
    exact a1.o b (by omega) J
   have c9:(k:Int)<(Z l:Int):=by omega
   have d2:(n:Int)<(Z l:Int):=by omega
   clear u z A H a2 N e S T W X;generalize l[k]=x at *;generalize l[n]=y at *;obtain⟨a0,t,R,c5⟩:=x;obtain⟨a4,a5,a3,d4⟩:=y;simp only at b8 b9 c0 c1 c2 c3 c4 M g o;by_cases j:a4=a0
   .by_cases m:a5=t
    .by_cases D:a3=R
     .have L:=O (o.o (by simp[pG,j,m,D]));clear g o;subst j m D;go_wp2;go_quiet (fail);go_wp2;exact⟨⟨n+1,by omega,by go_num,L.o,iK p.o (by first|exact dT _ _ _|exact⟨_,rfl⟩)⟩,by simp[intOf];omega⟩
     have d0:(a3 != R)=true:=by rw[bne_iff_ne];exact D
     have G:=O (g.o (by simp[pG,j,D]));clear g o D;subst j m;go_wp2;go_quiet (fail);go_wp2;go_ret;exact⟨_,rfl,G.o,iK i.o (iK p.o (by first|exact dT _ _ _|exact⟨_,rfl⟩))⟩
    have G:=O (g.o (by simp[pG,j,m]));clear g o;subst j;cases t<;>cases a5
    .exact absurd rfl m
    .clear m;go_wp2;go_quiet (fail);go_wp2;go_ret;exact⟨_,rfl,G.o,iK i.o (iK p.o (by first|exact dT _ _ _|exact⟨_,rfl⟩))⟩
    .clear m;go_wp2;go_quiet (fail);go_wp2;go_ret;exact⟨_,rfl,G.o,iK i.o (iK p.o (by first|exact dT _ _ _|exact⟨_,rfl⟩))⟩
    exact absurd rfl m
   have d3:(a4.toList==a0.toList)=false:=by
    rw[beq_eq_false_iff_ne];exact λE=>j (xT.1 E)
   have L:=O (o.o (by simp[pG,j]));clear g o j;go_wp2;go_quiet (fail);go_wp2;exact⟨⟨n+1,by omega,by go_num,L.o,iK p.o (by first|exact dT _ _ _|exact⟨_,rfl⟩)⟩,by simp[intOf];omega⟩
  have a7:aE (∀f s,f<k+1->¬lQ l f s):=λf s c8 C=>by
   by_cases b3:f=k
   .subst b3;rcases C with C|⟨b,q,C⟩
    .omega
    exact a1.o b (by omega) (by omega) C
   exact F.o f s (by omega) C
  clear N e;go_wp2;exact⟨⟨k+1,by omega,by go_num,a7.o,iK i.o p.o⟩,by simp[intOf];omega⟩
 have g:aE (lR l (-1)):=zd ⟨rfl,λb q=>F.o b q (by omega)⟩;clear P e;go_wp2;go_ret;exact⟨_,rfl,g.o,i.o⟩
theorem dG{T:Array Oper}{e:Oper}{a:Act}{K:Act->U->Prop}{u:Exit->Act->U->Prop}{s:Prop}{q x:Operand}{t f y:TypeId}{o:zt}{b i n m c:Nat}{news:List zt}(E:(Tryz.prog.info? f).map (λg=>(g.zero,g.size,g.bytes))=Y (Y o,b,i))(M:Tryz.prog.underlying t=Y (.slice f))(H:zs w B f b v n xs)(z:∀j w',zs w' B f b j (n+1) (xs++news)->zf w w' (zu v)->K (a.put e.dst j) w')
  (C:e.guard=none:=by rfl) (G:e.op=.call {callee:=.builtin .append,args:=#[q,x],argTypes:=#[t,t]}:=by rfl) (J:a.eval q=v:=by rfl) (N:a.eval x=sQ m 1 c:=by rfl) (hX:w.heap[m]?=Y (.cells news.toArray y):=by exact aJq (by first|rfl|simp)) (a1:Z news=b:=by rfl) (A:news.all (λa0=>a0.oneCell')=true:=by rfl) (S:o.cells.size=b:=by rfl) (p:0<b/\0<i:=by decide) (F:(n+1)*i<=140737488355328:=by omega) (hb:B<=w.heap.size:=by first|omega|(simp;omega)):if Region.wanted e (yielded T a.tmps)=V then Oper.wp zj e a w K u else s:=by
 rw[aT (by simp[Region.wanted,C])];obtain⟨g,D,R,L,Q⟩:=info_parts E;have a2:=Nat.le_mul_of_pos_right (n+1) p.2;obtain⟨j,w',I,W,X,_⟩:=run_append_own (P:=zj) w B t e.type f g o b i M D R L Q S p.1 v n xs H (aQ m 0) 1 c news (by omega) (aCk hX) (List.all_eq_true.1 A) (by unfold maxLen;omega) F hb;unfold Oper.wp execOp;simp only[G,resolve,invoke,builtin,Sem.run_bind,Sem.run_pure,Result.andThen_ok,List.map_toArray,List.map_cons,List.map_nil,J,N,I];exact z j w' W X
def aOe(b:Exit->Act->U->Prop):Exit->Act->U->Prop
 | .panic _,_,_=>False
 |e,a,w=>b e a w
theorem tT{c:Code}{e:Exit->Act->U->Prop}{a:Act}(b:c.wp zj (aOe e) a w):c.wp zj e a w:=
 Code.wp_mono (λf a w b=>by cases f<;>first|exact b|exact False.elim b) b
theorem tU{b:Exit->Act->U->Prop}{a:Act}(e:b .normal a w):aOe b .normal a w:=e
def iP(l:List Nd):Bool:=lL l && !aK (l.headD (⟨#[]⟩,0))
def bD(c:List Lt):Bool:=bN c && (c.all λl=>iP l.2) && decide (c=bB c)
theorem bBd(l:List Nd)(e:List Int):(eF l e).1.map zn=l.map zn:=by
 suffices ∀(l:List Nd) (b:List Nd×List Int),(l.foldl fH b).1.map zn=b.1.map zn++l.map zn by
  have f:=this l ([],e);simpa[eF]using f
 intro l;induction l with
 |nil=>intro b;simp
 |cons x r ih=>
  grind[fH]
theorem bBe(c:List Lt):∀x∈(dY c).1,∃b∈c,x.2.map zn=b.2.map zn:=by
 suffices ∀(c:List Lt) (e:List Lt×List Int),∀x∈(c.foldl iZ e).1,x∈e.1\/∃b∈c,x.2.map zn=b.2.map zn by
  grind[dY,iZ]
 intro c;induction c with
 |nil=>intro e x f;exact zd f
 |cons b r ih=>
  grind[iZ,eF,bBd]
theorem bBf(c:List Lt):∀x∈bB c,∃b∈c,x.2.map zn=b.2.map zn:=by grind[sC,bBe,aY,eG,bB]
def vD(c:List Lt):Prop:=∀x∈c,Z x.2<=5864062014805/\∀n∈x.2,n.1.size<=140737488355328
theorem bU.shorts(e:bU w a c):vD c:=by intro x j;obtain⟨k,g,rfl⟩:=List.mem_iff_getElem.1 j;obtain⟨_,_,_,_,_,_,_,b⟩:=e.cell k g;refine⟨b.few,λn i=>?_⟩;obtain⟨m,f,rfl⟩:=List.mem_iff_getElem.1 i;exact b.short m f
theorem vD.ord(f:vD c):vD (bB c):=by
 intro x j;obtain⟨b,m,e⟩:=bBf c x j;have g:Z x.2=Z b.2:=by have:=congrArg Z e;simpa using this
 refine⟨by rw[g];exact(f b m).1,λn i=>?_⟩;have:n.1∈b.2.map zn:=by rw[<-e];exact List.mem_map.2 ⟨n,i,rfl⟩
 grind[vD,bB]
theorem aHe{b:List (Lt×zt)}(g:b.map zn=d)(j:zs w B 55 2 v (Z b) (bH b))(m:∀f∈b,zs w B 52 2 f.2 (Z f.1.2) (aV f.1.2))(i:Z d<=4398046511104)(q:vD d):∃a e,v=.slice a (Z d) e/\bU w a d:=by
 subst g;obtain⟨a,e,rfl,o⟩:=tL j;refine⟨a,e,by simp,i,λk p=>?_⟩;grind[wC,ze,vD,bH,aV]
theorem aOf:lL []=false:=by decide
def kQ(w:U)(a:Option Addr)(c:List Lt):Prop:=∀k,k<Z c->∀b e f n cap,a=Y (aQ b e)->zv w (aQ b (e+k*2+1))=Y (.slice f n cap)->n<=cap
theorem aHf{b:List (Lt×zt)}{o g:Nat}(J:zs w B 55 2 v (Z b) (bH b))(E:∀f∈b,zs w B 52 2 f.2 (Z f.1.2) (aV f.1.2))(m:v=.slice a o g):kQ w a (b.map zn):=by
 obtain⟨p,u,L,G⟩:=tL J;rw[L]at m;obtain⟨rfl,-,-⟩:p=a/\Z b=o/\u=g:=by simpa using m
 intro k H s M q n y F e;have I:k<Z b:=by simpa using H
 obtain⟨A,i,S,D⟩:=G k I;rw[F]at i;obtain⟨rfl,rfl⟩:s=A/\M=0:=by simpa using i
 rw[Nat.zero_add]at e;rw[D]at e;have j:=E b[k] (ze _);have z:b[k].2=.slice q n y:=by simpa using e
 rw[z]at j;obtain⟨_,⟨C,R⟩|⟨Q,N,P,C,_,_,T,_⟩⟩:=j;all_goals grind
theorem aOg{b:Nat}{f x:zt}{t:TypeId}(e:w.heap[b]?=Y (.cells #[f,x] t)):zv w (aQ b 0)=Y f/\zv w (aQ b 1)=Y x:=⟨by simp[zv,e],by simp[zv,e]⟩
theorem zY{a b:zt}{c d:zt}(e:a=c)(k:b=d):Ending.returned (.tuple #[a,b])=.returned (.tuple #[c,d]):=by rw[e,k]
theorem aOh(b:iP l=V):aP l 1=V/\Z l<=60:=by grind[iP,lL]
theorem bBg(x:Int)(w:U):Calls zj 11 #[iQ x] w λb w'=>b=.returned (iQ x)/\w'=w:=by go_enter Tryz.func11,Tryz.ntmps11;go_wp2;go_ret;exact⟨rfl,rfl⟩
def aM:List Nd->Nat->Nat
 |_,0=>0
 |[],_+1=>0
 |n::r,q+1=>1+aM r (q+bI n)
@[simp] theorem bJf(l:List Nd):aM l 0=0:=by cases l<;>rfl
theorem mC(n:Nd)(r:List Nd)(b:Nat):aP (n::r) (b+1)=(dQ n && aP r (b+bI n)):=by simp only[aP];cases dQ n<;>simp
theorem aBg(l:List Nd):∀b e,aP l (b+e)=V->aP (l.take (aM l b)) b=V/\aP (l.drop (aM l b)) e=true:=by
 induction l with
 |nil=>
  grind[aP]
 |cons n r ih=>
  intro b e f;cases b with
  |zero=>simpa[aP]using f
  |succ b=>
   rw[show b+1+e=(b+e)+1 by omega,mC,zl]at f;have:=ih (b+bI n) e (by rw[<-f.2];congr 1;omega);grind[aM,mC,Nat.add_comm]
theorem zZ(t:List Nd):∀b f,aP t b=V->aM (t++f) b=Z t:=by
 induction t with
 |nil=>intro b f e;simp[aP]at e;subst e;simp
 |cons n r ih=>
  intro b f e;cases b with
  |zero=>simp[aP]at e
  |succ b=>
   grind[aM,mC]
theorem oC(l:List Nd):∀b,aM l b<=Z l:=by
 induction l with
 |nil=>intro b;cases b<;>simp[aM]
 |cons n r ih=>intro b;cases b with
  |zero=>simp
  |succ b=>have:=ih (b+bI n);simp[aM];omega
theorem aOi(l:List Nd)(e:Nat)(b:l≠[]):0<aM l (e+1):=by
 cases l with
 |nil=>exact absurd rfl b
 |cons n r=>simp[aM];omega
theorem bBh{q:Nat}(b:aP l (q+1)=V):l≠[]:=by rintro rfl;simp[aP]at b
abbrev bK:=List (Int×List Nd)
def look(b:bK)(x:Int):Option (List Nd):=b.lookup x
theorem aDy(e:bK)(x b:Int)(t:List Nd):look (e++[(x,t)]) b=(look e b).or (if b=x then Y t else zp):=by grind[look,List.lookup]
theorem aDz(e f:bK)(b:Int):look (e++f) b=(look e b).or (look f b):=by unfold look;rw[List.lookup_append]
def subst(b:Int->List Nd)(l:List Nd):List Nd:=l.flatMap λn=>if aK n then b n.2 else [n]
theorem aA0(b:Int->List Nd)(n:Nd)(r:List Nd):subst b (n::r)=(if aK n then b n.2 else [n])++subst b r:=by simp[subst]
def Tm(b:Int->List Nd):Prop:=∀x,aP (b x) 1=V
def jW(e:Int->List Nd)(b:bK):Prop:=∀x t,look b x=Y t->e x=t
theorem jW.snoc{e:Int->List Nd}{b:bK}(f:look b x=zp):jW e (b++[(x,t)])↔jW e b/\e x=t:=by
 constructor
 .intro k;refine⟨λj i g=>k j i (by rw[aDy,g];rfl),k x t (by rw[aDy,f];simp)⟩
 grind[look,aDy,jW]
theorem jW.left{e:Int->List Nd}{b f:bK}(g:jW e (b++f)):jW e b:=λx t i=>g x t (by rw[aDz,i];rfl)
def dD:List Nd->List Nd->bK->Option bK
 |[],[],L=>some L
 |[],_::_,_=>none
 |n::r,b,L=>
  if aK n then
   match look L n.2 with
   |some t=>if t=b.take (aM b 1) then dD r (b.drop (aM b 1)) L else none
   |none=>dD r (b.drop (aM b 1)) (L++[(n.2,b.take (aM b 1))])
  else match b with
   |[]=>none
   |m::b'=>if n=m then dD r b' L else none
theorem aE0{b:List Nd}{e:bK}(g:aK n=V)(f:look e n.2=Y t):dD (n::r) b e=if t=b.take (aM b 1) then dD r (b.drop (aM b 1)) e else none:=by rw[dD.eq_def];simp[g,f]
theorem aE1{b:List Nd}{e:bK}(g:aK n=V)(f:look e n.2=zp):dD (n::r) b e=dD r (b.drop (aM b 1)) (e++[(n.2,b.take (aM b 1))]):=by rw[dD.eq_def];simp[g,f]
theorem aE2{f:Nd}{e:List Nd}{b:bK}(g:aK n=false):dD (n::r) (f::e) b=if n=f then dD r e b else none:=by rw[dD.eq_def];simp[g]
theorem aOj{e:Int->List Nd}(g:Tm e){n:Nd}{r b:List Nd}(f:aK n=V):subst e (n::r)=b↔e n.2=b.take (aM b 1)/\subst e r=b.drop (aM b 1):=by grind[aA0,zZ,List.take_append_drop,Tm,aM,subst,aK]
theorem kE(b:aK n=V):bI n=0:=by simp[bI,b]
theorem aOk(a:List Nd):∀(b:List Nd) (e:Nat) (g:bK),aP a e=V->aP b e=V->
  (∀o,dD a b g=Y o->∀f,Tm f->(jW f o↔jW f g/\subst f a=b))/\(dD a b g=zp->∀f,Tm f->jW f g->subst f a≠b):=by
 induction a with
 |nil=>
  intro b e g i j;cases e with
  |succ e=>simp[aP]at i
  |zero=>
   cases b with
   |nil=>simp[dD,subst]
   |cons m b=>simp[aP]at j
 |cons n r ih=>
  intro b e g i j;cases e with
  |zero=>simp[aP]at i
  |succ e=>
   rw[mC,zl]at i;by_cases p:aK n=V
   .have s:=aBg b 1 e (by rw[<-j];congr 1;omega);have q:aP r e=true:=by simpa[kE p]using i.2
    cases hl:look g n.2 with
    |some t=>
     grind[aM,aE0,aOj,jW,Tm,look,dD,dQ,subst,aP,aK,bI]
    |none=>
     grind[jW,jW.snoc,aM,aE1,aOj]
   have u:aK n=false:=by simpa using p
   cases b with
   |nil=>simp[aP]at j
   |cons m b=>
    grind[aE2,subst,aA0,mC,bI]
def yE(x:Int)(a:List Nd):Prop:=∃n∈a,aK n=V/\n.2=x
theorem bBi(a:List Nd):∀(b:List Nd) (e:Nat) (f i:bK),aP a e=V->aP b e=V->dD a b f=Y i->
  ∃j,i=f++j/\∀s∈j,yE s.1 a/\look f s.1=none:=by
 induction a with
 |nil=>
  intro b e f i _ _ g;cases b with
  |nil=>simp[dD]at g;exact⟨[],by simp[g],by simp⟩
  |cons m b=>simp[dD]at g
 |cons n r ih=>
  intro b e f i o q g;cases e with
  |zero=>simp[aP]at o
  |succ e=>
   rw[mC,zl]at o;by_cases p:aK n=V
   .have y:=aBg b 1 e (by rw[<-q];congr 1;omega);have u:aP r e=true:=by simpa[kE p]using o.2
    cases hl:look f n.2 with
    |some t=>
     grind[aM,aE0,zm,yE,look,dD,dQ,aP,aK,bI]
    |none=>
     rw[aE1 p hl]at g;obtain⟨j,z,A⟩:=ih _ e _ i u y.2 g;grind[aM,look,zm,yE,dD,dQ,aP,aK,bI]
   have C:aK n=false:=by simpa using p
   cases b with
   |nil=>simp[aP]at q
   |cons m b=>
    grind[aE2,mC,zm,aM,yE,look,dD,dQ,aP,aK,bI]
def fW(d c:List Lt)(e:bK):Prop:=∃b,Tm b/\jW b e/\∀l∈c,(l.1,subst b l.2)∈d
def Tms(c:List Lt):Prop:=∀l∈c,aP l.2 1=V
def fQ(x b:Lt)(e:bK):Option bK:=if x.1=b.1 then dD x.2 b.2 e else zp
theorem aHg{x y:Lt}{e f:bK}(i:aP x.2 1=V)(j:aP y.2 1=V)(g:fQ x y e=Y f)(b:Int->List Nd)(m:Tm b):jW b f↔jW b e/\(x.1,subst b x.2)=y:=by grind[fQ,aOk,Prod.ext_iff]
theorem bBj{x b:Lt}{f:bK}(j:aP x.2 1=V)(m:aP b.2 1=V)(g:fQ x b f=zp)(e:Int->List Nd)(o:Tm e)(i:jW e f):(x.1,subst e x.2)≠b:=by grind[fQ,aOk]
theorem bBk{x y:Lt}{b e:bK}(j:aP x.2 1=V)(m:aP y.2 1=V)(i:fQ x y b=Y e):∃f,e=b++f/\∀g∈f,yE g.1 x.2/\look b g.1=none:=by grind[fQ,bBi]
theorem aE3{s:List Lt}{i:bK}{x:Lt}(y:Tms d)(q:aP x.2 1=V)(o:∀l,l∈c↔l=x\/l∈s):fW d c i↔∃u∈d,∃b,fQ x u i=Y b/\fW d s b:=by
 constructor
 .rintro⟨e,f,j,g⟩;refine⟨_,g x ((o x).2 (zd rfl)),?_⟩;have p:=y _ (g x ((o x).2 (zd rfl)));cases m:fQ x (x.1,subst e x.2) i with
  |none=>exact absurd rfl (bBj q p m e f j)
  |some b=>exact⟨b,rfl,e,f,(aHg q p m e f).2 ⟨j,rfl⟩,λl z=>g l ((o l).2 (z1 z))⟩
 rintro⟨u,p,b,m,e,f,j,g⟩;grind[aHg,fW,jW,Tm,Tms,fQ,subst,aP]
def aHh(d c:List Lt)(e:bK):Prop:=∀b,Tm b->jW b e->∀l∈c,(l.1,subst b l.2)∈d
def mG(c:List Lt)(b g:bK):Prop:=∃e,g=b++e/\∀f∈e,(∃l∈c,yE f.1 l.2)/\look b f.1=zp
def aHi(b:bK)(e r:List Lt):Prop:=∀x∈e,∀f∈r,∀n∈x.2,aK n=V->look b n.2=zp->n∉f.2
theorem aOm{b τ:Int->List Nd}(e:∀n∈l,aK n=V->b n.2=τ n.2):subst b l=subst τ l:=by
 induction l with
 |nil=>rfl
 |cons n r ih=>
  grind[aA0,aK,zm]
theorem bBl{b:Nd}(g:aK n=V)(f:aK b=V)(e:n.2=b.2):n=b:=by grind[xT,aK]
theorem mG.refl(c:List Lt)(b:bK):mG c b b:=⟨[],by simp,by simp⟩
theorem mG.trans{c f b:List Lt}{L L' e:bK}(g:mG c L L')(k:mG f L' e)(i:∀l∈c,l∈b)(j:∀l∈f,l∈b):mG b L e:=by grind[look,mG,yE]
theorem aA1{b:bK}(e:look b x=Y t):(x,t)∈b:=by
 unfold look at e;induction b with
 |nil=>simp at e
 |cons p r ih=>
  grind
theorem mG.ext{L b:bK}(f:mG c L b){e:Int->List Nd}(k:jW e b):jW e L:=by obtain⟨g,rfl,_⟩:=f;exact k.left
theorem bBm{g r:List Lt}{f b:bK}(u:∀l,l∈c↔l∈g\/l∈r)(D:aHi f g r)(o:mG g f b)(C:∀x t,look b x=Y t->aP t 1=V)(z:aHh d g b):fW d c f↔fW d r b:=by
 constructor
 .rintro⟨e,i,j,m⟩;refine⟨λx=>(look b x).getD (e x),λx=>?_,λx t q=>by simp[q],λl hl=>?_⟩
  .show aP ((look b x).getD (e x)) 1=V;cases hh:look b x with
   |none=>exact i x
   |some t=>exact C x t hh
  have:=m l ((u l).2 (z1 hl));rw[show subst (λx=>(look b x).getD (e x)) l.2=subst e l.2 from ?_]
  .exact this
  refine aOm λn F H=>?_
  cases hh:look f n.2 with
  |some t=>
   obtain⟨s,rfl,_⟩:=o;show (look (f++s) n.2).getD (e n.2)=e n.2;rw[aDz,hh];simp only[Option.some_or,Option.getD_some];exact(j _ _ hh).symm
  |none=>
   cases hk:look b n.2 with
   |none=>simp only[Option.getD_none]
   |some t=>
    exfalso;obtain⟨s,rfl,A⟩:=o;rw[aDz,hh]at hk;obtain⟨⟨x,q,I,E,y,p⟩,_⟩:=A _ (aA1 (by simpa using hk));simp only at p;have G:=bBl y H p;exact D x q l hl I E y (by rw[p];exact hh) (by rw[G];exact F)
 rintro⟨e,i,j,m⟩;refine⟨e,i,o.ext j,λl hl=>?_⟩;rcases(u l).1 hl with hl|hl
 .exact z e i j l hl
 exact m l hl
theorem aOn{b:bK}(e:∀x t,look b x=Y t->aP t 1=V):fW d [] b:=by
 refine⟨λx=>(look b x).getD [(⟨#[]⟩,0)],λx=>?_,λx t g=>by simp[g],by simp⟩;show aP ((look b x).getD [(⟨#[]⟩,0)]) 1=V;cases hh:look b x with
 |none=>
  have f:(⟨#[]⟩:ByteArray).toList=[]:=by rw[ByteArray.toList_eq]
  simp[aP,dQ,bI,aK,f]
 |some t=>exact e x t hh
structure gQ(L:bK):Prop where
 keys:∀p∈L,0<=p.1/\p.1<60
 once:(L.map zn).Nodup
 terms:∀p∈L,aP p.2 1=V/\Z p.2<=60
theorem gQ.nil:gQ []:=⟨by simp,by simp,by simp⟩
theorem gQ.look{b:bK}(e:gQ b):∀x t,look b x=Y t->aP t 1=true:=λ_ _ f=>(e.terms _ (aA1 f)).1
theorem aHj{b:bK}(e:look b x=zp):x∉b.map zn:=by grind[look,List.lookup_eq_none_iff]
theorem gQ.snoc{b:bK}(e:gQ b)(o:Go.Proofs.YtenobhkjiebhaaaGreatDoor.look b x=zp)(i:0<=x)(j:x<60)(s:aP t 1=V)(q:Z t<=60):gQ (b++[(x,t)]):=by
 refine⟨λp hp=>?_,?_,λp hp=>?_⟩
 .rcases List.mem_append.1 hp with hp|hp
  .exact e.keys p hp
  simp at hp;subst hp;exact⟨i,j⟩
 .rw[zb,zh];refine⟨e.once,by simp,λa m u f g=>aHj o ?_⟩;simp at f;subst f g;exact m
 rcases List.mem_append.1 hp with hp|hp
 .exact e.terms p hp
 simp at hp;subst hp;exact⟨s,q⟩
theorem gQ.few{b:bK}(e:gQ b):Z b<=60:=by
 have f:∀x∈b.map zn,x∈(List.range 60).map (λn:Nat=>(n:Int)):=by intro x j;obtain⟨p,i,rfl⟩:=List.mem_map.1 j;have:=e.keys p i;exact List.mem_map.2 ⟨p.1.toNat,by simp;omega,by omega⟩
 have g:=List.Nodup.length_le_of_subset e.once f;simpa using g
theorem gQ.left{g i:bK}(b:gQ (g++i)):gQ g:=
 ⟨λf e=>b.keys f (za _ e),by have:=b.once;rw[zb,zh]at this;exact this.1,λf e=>b.terms f (za _ e)⟩
theorem bBn{b:bK}(e:gQ b){x:Int}{t:List Nd}(i:(x,t)∈b):look b x=Y t:=by
 cases hl:look b x with
 |none=>exact absurd (List.mem_map.2 ⟨_,i,rfl⟩) (aHj hl)
 |some u=>
  have m:=aA1 hl;have:=e.once;clear hl;induction b with
  |nil=>simp at i
  |cons p r ih=>
   simp only[List.map_cons,List.nodup_cons]at this;have j:gQ r:=⟨λg f=>e.keys g (zm _ f),this.2,λg f=>e.terms g (zm _ f)⟩;grind
theorem aE4(b:dQ n=V)(e:aK n=V):0<=n.2/\n.2<60:=by simpa[dQ,e]using b
theorem bBo(a:List Nd):∀(b:List Nd) (e:Nat) (f g:bK),aP a e=V->aP b e=V->Z b<=60->gQ f->dD a b f=Y g->gQ g:=by
 induction a with
 |nil=>
  intro b e f g _ _ _ o i;cases b with
  |nil=>simp[dD]at i;subst i;exact o
  |cons m b=>simp[dD]at i
 |cons n r ih=>
  intro b e f g j p s o i;cases e with
  |zero=>simp[aP]at j
  |succ e=>
   rw[mC,zl]at j;by_cases q:aK n=V
   .have y:=aBg b 1 e (by rw[<-p];congr 1;omega);have u:aP r e=true:=by simpa[kE q]using j.2
    cases hl:look f n.2 with
    |some t=>
     grind[aM,aE0]
    |none=>
     grind[gQ.snoc,aE1,aE4]
   have z:aK n=false:=by simpa using q
   cases b with
   |nil=>simp[aP]at p
   |cons m b=>
    grind[aE2,mC]
theorem aOo(l:List Nd)(k b:Nat)(e:k<Z l):aM (l.drop k) (b+1)=1+aM (l.drop (k+1)) (b+bI l[k]):=by rw[zo e];rfl
theorem aA2(l:List Nd)(k b:Nat)(e:k<Z l):aP (l.drop k) (b+1)=(dQ l[k] && aP (l.drop (k+1)) (b+bI l[k])):=by rw[zo e,mC]
theorem aOp(e:List Nd)(f:Nat)(b:bK)(g:f=Z e):dD [] (e.drop f) b=Y b:=by subst g;simp[dD]
theorem aOq(a b:List Nd)(k e:Nat)(f:bK)(t:List Nd)(g:k<Z a)(j:aK a[k]=V)(i:look f a[k].2=Y t):dD (a.drop k) (b.drop e) f=if t=(b.drop e).take (aM (b.drop e) 1) then dD (a.drop (k+1)) (b.drop (e+aM (b.drop e) 1)) f else none:=by
 grind[aE0,List.drop_drop,zo]
theorem aOr(a b:List Nd)(k e:Nat)(f:bK)(g:k<Z a)(j:aK a[k]=V)(i:look f a[k].2=zp):dD (a.drop k) (b.drop e) f=dD (a.drop (k+1)) (b.drop (e+aM (b.drop e) 1)) (f++[(a[k].2,(b.drop e).take (aM (b.drop e) 1))]):=by
 grind[aE1,List.drop_drop,zo]
theorem aOs(a b:List Nd)(k e:Nat)(f:bK)(i:k<Z a)(g:e<Z b)(j:aK a[k]=false):dD (a.drop k) (b.drop e) f=if a[k]=b[e] then dD (a.drop (k+1)) (b.drop (e+1)) f else none:=by
 grind[aE2,zo]
theorem aE5{q:Nat}(b:aP (l.drop k) (q+1)=V):k<Z l:=by grind[aP,zc,Nat.lt_or_ge]
theorem aOt(e:k<=Z l)(b:aP (l.drop k) 0=V):k=Z l:=by grind[aAq,Nat.lt_or_ge]
def mH(w:U)(B k:Nat):Prop:=k<B\/∀e b f,w.heap[k]?=Y (.cells e b f)->b≠206/\b≠3
structure Fr(B:Nat)(w w':U):Prop where
 os:w'.os=w.os
 tape:w'.tape=w.tape
 output:w'.output=w.output
 size:w.heap.size<=w'.heap.size
 block:∀k,k<w.heap.size->mH w B k->w'.heap[k]?=w.heap[k]?
theorem Fr.refl(B:Nat)(w:U):Fr B w w:=⟨rfl,rfl,rfl,zg _,λ_ _ _=>rfl⟩
theorem mH.fr(h:mH w B k)(j:k<w.heap.size)(g:Fr B w w'):mH w' B k:=by
 have f:=g.block k j h;rcases h with h|h
 .exact zd h
 exact z1 λe b i m=>h e b i (by rw[<-f];exact m)
theorem Fr.trans{B:Nat}{a b c:U}(e:Fr B a b)(k:Fr B b c):Fr B a c:=
 ⟨k.os.trans e.os,k.tape.trans e.tape,k.output.trans e.output,Nat.le_trans e.size k.size,λi f g=>by
  rw[k.block i (Nat.lt_of_lt_of_le f e.size) (g.fr f e),e.block i f g]⟩
theorem Fr.of_below(b:aB w w'):Fr B w w':=⟨b.os,b.tape,b.output,b.size,λk e _=>b.block k e⟩
theorem Fr.below(b:Fr B w w')(f:B<=w.heap.size):Below B w w':=⟨b.os,b.tape,b.output,b.size,λk e=>b.block k (by omega) (zd e)⟩
theorem Fr.cell(e:Fr B w w'){a:Addr}{v:zt}(b:zv w a=Y v)(f:mH w B a.block):zv w' a=Y v:=
 (World.cell?_of_block (e.block _ (zi w a b) f)).trans b
theorem Fr.alloc{a:U}(e:Fr B a w)(b:Obj):Fr B a (w.alloc b):=e.trans (.of_below (aI _ b))
theorem Fr.drawn{a b:U}(e:Fr B a w)(k:∃n,b=w.drewN n):Fr B a b:=e.trans (.of_below (aN k))
structure iR(w:U)(B:Nat)(a:Option Addr)(l:List Nd):Prop where
 nodes:dI w a l
 low:∀p,a=Y p->p.block<B
theorem iR.fr(b:iR w B a l)(f:Fr B w w'):iR w' B a l:=
 ⟨⟨b.nodes.few,b.nodes.short,λk o=>by
  obtain⟨i,p,e,j,m⟩:=b.nodes.cell k o;have g:=b.low _ e;exact⟨i,p,e,f.cell j (zd g),f.cell m (zd g)⟩⟩,b.low⟩
structure eC(w:U)(B:Nat)(a:Option Addr)(c:List Lt):Prop where
 few:Z c<=8
 cell:∀k (h:k<Z c),∃b o aa cap,a=Y (aQ b o)/\mH w B b/\zv w (aQ b (o+k*2))=Y (.bool c[k].1)/\zv w (aQ b (o+k*2+1))=Y (.slice aa c[k].2.length cap)/\c[k].2.length<=cap/\iR w B aa c[k].2
theorem eC.fr(f:eC w B a c)(b:Fr B w w'):eC w' B a c:=
 ⟨f.few,λk u=>by
  obtain⟨j,y,i,m,o,e,g,p,s,q⟩:=f.cell k u;exact⟨j,y,i,m,o,e.fr (zi w _ g) b,b.cell g e,b.cell p e,s,q.fr b⟩⟩
def aBh(w:U)(B:Nat)(r:Option (List Nd))(v:zt):Prop:=
 match r with
 |none=>v=nQ
 |some t=>∃a b,v=.slice (some a) (Z t) b/\iR w B (some a) t
theorem aBh.fr{r:Option (List Nd)}(b:aBh w B r v)(f:Fr B w w'):aBh w' B r v:=by
 cases r with
 |none=>exact b
 |some t=>obtain⟨a,e,g,i⟩:=b;exact⟨a,e,g,i.fr f⟩
structure dN(w:U)(B g:Nat)(dv:zt)(L:bK):Prop where
 low:B<=g
 blk:∃cs,w.heap[g]?=Y (.cells cs 206 (0,0))
 among:zv w (aQ g 0)=Y dv
 term:∀x:Nat,x<60->∃v,zv w (aQ g (1+x))=Y v/\aBh w B (look L (x:Int)) v
 bound:∃bv,zv w (aQ g 61)=Y bv/\zs w B 3 1 bv (Z L) (L.map λp=>iQ p.1)
 ok:gQ L
theorem dN.frozen{g:Nat}{b:bK}(e:dN w B g dv b)(i:Nat):World.frozen? w (aQ g i)=false:=by obtain⟨j,f⟩:=e.blk;simp[World.frozen?,f]
theorem dN.lt{g:Nat}{b:bK}(e:dN w B g dv b):g<w.heap.size:=zi w _ e.among
theorem dN.below{g:Nat}{e:bK}(b:dN w B g dv e)(k:aB w w'):dN w' B g dv e:=by
 obtain⟨j,f,i⟩:=b.bound;refine⟨b.low,?_,aC k b.among,λx o=>?_,⟨j,aC k f,bF i k (zg _)⟩,b.ok⟩
 .obtain⟨m,hb⟩:=b.blk;exact⟨m,by rw[k.block g b.lt];exact hb⟩
 obtain⟨v,p,q⟩:=b.term x o;grind[Below.at',Fr.of_below,aBh.fr]
theorem dN.drawn{e:Nat}{b:bK}(f:dN w B e dv b)(k:∃n,w'=w.drewN n):dN w' B e dv b:=f.below (aN k)
theorem bBp{n:Nat}(e:zs w B 3 1 v n xs)(b:zu v=Y k):¬mH w B k:=by
 obtain⟨_,⟨rfl,_⟩|⟨i,f,g,rfl,j,m,_⟩⟩:=e
 .simp[zu]at b
 simp[zu]at b;grind[mH]
theorem Fr.grownInts{n:Nat}(f:zs w B 3 1 v n xs)(b:zf w w' (zu v)):Fr B w w':=
 ⟨b.os,b.tape,b.output,b.size,λk g i=>b.block k g (λe=>bBp f e.symm i)⟩
theorem dN.apart{g:Nat}{f:bK}(i:dN w B g dv f){v:zt}{n:Nat}{xs:List zt}(m:zs w B 3 1 v n xs):Y g≠zu v:=by
 intro b;obtain⟨_,⟨rfl,_⟩|⟨k,o,q,rfl,hb,j,_⟩⟩:=m
 .simp[zu]at b
 simp[zu]at b;subst b;obtain⟨p,e⟩:=i.blk;rw[j]at e;simp at e
theorem aE6{b:TypeId}{f:Nat}{n:Nat}(m:zs w B b f v n xs){p:Addr}(u:Y p.block≠zu v)(z:zt):zs (w.setCell p z) B b f v n xs:=by
 obtain⟨e,⟨rfl,o⟩|⟨j,g,i,rfl,q,s,y⟩⟩:=m
 .exact⟨e,zd ⟨rfl,o⟩⟩
 refine⟨e,z1 ⟨j,g,i,rfl,q,?_,y⟩⟩;rw[heap_setCell_other _ _ _ _ (λb=>u (by simp[zu,b])),s]
def pH(w:U)(e:Nat):Prop:=∃b,w.heap[e]?=Y (.cells b 206 (0,0))
theorem pH.set{g:Nat}(e:pH w g)(j:Nat)(u:zt):pH (zr w (aQ g j) u) g:=by obtain⟨b,f⟩:=e;exact⟨_,heap_setCell_same w g j b _ u f⟩
theorem pH.grown{b:Nat}{r:Option Nat}(g:pH w b)(i:zf w w' r)(j:Y b≠r):pH w' b:=by obtain⟨f,e⟩:=g;exact⟨f,by rw[i.block b (bA e) j];exact e⟩
theorem Fr.setB{b:Nat}(j:B<=b)(i:pH w b)(e:Nat)(f:zt):Fr B w (zr w (aQ b e) f):=by refine⟨rfl,rfl,rfl,by simp[zr],λk _ m=>heap_setCell_other _ _ _ _ (λg=>?_)⟩;grind[pH,mH]
theorem bBq{b:bK}{e x:Nat}(f:look b (e:Int)=zp):look (b++[((e:Int),t)]) (x:Int)=if x=e then Y t else look b (x:Int):=by grind[aDy]
theorem dN.more{e:U}{b f m:Nat}{D i:zt}{j:bK}{a:Addr}{o:Obj}(g:dN w B b dv j)(a2:f<60)(F:look j (f:Int)=zp)(T:iR w B (Y a) t)(a3:aP t 1=V)(S:Z t<=60)
  (G:zs w B 3 1 D (Z j) (j.map λp=>iQ p.1)) (s:zf ((zr w (aQ b (1+f)) (.slice (Y a) (Z t) m)).alloc o) e (zu D))
  (H:zs e B 3 1 i (Z j+1) ((j.map λp=>iQ p.1)++[iQ (f:Int)])):dN (zr e (aQ b 61) i) B b dv (j++[((f:Int),t)])/\Fr B w (zr e (aQ b 61) i):=by
 have q:=g.apart G;have M:pH (zr w (aQ b (1+f)) (.slice (Y a) (Z t) m)) b:=pH.set g.blk _ _;have a7:=aE6 G (p:=(aQ b (1+f))) q (.slice (Y a) (Z t) m);have Q:Fr B w (zr w (aQ b (1+f)) (.slice (Y a) (Z t) m)):=Fr.setB g.low g.blk _ _;have z:pH e b:=(M.grown (World.grownBy_alloc _ o zp) (by simp)).grown s q;have R:Fr B w e:=(Q.alloc o).trans (Fr.grownInts (a7.alloc o) s);have C:Fr B w (zr e (aQ b 61) i):=R.trans (Fr.setB g.low z _ _);have J:∀y v,y≠1+f->y≠61->zv w (aQ b y)=Y v->zv (zr e (aQ b 61) i) (aQ b y)=Y v:=by intro y v b0 b1 u;rw[zq e _ _ _ (by first|(simp;done)|(simp;omega))];refine s.cell (aC (aI _ o) ?_) q;rw[zq w _ _ _ (by first|(simp;done)|(simp;omega))];exact u
 have a6:zv (zr e (aQ b 61) i) (aQ b (1+f))=Y (.slice (Y a) (Z t) m):=by rw[zq e _ _ _ (by first|(simp;done)|(simp;omega))];obtain⟨v,u,_⟩:=g.term f a2;exact s.cell (aC (aI _ o) (zk w _ _ u)) q
 have P:∃L,zv e (aQ b 61)=Y L:=by obtain⟨N,a0,_⟩:=g.bound;refine⟨N,s.cell (aC (aI _ o) ?_) q⟩;rw[zq w _ _ _ (by first|(simp;done)|(simp;omega))];exact a0
 obtain⟨L,a4⟩:=P;have X:Y b≠zu i:=by
  intro A;obtain⟨_,⟨rfl,_⟩|⟨k,m,a9,rfl,b2,a1,_⟩⟩:=H
  .simp[zu]at A
  simp[zu]at A;subst A;obtain⟨a8,E⟩:=z;rw[a1]at E;simp at E
 refine⟨⟨g.low,z.set _ _,J 0 dv (by omega) (by omega) g.among,λx a5=>?_,⟨i,zk e _ _ a4,?_⟩,g.ok.snoc F (by omega) (by omega) a3 S⟩,C⟩
 .rw[bBq F];by_cases I:x=f
  .subst I;rw[aT rfl];exact⟨_,a6,a,m,rfl,T.fr C⟩
  rw[aS I];obtain⟨v,u,W⟩:=g.term x a5;exact⟨v,J _ v (by omega) (by omega) u,W.fr C⟩
 have:=aE6 H (p:=(aQ b 61)) X i;simpa using this
theorem dN.less{b:Nat}{e M:bK}(g:dN w B b dv (e++M))(i:pH w' b)(C:Fr B w w')
  (u:zv w' (aQ b 0)=Y dv) (G:∀x:Nat,x<60->zv w' (aQ b (1+x))=if (x:Int)∈M.map zn then Y (nQ) else zv w (aQ b (1+x))) (y:(zv w' (aQ b 61)).isSome=V) {bv':zt}
  (q:zs w' B 3 1 bv' (Z e) (e.map λH=>iQ H.1)):dN (zr w' (aQ b 61) bv') B b dv e/\Fr B w (zr w' (aQ b 61) bv'):=by
 have m:Fr B w (zr w' (aQ b 61) bv'):=C.trans (Fr.setB g.low i _ _);obtain⟨P,E⟩:=Option.isSome_iff_exists.1 y;have A:Y b≠zu bv':=by
  intro f;obtain⟨_,⟨rfl,_⟩|⟨k,I,L,rfl,N,D,_⟩⟩:=q
  .simp[zu]at f
  simp[zu]at f;subst f;obtain⟨J,o⟩:=i;rw[D]at o;simp at o
 refine⟨⟨g.low,i.set _ _,by rw[zq w' _ _ _ (by simp)];exact u,λx s=>?_,⟨bv',zk w' _ _ E,aE6 q (p:=(aQ b 61)) A bv'⟩,g.ok.left⟩,m⟩;rw[zq w' _ _ _ (by first|(simp;done)|(simp;omega)),G x s];obtain⟨v,F,z⟩:=g.term x s;by_cases j:(x:Int)∈M.map zn
 .rw[aT j];refine⟨_,rfl,?_⟩;have:look e (x:Int)=none:=by
   cases hl:look e (x:Int)with
   |none=>rfl
   |some t=>
    exfalso;have p:=g.ok.once;rw[zb,zh]at p;exact p.2.2 _ (List.mem_map.2 ⟨_,aA1 hl,rfl⟩) _ j rfl
  rw[this];rfl
 rw[aS j];refine⟨v,F,?_⟩;have f:look (e++M) (x:Int)=look e (x:Int):=by
  rw[aDz];grind[look,aA1]
 rw[<-f];exact z.fr m
theorem aOu{b:ByteArray}(e:dQ (b,x)=V)(f:¬b.toList.isEmpty=V):0<=x/\x<=5/\bI (b,x)=x.toNat:=by grind[fS,dQ,aK,bI]
abbrev Us:=ByteArray×Bool×Int
def qW(k:Nat)(n:Nd):List Us:=if aK n then [] else [(n.1,decide (k=0),n.2)]
def mI(l:List Nd):Nat->List Us
 |0=>[]
 |k+1=>mI l k++((l[k]?).map (qW k)).getD []
def pI(c:List Lt):Nat->List Us
 |0=>[]
 |k+1=>pI c k++((c[k]?).map λx=>mI x.2 (Z x.2)).getD []
def tV(c:List Lt):List Us:=pI c (Z c)
theorem aOv(l:List Nd)(k:Nat)(b:k<Z l):mI l (k+1)=mI l k++qW k l[k]:=by simp[mI,b]
theorem aHk(c:List Lt)(k:Nat)(b:k<Z c):pI c (k+1)=pI c k++mI c[k].2 c[k].2.length:=by simp[pI,b]
theorem aOw(l:List Nd)(k:Nat):Z (mI l k)<=k:=by
 induction k with
 |zero=>simp[mI]
 |succ k ih=>
  grind[mI,qW,z0]
theorem bBr(c:List Lt)(k:Nat):Z (pI c k)<=aY (c.take k):=by
 induction k with
 |zero=>simp[pI]
 |succ k ih=>
  grind[tK,aOw,pI,aHk,List.getElem?_eq_none,z0,List.take_of_length_le,List.take_succ_eq_append_getElem]
def aOx(b:List Us):Prop:=∀e (f:e<Z b),b[e].2.2<=5/\∀k (g:k<e),(b[k]'(by omega)).1=b[e].1->(b[k]'(by omega)).2=b[e].2
theorem bBs(n:Nat):((n:Int)==0)=decide (n=0):=by rw[Bool.eq_iff_iff];simp
def qX(b:Pl):Us:=(b.1,b.2.1,b.2.2.1)
theorem bBt(a:Option Addr)(G:Nat)(l:List Nd)(f q:Nat)(w:U)(E:dI w a l)(Q:Z l<=60)(M:aP (l.drop f) (1+q)=V)(L:f<=Z l):Calls zj 142 #[.slice a (Z l) G,iQ f] w λH w'=>H=.returned (iQ ((f+aM (l.drop f) 1:Nat)))/\aB w w':=by
 go_enter Tryz.func142,Tryz.ntmps142;go_wp2;go_loopw[1,5] (λy N wr=>∃k b:Nat,k<=Z l/\b<=1+5*k/\y=iQ k/\N=iQ b/\aB w wr/\f+aM (l.drop f) 1=k+aM (l.drop k) b/\aP (l.drop k) (b+q)=V) (λy _ _=>Z l-(intOf y).toNat);exact⟨f,1,L,by omega,rfl,rfl,dP,rfl,M⟩;obtain⟨k,b,R,S,rfl,rfl,i,m,g⟩:=hrel;cases b with
 |zero=>
  have o:=O m;have e:=O i;clear m i g;go_wp2;go_ret;exact⟨lK (by rw[o.o];simp),e.o⟩
 |succ b=>
  have s:k<Z l:=aE5 (q:=b+q) (by rw[<-g];congr 1;omega);obtain⟨P,a0,rfl,C,D⟩:=E.cell k s;have I:=aC i C;have J:=aC i D;rw[aOo l k b s]at m;rw[show b+1+q=(b+q)+1 by omega,aA2 l k (b+q) s,zl]at g;obtain⟨u,g⟩:=g;generalize l[k]=nd at *;obtain⟨z,x⟩:=nd;simp only at I J;clear C D E;have e:=O i;have o:=O m;have A:=O g;clear i m g;by_cases p:z.toList.isEmpty=V
  .have j:aE (bI (z,x)=0):=O (kE p);clear u;go_wp2;exact⟨⟨k+1,b,by omega,by omega,by go_num,by go_num,(by first|exact e.o|exact e.o.alloc e.o.size _),by rw[o.o,j.o];simp;omega,by have:=A.o;rw[j.o]at this;rw[<-this];congr 1⟩,by simp[intOf];omega⟩
  obtain⟨W,X,F⟩:=aOu u p;have j:=O F;have T:z.toList.isEmpty=false:=by simpa using p
  clear u F p;go_wp2;exact⟨⟨k+1,b+x.toNat,by omega,by omega,by go_num,by go_num,(by first|exact e.o|exact e.o.alloc e.o.size _),by rw[o.o,j.o];omega,by have:=A.o;rw[j.o]at this;rw[<-this];congr 1;omega⟩,by simp[intOf];omega⟩
theorem bBu(a:Option Addr)(L:Nat)(l:List Nd)(w:U)(y:dI w a l)(H:lL l=V):Calls zj 113 #[.slice a (Z l) L] w λf w'=>f=.returned (.bool V)/\aB w w':=by
 have q:aP l 1=V/\Z l<=60:=by simpa[lL]using H
 obtain⟨q,X⟩:=q;have J:=O q;clear H q;go_enter Tryz.func113,Tryz.ntmps113;go_wp2;go_loopw[3,4] (λS C wr=>∃k b:Nat,k<=Z l/\b<=1+5*k/\C=iQ k/\S=iQ b/\aB w wr/\aP (l.drop k) b=V) (λ_ C _=>Z l-(intOf C).toNat);exact⟨0,1,by omega,by omega,rfl,rfl,dP,J.o⟩;obtain⟨k,b,a2,a3,rfl,rfl,m,e⟩:=hrel;have j:=O m;by_cases o:k<Z l
 .obtain⟨W,a5,rfl,E,F⟩:=y.cell k o;have M:=aC m E;have N:=aC m F;have P:=y.short k o;have z:b≠0:=λf=>by
   subst f;rw[aAq l k o]at e;cases e
  have p:dQ l[k]=true:=by
   cases f:dQ l[k]
   .rw[aJo l k b o f]at e;cases e
   rfl
  rw[aJp l k b o z p]at e;have a1:((b:Int)==0)=false:=by rw[beq_eq_false_iff_ne];omega
  clear E F y m;generalize l[k]=nd at *;obtain⟨i,x⟩:=nd;simp only at M N P;have u:=λT=>aJn i T (by omega)
  have D:=O e;clear e;by_cases g:i.toList.isEmpty=V
  .have A:0<=x/\x<60:=by simpa[dQ,aK,g]using p
   have s:aE (bI (i,x)=0):=by unfold bI aK;rw[aT g];exact rfl
   obtain⟨Q,R⟩:=A;clear p;go_wp2;exact⟨⟨k+1,b-1,by omega,by omega,by go_num,by go_num,j.o.alloc j.o.size _,by have:=D.o;rwa[s.o]at this⟩,by simp[intOf];omega⟩
  have A:fS i=V/\0<=x/\x<=5:=by simpa[dQ,aK,g]using p
  have s:aE (bI (i,x)=x.toNat):=by unfold bI aK;rw[aS g];exact rfl
  obtain⟨G,Q,R⟩:=A;simp only[G]at u;have I:=O u;have a4:i.toList.isEmpty=false:=by simpa using g
  clear p u G g;go_wp2_with(go_at_call 108;refine(aD I _).mono ?_;rintro f w' ⟨rfl,rfl⟩);exact⟨⟨k+1,b-1+x.toNat,by omega,by omega,by go_num,by go_num,j.o.alloc j.o.size _,by have:=D.o;rwa[s.o]at this⟩,by simp[intOf];omega⟩
 rw[show l.drop k=[] from zc (by omega)]at e;have z:b=0:=by simpa[aP]using e
 subst z;have a0:(Z l:Int)<=60:=by omega
 clear e m;go_wp2;all_goals
  go_ret;exact⟨rfl,j.o⟩
theorem aHl(a:Option Addr)(j:Nat)(c:List Lt)(w:U)(C:bU w a c)(Q:bD c=V):Calls zj 75 #[.slice a (Z c) j] w λg w'=>g=.returned (.bool V)/\aB w w':=by
 have b1:(bN c=V/\∀x∈c,iP x.2=V)/\c=bB c:=by simpa[bD]using Q
 obtain⟨⟨D,N⟩,X⟩:=b1;have s:=aAt a j c w C;rw[D]at s;obtain⟨c1,c0⟩:Z c<=8/\aY c<=60:=by simpa[bN]using D
 have a3:=O s;have q:=O C;have a1:=O N;have a4:=O X;clear Q s D C N X;go_enter Tryz.func75,Tryz.ntmps75;go_wp2_with(go_at_call 42;refine(aD a3).mono ?_;rintro g w' ⟨rfl,rfl⟩);go_loopw[4] (λF wr=>∃k:Nat,k<=Z c/\F=iQ k/\aB w' wr) (λF _=>Z c-(intOf F).toNat);exact⟨0,z2 _,rfl,dP⟩;obtain⟨k,c2,rfl,e⟩:=hrel;have o:=O e;have P:=e.size;by_cases T:k<Z c
 .obtain⟨b8,c5,a8,a9,rfl,H,J,i⟩:=q.o.cell k T;have z:=aC e H;have A:=aC e J;have f:=a1.o _ (ze T);have y:=bBu a8 a9 c[k].2 wr (i.below e (zg _)) (by simp[iP]at f;exact f.1);clear H J e;generalize c[k]=x at *;obtain⟨d1,b6⟩:=x;simp only at z A i y f;cases b6 with
  |nil=>simp[iP,aOf]at f
  |cons n0 r=>
   obtain⟨b9,c4,rfl,m,I⟩:=i.cell 0 (by simp);simp only[List.getElem_cons_zero,Nat.zero_mul,Nat.add_zero]at m I;obtain⟨b5,d0⟩:=n0;simp only at m;have a6:=O y;have b2:=i.few;simp only[List.length_cons]at b2 z A;have b0:=aC o.o m;have c3:b5.toList.isEmpty=false:=by simp[iP,aK]at f;simpa using f.2
   clear y i m I f;go_wp2_with(first
    |(go_at_call 113;refine(aD a6).mono ?_;rintro g a0 ⟨rfl,b⟩;have c6:=aC b z;have c7:=aC b A;have c8:=aC b b0;have p:=O (o.o.trans (b.mono P));clear b)
    |go_in)
   exact⟨⟨k+1,by omega,by go_num,p.o⟩,by simp[intOf];omega⟩
 have E:=q.o.below e (zg _);have u:=aFl a j c wr E (by omega);rw[<-a4.o]at u;have a5:=O u;have a7:=O E;clear e E u;go_wp2_with(first
  |(go_at_call 72;refine(aD a5).mono ?_;rintro g a0 ⟨v,b7,rfl,L,W,M,b⟩;obtain⟨b3,b4,rfl,S⟩:=aHe L W M (by omega) q.o.shorts;have G:=O (aAs a b3 j b4 c c a0 (a7.o.below b (zg _)) S);rw[fL rfl]at G;have p:=O (o.o.trans (b.mono P));clear L W M b S)
  |(go_at_call 12;refine(aD G).mono ?_;rintro g c9 ⟨rfl,R⟩;have a2:=O (bE p.o (aN R));clear R)
  |go_in)
 go_ret;exact⟨rfl,a2.o⟩
