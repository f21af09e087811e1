import Derived.Test.YtenobhkjiebhaaaGreatDoorSParS18
import Derived.Test.YtenobhkjiebhaaaGreatDoorONumberS18
import Derived.Deep.AppendLies
import Derived.Laws.AppendOwnNone
open Bool renaming false->zx,true->U,false_or->zk
open List renaming length->Z,getElem_mem->zq,take_succ_eq_append_getElem->zp,getElem?_append_left->zn,ext_getElem?->zm,map_map->zi,replicate->zg,map_congr_left->ze,any_eq_true->zc,range->z0,getD->z1
open Nat renaming le_refl->zu,zero_le->zo,add_comm->zh,lt_of_lt_of_le->zd
open Option renaming some->zw
open Prod renaming fst->zs
namespace Go.Proofs.YtenobhkjiebhaaaGreatDoor
open Go renaming World->Y,Value->zt
open _root_.Go.Proofs.Tryz renaming prog->zj
open Value renaming ownBlock->zf,bool->za
open World renaming ownsRow->zr,grownBy->zl,cell?->zb
open Go.RowKit Go.Shelf Go.WideMaps
set_option maxHeartbeats 4000000
set_option maxRecDepth 100000
variable{D:List Bool}{s:List Nd}{R:List Rw}{B e tp:Nat}{g1 g2:Nat->Nat}{Bs:Nat->Nat->Prop}{Q:Tb}{w wr:Y}
def xN(b:Nat)(a:Nat->Nat):Nat->Nat
 |0=>b
 |i+1=>a i
def uD(e:Nat)(g1 g2:Nat->Nat)(a:Nat):Nat:=if a<e then g1 a else g2 (a-e)
theorem nZ{a:Nat}(b:a<e):uD e g1 g2 a=g1 a:=aT b
theorem aF2(a:Nat):uD e g1 g2 (a+e)=g2 a:=by unfold uD;rw[aS (by omega)];congr 1;omega
theorem aJ1{a:List Nat}(c:∀b∈a,b<e):a.map (uD e g1 g2)=a.map g1:=ze λb d=>nZ (c b d)
theorem aJ2(a:List Nat):(a.map (· + e)).map (uD e g1 g2)=a.map g2:=by grind[aF2,ze,zi]
theorem mL.append{F:Int}{b:Nat}{r:List Rw}{H:List Nat}{J:List Nd}(c:mL F R b s r H J g1){v:Nat}{x:List Rw}{I:List Nat}{L:List Nd}{g2:Nat->Nat}(i:mL F r v J x I L g2):mL F R (b+v) s x (H++I) L (uD (aM s b) g1 g2):=by
 have P:=xC s b v;have T:=c.rest;subst T;have G:∀a,a<aM s b->x[g1 a]?=r[g1 a]?:=λa j=>i.ext _ (c.lt j)
 have n:∀a g,¬a<aM s b->s[a]?=zw g->(s.drop (aM s b))[a-aM s b]?=zw g:=by grind
 have o:∀a,¬a<aM s b->uD (aM s b) g1 g2 a=g2 (a-aM s b):=λa j=>aS j
 refine⟨(yH s b v).2 ⟨c.full,i.full⟩,by rw[i.rest,List.drop_drop,P],?_,Nat.le_trans c.more i.more,λa j=>by rw[i.ext a (zd j c.more),c.ext a j],?_,?_,?_,?_,?_,λS=>i.once (c.once S)⟩
 .rw[aPo,List.map_append,aJ1 (λq E=>by have:=(sY b s 0 c.full q E).2;omega),<-c.ps,aEh,aJ2,<-i.ps]
 .intro a g j l t;by_cases k:a<aM s b
  .rw[nZ k,G a k];exact c.var a g k l t
  rw[o a k];exact i.var _ g (by omega) (n a g k l) t
 .intro a g j l t;by_cases k:a<aM s b
  .rw[nZ k,G a k];obtain⟨a0,d,f,W⟩:=aI1 s b a c.full k;rw[l]at d;simp at d;subst d;rw[aJ1 (λq E=>by have:=(sY _ _ _ f q E).2;omega)];exact c.name a g k l t
  rw[o a k];obtain⟨d,f⟩:=i.name _ g (by omega) (n a g k l) t;refine⟨?_,Nat.le_trans c.more f⟩;rw[d,List.drop_drop,show aM s b+(a-aM s b+1)=a+1 by omega,show a+1=(a-aM s b+1)+aM s b by omega,aEh _ _ (a-aM s b+1),aJ2]
 .intro a p g u j X l y C A e;by_cases d:a<aM s b<;>by_cases f:p<aM s b
  .rw[nZ d,nZ f]at e;exact c.inj a p g u d f l y C A e
  .rw[nZ d,o p f]at e;have M:=c.lt d;have N:=(i.name _ u (by omega) (n p u f y) A).2;omega
  .rw[nZ f,o a d]at e;have M:=c.lt f;have N:=(i.name _ g (by omega) (n a g d l) C).2;omega
  rw[o a d,o p f]at e;have:=i.inj _ _ g u (by omega) (by omega) (n a g d l) (n p u f y) C A e;omega
 .intro m d f;by_cases z:m<Z r
  .obtain⟨a,j,e⟩:=c.onto m d z;exact⟨a,by omega,by rw[nZ j];exact e⟩
  obtain⟨a,j,e⟩:=i.onto m (by omega) f;exact⟨a+aM s b,by omega,by rw[aF2];exact e⟩
 intro m q d f;by_cases z:m<Z r
 .rw[i.ext m z]at f;exact c.fresh m q d f
 exact i.fresh m q (by omega) f
theorem mL.old{f:Int}{R:List Rw}{a:Nd}{c:Nat}{s:List Nd}(d:aK a=U)(k:∃b,R[c]?=zw b/\b.node=oD f a):mL f R 1 (a::s) R [c] s (λ_=>c):=by
 have j:aM (a::s) 1=1:=by simp[aM,kE d]
 refine⟨by simp[eY,kE d],by rw[j];rfl,rfl,zu _,λ_ _=>rfl,?_,?_,?_,λb g i=>by omega,λb l g i=>?_,id⟩;all_goals grind
theorem mL.new{i:Int}{R:List Rw}{a:Nd}{s:List Nd}(k:aK a=U)(q:∀g∈R,g.node≠oD i a):mL i R 1 (a::s) (R++[⟨oD i a,Z R,[]⟩]) [R.length] s (λ_=>Z R):=by
 have j:aM (a::s) 1=1:=by simp[aM,kE k]
 refine⟨by simp[eY,kE k],by rw[j];rfl,rfl,by simp,λu o=>by rw[zn o],?_,?_,?_,?_,?_,λm=>m.new q⟩
 .intro f r d c l;rw[j]at d;have:f=0:=by omega
  subst this;simp at c;subst c;exact⟨⟨oD i a,Z R,[]⟩,by simp,rfl⟩
 .intro f r d c l;rw[j]at d;have:f=0:=by omega
  subst this;simp at c;subst c;rw[k]at l;cases l
 .intro f v _ _ d t _ _ _ _ _;omega
 .intro g n b;exact⟨0,by omega,by simp at b;omega⟩
 intro g x n b;have p:=(eE b);simp at p;have:g=Z R:=by omega
 subst this;simp at b;subst b;exact⟨rfl,λ_=>rfl⟩
theorem mL.name1{H:Int}{g:Nd}{n:List Rw}{F:List Nat}{G:List Nd}(p:aK g=zx)(a:mL H (R++[⟨g,Z R,[]⟩]) (bI g) s n F G g1):mL H R 1 (g::s) (setParts n (Z R) F) [R.length] G (xN (Z R) g1):=by
 have I:aM (g::s) 1=1+aM s (bI g):=by simp[aM]
 have J:=a.more;simp at J;have y:n[R.length]?=zw ⟨g,Z R,[]⟩:=by rw[a.ext _ (by simp)];simp
 have A:∀(t:List Nd) (r j:Nat),(gE t r (j+1)).map (xN (Z R) g1)=(gE t r j).map g1:=by intro t r j;rw[aEh,zi];rfl
 refine⟨by simp only[eY];rw[Nat.zero_add];exact a.full,by rw[I,a.rest,zh,List.drop_succ_cons],rfl,by rw[aPr];omega,λd o=>?_,?_,?_,?_,?_,?_,λL=>(a.once (L.name p)).parts _ _⟩
 .rw[aA7,aS (by omega),a.ext d (by simp;omega),zn o]
 .intro c q z f l;cases c with
  |zero=>simp at f;subst f;rw[p]at l;cases l
  |succ c=>
   obtain⟨i,k,b⟩:=a.var c q (by omega) (by simpa using f) l;simp only[xN];rw[aA7];split
   .rw[k];exact⟨_,rfl,b⟩
   exact⟨i,k,b⟩
 .intro c q z f l;cases c with
  |zero=>
   simp at f;subst f;simp only[xN];rw[aA7,aT rfl,y,A,a.ps];exact⟨rfl,zu _⟩
  |succ c=>
   obtain⟨k,b⟩:=a.name c q (by omega) (by simpa using f) l;simp at b;simp only[xN];rw[aA7,aS (by omega),k,A];exact⟨rfl,by omega⟩
 .intro d c u j o z v x C E e;cases d with
  |zero=>
   cases c with
   |zero=>rfl
   |succ c=>
    have:=(a.name c j (by omega) (by simpa using x) E).2;simp[xN]at e this;omega
  |succ d=>
   cases c with
   |zero=>
    have:=(a.name d u (by omega) (by simpa using v) C).2;simp[xN]at e this;omega
   |succ c=>
    have:=a.inj d c u j (by omega) (by omega) (by simpa using v) (by simpa using x) C E e;omega
 .intro i k b;rw[aPr]at b;by_cases m:i=Z R
  .exact⟨0,by omega,m.symm⟩
  obtain⟨d,o,e⟩:=a.onto i (by simp;omega) b;exact⟨d+1,by omega,e⟩
 intro i M k b;rw[aA7]at b;by_cases m:i=Z R
 .subst m;rw[aT rfl,y]at b;simp at b;subst b;exact⟨rfl,λe=>by simp only at e;rw[p]at e;cases e⟩
 rw[aS m]at b;exact a.fresh i M (by simp;omega) b
theorem gI.inv{l:Int}{d:Nat}{c:List Rw}{f:List Nat}{g:List Nd}(m:gI l R d s c f g):∃j,mL l R d s c f g j:=by
 induction m with
 |nil R s=>
  refine⟨λ_=>0,⟨bDf _,by simp,rfl,zu _,λ_ _=>rfl,?_,?_,?_,λt o p=>by omega,λt u o p=>?_,id⟩⟩;all_goals grind[List.getElem?_eq_none,nU,xN,aM,uD,setParts,oD,gE,aK,bI]
 |@old R n i d s c f g a b _ ih=>
  obtain⟨j,k⟩:=ih;rw[zh];exact⟨_,(mL.old a b).append k⟩
 |@new R n d s c f g a b _ ih=>
  obtain⟨j,k⟩:=ih;rw[zh];exact⟨_,(mL.new a b).append k⟩
 |@name R n d s R1 qs s1 c f g a _ _ ih1 ih2=>
  obtain⟨g1,q⟩:=ih1;obtain⟨g2,r⟩:=ih2;rw[zh];exact⟨_,(mL.name1 a q).append r⟩
def dn(a:Tb)(D:List Bool)(b:Nat):Bool:=match a[b]? with|some p=>D.getD p.1.cls false|none=>false
theorem aC8(a:Tb)(D:List Bool)(b:Nat)(c:b<Z a):dn a D b=D.getD a[b].1.cls false:=by simp[dn,c]
def vZ(a:Tb)(D:List Bool):Prop:=∀b,b<Z a->dn a D b=U->bZ (bJ a) (bQ a) b
def aF3(a:Tb)(D:List Bool)(c:Nat):Prop:=dn a D c=U\/∃b,∃f:b<Z a,bQ a c b/\aK a[b].1.node=zx/\∃d∈a[b].1.parts,dn a D d=zx
def xO(a:Tb):Prop:=∀b c,bQ a b c->(bJ a).named b->(bJ a).named c->aU (bQ a) ((bJ a).ch b) ((bJ a).ch c)
theorem aU.mem_right{f a:Type}{R:f->a->Prop}{c:List f}{d:List a}(i:aU R c d){b:a}(j:b∈d):∃g∈c,R g b:=by
 induction i with
 |nil=>simp at j
 |cons h1 _ ih=>
  grind
theorem aRo{a:Tb}(i:xO a):gL (bJ a) (bQ a):=by
 refine⟨bQ.refl a,λ_ _=>bQ.symm,λ_ _ _=>bQ.trans,λf g n p q c b d k o=>?_⟩;have j:=i f g c b d;clear c b d;generalize (bJ a).ch f=l at *;generalize (bJ a).ch g=m at *;induction j generalizing n with
 |nil=>simp at k
 |cons h1 _ ih=>
  grind
theorem aF4{a:Tb}{b:Nat}(c:b<Z a)(d:aK a[b].1.node=zx):(bJ a).named b:=by show aK ((bJ a).lab b)=zx;rw[sX a b c];exact d
theorem bGg{a:Tb}(i:xO a)(z:jY a){D:List Bool}(F:vZ a D){d:Nat}(j:d<Z a){r:Int}(u:aPg a a[d].1.cls r)
  (q:∀b:Nat,r=b->∀c:b<Z a,∀o∈a[b].1.parts,dn a D o=U):bZ (bJ a) (bQ a) d:=by
 refine⟨_,λn k l o A=>?_⟩;obtain⟨m,x⟩:=vG l;rcases u with⟨_,y⟩|⟨b,E,c,t,G⟩
 .exact absurd ⟨((bQ.iff j m).1 k).symm,x⟩ (y n m)
 have v:bQ a d b:=(bQ.iff j c).2 t.symm;have p:=i b n (v.symm.trans k) (aF4 c G) l;obtain⟨g,f,C⟩:=p.mem_right A;rw[vH a b c]at f;exact(F g (z.parts b c g f) (q b E c g f)).same (aRo i) C
theorem vZ.set{a:Tb}(c:xO a){D:List Bool}(g:vZ a D){b:Nat}(f:b<Z a)(d:bZ (bJ a) (bQ a) b):vZ a (D.set a[b].1.cls U):=by grind[bZ.same,bQ,bQ.iff,aRo,aC8,z1,xO,vZ,dn,bJ]
theorem bGh{a:Tb}(m:jY a){D:List Bool}(j:∀b,b<Z a->aF3 a D b){b:Nat}(e:bZ (bJ a) (bQ a) b):b<Z a->dn a D b=true:=by
 induction e with
 |mk b _ ih=>
  intro k;rcases j b k with c|⟨f,d,l,n,i,g,c⟩
  .exact c
  have:=ih f l (aF4 d n) i (by rw[vH a f d];exact g) (m.parts f d i g);rw[this]at c;cases c
theorem bGi(D:List Bool)(b:Nat)(c:b<Z D)(d:D.getD b zx=zx):(D.set b U).countP (λa=>!a)<D.countP λa=>!a:=by grind
theorem aC9{c b:Nat}(d:zr w B 4 1 (sQ c b b) b (D.map za))(g:Z D=b)(a:Nat)(f:a<Z D):zb w (aQ c a)=zw (.bool (D.getD a zx)):=by rw[d.cellAt a (by omega)];simp[z1,f]
def aJ3(w:Y)(a d:Nat):List Bool:=(z0 d).map λc=>match w.cell? (aQ a c)with|some (.bool b)=>b|_=>false
theorem aRp{b c:Nat}(f:Z D=c)(d:∀a,a<Z D->cQ w b a (.bool (D.getD a zx))):aJ3 w b c=D:=by apply zm;grind[aJ3]
theorem dO.below{v:zt}{P:Tb}(a:dO w B tp v P)(k:aB w wr):dO wr B tp v P:=
 ⟨by rw[k.block tp (bA a.box),a.box],a.high,bF a.row k (zu _),λp b=>bF (a.parts p b) k (zu _)⟩
structure wA(w:Y)(g n:Nat)(D:List Bool)(wr:Y):Prop where
 len:Z D=n
 row:zr wr w.heap.size 4 1 (sQ g n n) n (D.map za)
 low:aB w wr
theorem wA.drewN{g n:Nat}(a:wA w g n D wr)(d:Nat):wA w g n D (wr.drewN d):=⟨a.len,a.row,a.low.trans ((aN ⟨d,rfl⟩).mono a.low.size)⟩
theorem wA.set{g n:Nat}(b:wA w g n D wr)(c:w.heap.size<=g)(a:Nat):wA w g n (D.set a U) (World.setCell wr (aQ g a) (.bool U)):=by have r:=(b.row.stored a (.bool U)).1;refine⟨by simp[b.len],?_,b.low.setCell (by simpa using c) _⟩;rw[List.map_set];exact r
theorem aCa:(Tryz.prog.info? 4).map (λa=>(a.zero,a.size,a.bytes))=zw (zw (.bool zx),1,1):=by kernel_rfl
theorem bGj(a:Nat):(madeCells #[.bool zx] (a*1)).toList=(zg a zx).map za:=by
 apply zm;intro c;by_cases b:c<a
 .simp[madeCells,b,Nat.mod_one]
 simp[madeCells,b]
def aAh:zt->Nat
 | .bool true=>1
 |_=>0
def xP(a:Tb)(D:List Bool)(b:List Nat):Bool:=b.all λc=>dn a D c
theorem bGk(c:Tb)(D:List Bool)(a:List Nat)(b:Nat)(d:b<Z a):xP c D (a.take (b+1))=(xP c D (a.take b) && dn c D a[b]):=by grind[xP,zp]
theorem xQ{c:zt}{a:List Nat}(g:zr w B 3 1 c (Z a) (a.map λx:Nat=>iQ x)):∃d i,c=.slice d (Z a) i/\∀b (g:b<Z a),∃f,d=zw (aQ f 0)/\cQ w f b (iQ a[b]):=by
 have j:zr w B 3 1 c (Z (a.map λx:Nat=>(x:Int))) ((a.map λx:Nat=>(x:Int)).map (Value.int .i64)):=by simpa[zi,Function.comp_def]using g
 grind[aFh]
def bGl(a:Tb)(d:zt):Prop:=∃b:Bool,d=.bool b/\(b=U↔∀c,c<Z a->bZ (bJ a) (bQ a) c)
theorem bGm(B tp:Nat)(a6:zt)(a:Tb)(w:Y)(d:dO w B tp a6 a)(h2:Z a<=1000000)(d3:jY a)(c6:xO a)(d7:∀o∈a,Z o.1.parts<=1000000):Calls zj 144 #[pQ tp] w λe h9=>∃a6,e=.returned a6/\bGl a a6/\aB w h9:=by
 obtain⟨h7,g4,g5,g6,g7⟩:=info_parts aCa;obtain⟨c4,i3,rfl,_⟩:=d.shape;have i8:=d.cell;have b0:=O d;have A:=O d3;have b8:=O c6;have e9:=O d7;clear d d3 c6 d7;go_enter Tryz.func144,Tryz.ntmps144;go_wp2_with(first
  |(at_make;refine wpList_make_full _ rfl _ _ 143 rfl w.heap.size 4 h7 (.bool false) 1 Tryz.underlying143 g4 g5 g6 .i64 .i64 _ _ (Z a) rfl rfl rfl rfl ?m1 ?m2 ?m3 ?_)
  |go_in)
 case m1=>rw[g7];omega
 case m2=>unfold maxLen;omega
 case m3=>simp
 intro i0 b3 d0;have e4:aE (wA w w.heap.size (Z a) (zg (Z a) zx) i0):=O (by
  refine⟨by simp,?_,(dP).grown d0 (zu _) (by simp)⟩;have e:=bGj (Z a);rw[Nat.mul_one]at e;rw[e]at b3;exact b3)
 clear b3 d0;have f0:aE (vZ a (zg (Z a) zx)):=O (by
  intro n L i;rw[aC8 _ _ _ L]at i;simp[z1,A.o.cls n L]at i)
 go_wp2;go_loopw[4] (λP wr=>∃(g:Bool) (D:List Bool),P=.bool g/\wA w w.heap.size (Z a) D wr/\vZ a D/\(g=zx->∀n,n<Z a->aF3 a D n)) (λP wr=>2*(aJ3 wr w.heap.size (Z a)).countP (λg=>!g)+aAh P);exact⟨U,_,rfl,e4.o,f0.o,by simp⟩;obtain⟨g,D,rfl,m,r,b1⟩:=hrel;cases g with
 |true=>
  have z:=O m;have a9:=O r;have H:=O (aRp m.len λb N=>aC9 m.row m.len b N);clear m r b1;rename Y=>wo
  go_wp2;go_loopw[4,5] (λP n T=>∃(g:Bool) (b:Nat) (f:List Bool),b<=Z a/\P=.bool g/\n=iQ b/\wA w w.heap.size (Z a) f T/\vZ a f/\(g=zx->f=D/\∀k,k<b->aF3 a D k)/\(g=U->(f.countP λg=>!g)<D.countP λg=>!g)/\((f.countP λg=>!g)<=D.countP λg=>!g)) (λ_ n _=>Z a-(intOf n).toNat);exact⟨zx,0,D,zo _,rfl,rfl,z.o,a9.o,λ_=>⟨rfl,λk d=>by omega⟩,by simp,zu _⟩;obtain⟨g,b,f,N,rfl,rfl,m,r,a3,a4,a5⟩:=hrel;have v:=b0.o.below m.low;have f3:=v.cell;by_cases q:b<Z a
  .have b2:(b:Int)<(Z a:Int):=by omega
   obtain⟨f2,f4,I,t⟩:=v.shape;obtain⟨f9,rfl,C,E,S,f6⟩:=t b q;simp at I;obtain⟨rfl,rfl⟩:=I;clear C E S;have g9:=A.o.cls b q;have h3:=m.len;have G:=aC9 m.row m.len a[b].1.cls (by omega);have c7:=aC8 a f b q;have b9:=λ(h1:bZ (bJ a) (bQ a) b)=>vZ.set b8.o r q h1
   have c1:=λ(e0:Int)=>bGg (r:=e0) b8.o A.o r q
   have c9:=bGi f a[b].1.cls (by omega);have b7:=O t;have e1:=O (aPh B tp _ a a[b].1.cls wr v h2);have i6:=m.row.frozenAt a[b].1.cls;have e6:=O (show ∀(d:Nat) (x:d<Z a),a[d].1.cls=a[b].1.cls->bQ a b d from λd x e=>(bQ.iff q x).2 e.symm);generalize a[b].1.cls=c at *;have p:=O m;have a0:=O r;have u:=O a3;have W:=O a4;have F:=O a5;have e2:=O c7;have c0:=O b9;have c2:=O c1;have e5:=O c9;have h0:(c:Int)<(Z a:Int):=by omega
   clear m r a3 a4 a5 c7 b9 c1 c9 v t;cases i:f.getD c zx with
   |true=>
    rw[i]at G;have e3:=O (e2.o.trans i);clear i;go_wp2;go_roundw;case rel=>
     refine⟨g,b+1,f,by omega,rfl,by go_num,p.o,a0.o,λe=>⟨(u.o e).1,λk d1=>?_⟩,W.o,F.o⟩;by_cases M:k<b
     .exact(u.o e).2 k M
     have:k=b:=by omega
     subst this;rw[<-(u.o e).1];exact Or.inl e3.o
    case measure=>simp[intOf];omega
   |false=>
    rw[i]at G;have c3:=O (e5.o i);have i2:=O i;clear i;go_wp2_with(first
     |(go_at_call 145;refine(aD e1).mono ?_)
     |go_in)
    rename Y=>T
    rintro e j9 ⟨e0,rfl,h6,f5,rfl⟩;rcases h6 with⟨rfl,d2⟩|⟨d,rfl,x,t,b6⟩
    .have a7:=O (c2.o (-1) (Or.inl ⟨rfl,d2⟩) (λd e=>by omega));clear d2;go_wp2;go_roundw;case rel=>
      have:=c3.o;have:=F.o;exact⟨U,b+1,f.set c U,by omega,rfl,by go_num,(p.o.drewN f5).set (zu _) c,c0.o a7.o,by simp,λ_=>by omega,by omega⟩
     case measure=>simp[intOf];omega
    have j1:(d:Int)<(Z a:Int):=by omega
    obtain⟨g0,J,C,E,f7,h8⟩:=b7.o d x;simp at J;subst J;clear C E h8;have c5:=b0.o.below p.o.low;have d6:=c5.parts a[d] (zq _);have j4:=e9.o a[d] (zq _);have d5:=A.o.parts d x;have c8:(∀o∈a[d].1.parts,dn a f o=U)->bZ (bJ a) (bQ a) b:=λg8=>c2.o d (Or.inr ⟨d,rfl,x,t,b6⟩) (λg3 e j2=>by
     have:d=g3:=by omega
     subst this;exact g8)
    have a7:=O c8;clear c8;have a8:=O (λ(o:Nat) (b4:o∈a[d].1.parts) (i:dn a f o=zx)=>(Or.inr ⟨d,x,e6.o d x t,b6,o,b4,i⟩:aF3 a f b));obtain⟨j7,j8,d8,d4⟩:=xQ d6;rw[d8]at f7;generalize a[d].1.parts=l at *;have e7:=O d4;have e8:=O d5;clear d6 d8 c5 d4 d5 t b6;go_wp2;go_loopw[8,9] (λc4 o i1=>∃j:Nat,j<=Z l/\o=iQ j/\c4=.bool (xP a f (l.take j))/\∃a1,i1=T.drewN a1) (λ_ o _=>Z l-(intOf o).toNat);exact⟨0,zo _,rfl,rfl,_,rfl⟩;obtain⟨j,j6,rfl,rfl,a1,rfl⟩:=hrel;by_cases d9:j<Z l
    .have h5:(j:Int)<(Z l:Int):=by omega
     obtain⟨i7,rfl,i4⟩:=e7.o j d9;have b5:=e8.o l[j] (zq _);obtain⟨g0,J,C,E,S,i5⟩:=b7.o l[j] b5;simp at J;subst J;have i9:=A.o.cls l[j] b5;have j3:=p.o.len;have f8:=aC9 p.o.row p.o.len a[l[j]].1.cls (by omega);have X:=O (bGk a f l j d9);rw[<-aC8 a f l[j] b5]at f8;generalize a[l[j]].1.cls=cq at *;generalize dn a f l[j]=dq at *;generalize l[j]=pq at *;have j5:(pq:Int)<(Z a:Int):=by omega
     have j0:(cq:Int)<(Z a:Int):=by omega
     clear C E S;cases hpd:xP a f (l.take j)with
     |true=>
      rw[hpd]at X;go_wp2;go_quiet (fail);go_wp2;exact⟨⟨j+1,by omega,by go_num,by rw[X.o];simp,by first|exact dT _ _ _|exact⟨_,rfl⟩⟩,by simp[intOf];omega⟩
     |false=>
      rw[hpd]at X;go_wp2;go_quiet (fail);go_wp2;exact⟨⟨j+1,by omega,by go_num,by rw[X.o];simp,by first|exact dT _ _ _|exact⟨_,rfl⟩⟩,by simp[intOf];omega⟩
    have h5:¬((j:Int)<(Z l:Int)):=by omega
    have h4:j=Z l:=by omega
    rw[h4,List.take_length];cases hpd:xP a f l with
    |true=>
     have y:aE (∀o∈l,dn a f o=U):=O (by simpa[xP]using hpd);clear hpd;go_wp2;go_roundw;case rel=>
      have:=c3.o;have:=F.o;exact⟨U,b+1,f.set c U,by omega,rfl,by go_num,(p.o.drewN a1).set (zu _) c,c0.o (a7.o y.o),by simp,λ_=>by omega,by omega⟩
     case measure=>simp[intOf];omega
    |false=>
     have y:aE (∃o∈l,dn a f o=zx):=O (by simpa[xP]using hpd);clear hpd;go_wp2;go_roundw;case rel=>
      refine⟨g,b+1,f,by omega,rfl,by go_num,p.o.drewN a1,a0.o,λe=>⟨(u.o e).1,λk d1=>?_⟩,W.o,F.o⟩;by_cases M:k<b
      .exact(u.o e).2 k M
      have:k=b:=by omega
      subst this;rw[<-(u.o e).1];obtain⟨o,b4,i⟩:=y.o;exact a8.o o b4 i
     case measure=>simp[intOf];omega
  have b2:¬((b:Int)<(Z a:Int)):=by omega
  have p:=O m;have a0:=O r;have u:=O a3;have W:=O a4;have F:=O a5;clear m r a3 a4 a5 v;go_wp2;go_roundw;·exact⟨g,f,rfl,p.o,a0.o,λe n L=>by rw[(u.o e).1];exact(u.o e).2 n (by omega)⟩
  .
   rw[H.o,aRp p.o.len λb N=>aC9 p.o.row p.o.len b N];have:=F.o;cases g with
   |true=>have:=W.o rfl;simp[aAh];omega
   |false=>simp[aAh];omega
 |false=>
  have z:=O m;have a9:=O r;have a8:=O (b1 rfl);have v:=b0.o.below m.low;have f3:=v.cell;clear m r b1;rename Y=>wo
  have f1:=O v;clear v;go_wp2;go_loopw[10] (λn T=>∃b:Nat,b<=Z a/\n=iQ b/\(∀k,k<b->dn a D k=U)/\T=wo) (λn _=>Z a-(intOf n).toNat);exact⟨0,zo _,rfl,λk d=>by omega,rfl⟩;obtain⟨b,N,rfl,a2,rfl⟩:=hrel;by_cases q:b<Z a
  .have b2:(b:Int)<(Z a:Int):=by omega
   obtain⟨f2,f4,I,t⟩:=f1.o.shape;obtain⟨f9,rfl,C,E,S,f6⟩:=t b q;simp at I;obtain⟨rfl,rfl⟩:=I;clear C E S;have g9:=A.o.cls b q;have h3:=z.o.len;have G:=aC9 z.o.row z.o.len a[b].1.cls (by omega);rw[<-aC8 a D b q]at G;have y:=O a2;generalize a[b].1.cls=c at *;have h0:(c:Int)<(Z a:Int):=by omega
   clear t a2;cases i:dn a D b with
   |true=>
    rw[i]at G;have H:=O i;clear i;go_wp2;go_roundw;case rel=>
     refine⟨b+1,by omega,by go_num,λk d1=>?_,by first|rfl|trivial⟩;by_cases M:k<b
     .exact y.o k M
     have:k=b:=by omega
     subst this;exact H.o
    case measure=>simp[intOf];omega
   |false=>
    rw[i]at G;have H:=O i;clear i;go_wp2;go_ret;refine⟨_,rfl,⟨_,rfl,λe=>by simp at e,λe=>?_⟩,z.o.low⟩;have:=bGh A.o a8.o (e b q) q;rw[H.o]at this;cases this
  have b2:¬((b:Int)<(Z a:Int)):=by omega
  have y:=O a2;clear a2;go_wp2;go_ret;exact⟨_,rfl,⟨_,rfl,λ_ n L=>a9.o n L (y.o n (by omega)),λ_=>rfl⟩,z.o.low⟩
structure Sh(P Q:Tb):Prop where
 len:Z Q=Z P
 row:∀i (h:i<Z P) (h':i<Z Q),Q[i].2=P[i].2/\Q[i].1.parts=P[i].1.parts/\Q[i].1.node=P[i].1.node
theorem Sh.refl(a:Tb):Sh a a:=⟨rfl,λ_ _ _=>⟨rfl,rfl,rfl⟩⟩
theorem Sh.join{f:Tb}(b:Sh f Q)(c d:Nat):Sh f (iD Q c d):=by
 refine⟨by rw[rC,b.len],λa g o=>?_⟩;have i:a<Z Q:=by rw[b.len];exact g
 rw[vF Q c d a i];obtain⟨j,k,l⟩:=aBl c d Q[a];obtain⟨m,e,n⟩:=b.row a g i;exact⟨j.trans m,k.trans e,l.trans n⟩
structure qC(w:Y)(B tp:Nat)(v:zt)(P0:Tb)(Bs:Nat->Nat->Prop)(Q:Tb)(wr:Y):Prop where
 tab:dO wr B tp v Q
 inv:vI P0 Bs Q
 sh:Sh P0 Q
 far:zl w wr (zf v)
theorem aRq{b:Y}{f:Option Nat}(a:aB w b):zl w b f:=⟨a.os,a.tape,a.output,a.size,λd c _=>a.block d c⟩
theorem qC.below{v:zt}{b:Tb}{wx:Y}(a:qC w B tp v b Bs Q wr)(k:aB wr wx):qC w B tp v b Bs Q wx:=⟨a.tab.below k,a.inv,a.sh,a.far.trans (aRq k)⟩
theorem qC.join{v:zt}{c:Tb}{f:Y}(d:qC w B tp v c Bs Q wr){a b:Nat}(g:a<Z Q)(i:b<Z Q)(j:Cl (bJ c) Bs a b)(l:dO f B tp v (iD Q Q[a].1.cls Q[b].1.cls))(k:zl wr f (zf v)):qC w B tp v c Bs (iD Q Q[a].1.cls Q[b].1.cls) f:=
 ⟨l,d.inv.join g i j,d.sh.join _ _,d.far.trans k⟩
def cN(a:Nat)(Q:Tb):Nat:=aA6 a (Q.map λb=>b.1.cls)
def rU(a:Nat)(b Q:Tb)(c:Bool)(d:Prop):Prop:=cN a Q<=cN a b/\(c=U->cN a Q<cN a b)/\(c=zx->Q=b/\d)
theorem rU.start(c:Nat)(Q:Tb){a:Prop}(b:a):rU c Q Q zx a:=⟨zu _,by simp,λ_=>⟨rfl,b⟩⟩
theorem rU.imp{g:Nat}{b:Tb}{f:Bool}{c d:Prop}(a:rU g b Q f c)(i:Q=b->c->d):rU g b Q f d:=⟨a.1,a.2.1,λe=>⟨(a.2.2 e).1,i (a.2.2 e).1 (a.2.2 e).2⟩⟩
theorem rU.join{b:Nat}{a:Tb}{d:Bool}{c F':Prop}(f:rU b a Q d c)(p:jY Q)(o:Z Q=b){u v:Nat}(i:u<Z Q)(j:v<Z Q)(q:Q=a->c->bQ Q u v->F'):rU b a (iD Q Q[u].1.cls Q[v].1.cls) (d || decide (Q[u].1.cls≠Q[v].1.cls)) F':=by
 by_cases e:Q[u].1.cls=Q[v].1.cls
 .have k:iD Q Q[u].1.cls Q[v].1.cls=Q:=by rw[e,aPi]
  rw[k];simp only[e,ne_eq,not_true_eq_false,decide_false,Bool.or_false];exact f.imp λg l=>q g l ((bQ.iff i j).2 e)
 have n:=bDe p i j e;rw[o]at n;have g:=f.1;refine⟨?_,λ_=>?_,λm=>?_⟩
 .unfold cN at *;omega
 .unfold cN at *;omega
 simp[e]at m
def aJ4(w:Y)(a c:Nat):List Nat:=(z0 c).map λb=>match w.cell? (aQ a (b*4+3))with|some (.int _ x)=>x.toNat|_=>0
theorem aRr{b a c:Nat}(d:dO w B tp (sQ b a c) Q)(k:Z Q=a):aJ4 w b a=Q.map λf=>f.1.cls:=by obtain⟨g,i,e,j⟩:=d.shape;simp at e;obtain⟨rfl,_⟩:=e;apply zm;grind[aJ4]
structure bGn(P:Tb)(B tp:Nat)(v:zt)(Bs:Nat->Nat->Prop)(r:zt)(w':Y):Prop where
 yes:∃b:Bool,r=.bool b/\(b=U↔fU (bJ P) (Cl (bJ P) Bs)/\∀i,i<Z P->bZ (bJ P) (Cl (bJ P) Bs) i)/\
  (b=U->∃Q,dO w' B tp v Q/\Sh P Q/\bJ Q=bJ P/\jY Q/\∀i j,bQ Q i j↔Cl (bJ P) Bs i j)
theorem bZ.iff{d:Gr}{R c:Nat->Nat->Prop}(f:∀a b,R a b↔c a b){a:Nat}:bZ d R a↔bZ d c a:=by
 have e:R=c:=by funext a b;exact propext (f a b)
 rw[e]
theorem qC.closed{j:zt}{c:Tb}(b:qC w B tp j c Bs Q wr)(i:∀a f,f<a->a<Z Q->mK Q a f):xO Q:=by
 obtain⟨g,k⟩:=b.inv.done i;intro a d n m o;have l:=b.inv.ok.arity;rw[b.inv.gr]at *;have e:bQ Q=Cl (bJ c) Bs:=by funext a d;exact propext (g a d)
 grind[Cl.isDown,aA8]
def kH(c:Int->Int->Prop)(a b:Lt):Prop:=a.1=b.1/\aU (gK c) a.2 b.2
section
variable {V:Int->Int->Prop}
theorem aRs{a:Nd}(c:aK a=U):a.1=⟨#[]⟩:=by
 obtain⟨s,f⟩:=a;obtain⟨b⟩:=s;have d:(⟨b⟩:ByteArray).toList=[]:=by simpa[aK]using c
 rw[ByteArray.toList_eq]at d;grind[Array.ext',aK]
theorem bGo(i:lW V){c a d b:Nd}(f:gK V c a)(g:gK V d b):c=d↔a=b:=by grind[aRs,gK,lW,aK]
theorem bGp(l:lW V){g i:List Nd}(j:aU (gK V) g i):∀{c d:List Nd},aU (gK V) c d->(g=c↔i=d):=by
 induction j with
 |nil=>
  intro c d f;cases f with
  |nil=>simp
  |cons _ _=>simp
 |cons a _ ih=>
  intro c d f;cases f with
  |nil=>simp
  |cons b k=>
   grind[bGo,List.cons.injEq]
theorem bGq(i:lW V){a c b d:Lt}(f:kH V a c)(g:kH V b d):a=b↔c=d:=by grind[bGp,Prod.ext,kH,gK,lW]
theorem bGr(i:lW V){b c:List Lt}(g:aU (kH V) b c){d f:Lt}(j:kH V d f):fE b d=fE c f:=by
 induction g with
 |nil=>rfl
 |cons a _ ih=>
  grind[bGq,fE]
theorem bGs(j:lW V){b c:List Lt}(g:aU (kH V) b c):aU (kH V) (eG b) (eG c):=by
 suffices ∀{b c:List Lt},aU (kH V) b c->∀{d f:List Lt},aU (kH V) d f->aU (kH V) (b.foldl jH d) (c.foldl jH f) from this g aU.nil
 intro b c g;induction g with
 |nil=>intro d f i;exact i
 |cons a _ ih=>
  grind[aU.snoc,jH,bGr]
theorem bGt(j:lW V){b c:List Lt}(g:aU (kH V) b c):(dY b).1=(dY c).1:=by
 suffices ∀{b c:List Lt},aU (kH V) b c->∀{d f:List Lt×List Int},d.1=f.1->aU V d.2 f.2->(b.foldl iZ d).1=(c.foldl iZ f).1 from this g rfl aU.nil
 intro b c g;induction g with
 |nil=>intro d f i _;exact i
 |cons a _ ih=>
  grind[iZ,bDt,kH,gK,lW,dY,eF]
theorem aF5(c:lW V){a b:List Lt}(d:aU (kH V) a b):bB a=bB b:=bGt c (bGs c d)
end
theorem bGu(d k:Bool)(c g:Option Addr)(i l j:Nat)(b f:List Nd)(w:Y)(m:dI w c b)(n:dI w g f)(t:cQ w j 0 (.bool k))(g1:cQ w j 1 (.slice g (Z f) l)):Calls zj 131 #[.agg #[.bool d,.slice c (Z b) i],pQ j] w λe u=>e=.returned (.bool (qI (d,b) (k,f)))/\aB w u:=by
 have a:aB w (w.alloc (.cells #[.bool d,.slice c (Z b) i] 55)):=aI _ _;have p:=O (aN3 d k c g i l b f _ (m.below a (zu _)) (n.below a (zu _)));have v:=aC a t;have x:=aC a g1;have q:=O a;clear a m n;go_enter Tryz.func131,Tryz.ntmps131;go_wp2_with(go_at_call 125;refine(aD p).mono ?_;rintro e y ⟨rfl,o⟩;have r:=O (q.o.trans (o.mono (by simp)));clear o);go_ret;exact⟨rfl,r.o⟩
theorem bGv(A q:Option Addr)(a1 C l:Nat)(b:List (Lt×zt))(f:Bool)(d:List Nd)(w:Y)(b0:Z b<=4398046511104)
  (H:∀a (a9:a<Z b),∃m,A=zw (aQ m 0)/\cQ w m (a*2) (.bool b[a].1.1)/\cQ w m (a*2+1) b[a].2)
  (F:∀N∈b,fN w N.2 N.1.2) (E:dI w q d) (a2:cQ w l 0 (.bool f)) (g1:cQ w l 1 (.slice q (Z d) C)):Calls zj 150 #[.slice A (Z b) a1,.func (Fn.func 131) #[] #[pQ l]] w λe a5=>∃P:Int,e=.returned (iQ P)/\decide (0<=P)=fE (b.map zs) (f,d)/\aB w a5:=by
 have a0:=O H;have X:=O F;have W:=O E;clear H F E;go_enter Tryz.func150,Tryz.ntmps150;go_wp2;go_loopw[8] (λv wr=>∃a:Nat,a<=Z b/\v=iQ a/\fE ((b.map zs).take a) (f,d)=zx/\aB w wr) (λv _=>Z b-(intOf v).toNat);exact⟨0,zo _,rfl,rfl,dP⟩;obtain⟨a,b1,rfl,L,c⟩:=hrel;have p:=O L;clear L;by_cases J:a<Z b
 .obtain⟨m,rfl,r,k⟩:=a0.o a J;obtain⟨a3,a4,M,u⟩:=X.o b[a] (zq _);rw[M]at k;have n:=aN4 b (f,d) a J;rw[p.o,zk]at n;have t:=aN5 b (f,d) (a+1);rw[n]at t;generalize b[a].1=x at *;obtain⟨S,T⟩:=x;simp only at r k u;have a7:=aC c r;have a8:=aC c k;have i:=O (bGu S f a3 q a4 C l T d wr (u.below c (zu _)) (W.o.below c (zu _)) (aC c a2) (aC c g1));have y:=O n;have z:=O t;have j:=O c;have G:=c.size;clear n t c M u r k;cases hl:qI (S,T) (f,d)
  .rw[hl]at i y;clear hl;go_wp2_with(go_at_call 131;refine(aD i).mono ?_;rintro e a6 ⟨rfl,g⟩;have o:=O (j.o.trans (g.mono G));clear g);exact⟨⟨a+1,by omega,by go_num,y.o,o.o⟩,by simp[intOf];omega⟩
  rw[hl]at i z;clear hl;go_wp2_with(go_at_call 131;refine(aD i).mono ?_;rintro e a6 ⟨rfl,g⟩;have o:=O (j.o.trans (g.mono G));clear g);go_ret;exact⟨_,rfl,by rw[z.o (by first|rfl|trivial)];simp,o.o⟩
 have I:(b.map zs).take a=b.map zs:=List.take_of_length_le (by simp;omega);rw[I]at p;have j:=O c;clear I c;go_wp2;go_ret;exact⟨_,rfl,by rw[p.o];rfl,j.o⟩
theorem bGw(d f:Option Addr)(l j b:Nat)(a:List (Lt×zt))(i:Bool)(c:List Nd)(w:Y)(y:Z a<=4398046511104)
  (q:∀k (A:k<Z a),∃g,d=zw (aQ g 0)/\cQ w g (k*2) (.bool a[k].1.1)/\cQ w g (k*2+1) a[k].2)
  (o:∀t∈a,fN w t.2 t.1.2) (n:dI w f c) (m:cQ w b 0 (.bool i)) (g1:cQ w b 1 (.slice f (Z c) j)):Calls zj 126 #[.slice d (Z a) l,.func (Fn.func 131) #[] #[pQ b]] w λe z=>e=.returned (.bool (fE (a.map zs) (i,c)))/\aB w z:=by
 have u:=O (bGv d f l j b a i c w y q o n m g1);clear q o n m g1;go_enter Tryz.func126,Tryz.ntmps126;go_wp2_with(go_at_call 150;refine(aD u).mono ?_;rintro e E ⟨C,rfl,r,p⟩;have x:=O r;have v:=O p;clear r p);go_ret;exact⟨eB x.o,v.o⟩
def uE(a:List Lt)(c:Nat):Bool:=(z0 c).any λb=>fE (a.take b) (!(a.getD b default).1,(a.getD b default).2)
def dU(c:List Lt):Bool:=uE c (Z c)
theorem aRt(a:List Lt)(b:Nat)(c:b<Z a):uE a (b+1)=(uE a b || fE (a.take b) (!a[b].1,a[b].2)):=by grind[uE,List.range_succ]
theorem aRu(a:List Lt){k:Nat}(c:k<=Z a)(b:uE a k=U):dU a=true:=by grind[dU,uE,zc,zd]
theorem aJ5(I:Option Addr)(p:Nat)(b:List (Lt×zt))(w:Y)(b2:Z b<=100000)(b1:Z b<=p)
  (L:∀a (b0:a<Z b),∃m,I=zw (aQ m 0)/\cQ w m (a*2) (.bool b[a].1.1)/\cQ w m (a*2+1) b[a].2)
  (J:∀r∈b,fN w r.2 r.1.2):Calls zj 99 #[.slice I (Z b) p] w λe a6=>e=.returned (.bool (dU (b.map zs)))/\aB w a6:=by
 have F:=O L;have E:=O J;clear L J;go_enter Tryz.func99,Tryz.ntmps99;go_wp2;go_loopw[8] (λC wr=>∃a:Nat,a<=Z b/\C=iQ a/\uE (b.map zs) a=zx/\aB w wr) (λC _=>Z b-(intOf C).toNat);exact⟨0,zo _,rfl,rfl,dP⟩;obtain⟨a,b4,rfl,o,i⟩:=hrel;have H:=O o;clear o;by_cases M:a<Z b
 .obtain⟨m,rfl,u,q⟩:=F.o a M;obtain⟨c,d,N,y⟩:=E.o b[a] (zq _);rw[N]at q;have z:=aRt (b.map zs) a (by simpa using M);rw[H.o,zk]at z;have A:uE (b.map zs) (a+1)=fE ((b.map zs).take a) (!b[a].1.1,b[a].1.2):=by simpa using z
  generalize b[a].1=x at *;obtain⟨f,g⟩:=x;simp only at u q y A;have a8:=aC i u;have a9:=aC i q;have a1:=i.size;have b6:(a:Int)<(Z b:Int):=by omega
  have b5:(a:Int)<=(p:Int):=by omega
  have k:aB w ((wr.alloc (.cells #[.bool f,.slice c (Z g) d] 55)).alloc (.cells #[.bool !f,.slice c (Z g) d] 55)):=(i.alloc a1 _).alloc (by simp;omega) _;have v:((wr.alloc (.cells #[.bool f,.slice c (Z g) d] 55)).alloc (.cells #[.bool !f,.slice c (Z g) d] 55)).heap[wr.heap.size+1]?=zw (.cells #[.bool !f,.slice c (Z g) d] 55):=by have:=World.alloc_heap_new (wr.alloc (.cells #[.bool f,.slice c (Z g) d] 55)) (.cells #[.bool !f,.slice c (Z g) d] 55);rwa[World.size_alloc]at this
  have P:Z (b.take a)=a:=by simp;omega
  have l:=O (bGw (zw (aQ m 0)) c p d (wr.heap.size+1) (b.take a) (!f) g ((wr.alloc (.cells #[.bool f,.slice c (Z g) d] 55)).alloc (.cells #[.bool !f,.slice c (Z g) d] 55)) (by omega)
   (λa5 b3=>by
    obtain⟨g2,W,X,a0⟩:=F.o a5 (by omega);rw[List.getElem_take];exact⟨g2,W,aC k X,aC k a0⟩)
   (λr a4=>(E.o r (List.mem_of_mem_take a4)).below k (zu _)) (y.below k (zu _)) (aOg v).1 (aOg v).2)
  rw[P,List.map_take,<-A]at l;have j:=O k;have G:=O (aRu (b.map zs) (k:=a+1) (by simp;omega));clear z A k v P u q y N i;cases hi:uE (b.map zs) (a+1)
  .rw[hi]at l;have S:=O hi;clear hi;go_wp2_with(first
    |(go_at_call 126;refine(aD l).mono ?_;rintro e a7 ⟨rfl,n⟩;have t:=O (j.o.trans (n.mono (by have:=j.o.size;simpa using this)));clear n)
    |go_in)
   exact⟨⟨a+1,by omega,by go_num,S.o,t.o⟩,by simp[intOf];omega⟩
  have T:=O (G.o hi);rw[hi]at l;clear hi G;go_wp2_with(first
   |(go_at_call 126;refine(aD l).mono ?_;rintro e a7 ⟨rfl,n⟩;have t:=O (j.o.trans (n.mono (by have:=j.o.size;simpa using this)));clear n)
   |go_in)
  go_ret;exact⟨by rw[T.o];rfl,t.o⟩
 have a3:a=Z (b.map zs):=by simp;omega
 have j:=O i;clear i;go_wp2;go_ret;have a2:dU (b.map zs)=false:=by have o:=H.o;rw[a3]at o;exact o
 exact⟨by rw[a2];rfl,j.o⟩
theorem bGx(a:List Lt)(c:Lt)(b:Nat)(d:b<Z a):fE (a.take (b+1)) c=(fE (a.take b) c || decide (a[b]=c)):=by rw[zp d,aFj]
theorem bGy(a:List Lt)(c:Lt){b k:Nat}(d:b<=k)(f:fE (a.take b) c=U):fE (a.take k) c=true:=by rw[aAu]at *;exact(List.take_subset_take_left a d) f
theorem aRv(z:Option Addr)(M:Nat)(a:List Lt)(w:Y)(p:bU w z a):Calls zj 21 #[.slice z (Z a) M] w λe X=>e=.returned (.bool (dU a))/\∃l,X=w.drewN l:=by
 have a0:=p.few;go_enter Tryz.func21,Tryz.ntmps21;go_wp2;go_loopw[3] (λg wr=>∃b:Nat,b<=Z a/\g=iQ b/\(∃l,wr=w.drewN l)/\uE a b=zx) (λg _=>Z a-(intOf g).toNat);exact⟨0,zo _,rfl,⟨0,rfl⟩,rfl⟩;obtain⟨b,a8,rfl,d,f⟩:=hrel;have x:=O f;clear f;by_cases E:b<Z a
 .have a9:(b:Int)<(Z a:Int):=by omega
  have u:=aRt a b E;rw[x.o,zk]at u;have y:=O u;clear u;go_wp2;go_loopw[4] (λg wr=>∃c:Nat,c<=b/\g=iQ c/\(∃l,wr=w.drewN l)/\fE (a.take c) (!a[b].1,a[b].2)=zx) (λg _=>b-(intOf g).toNat);exact⟨0,zo _,rfl,d,rfl⟩;clear d;obtain⟨c,a4,rfl,d,f⟩:=hrel;by_cases a7:c<b
  .have a5:(c:Int)<(b:Int):=by omega
   have a6:(c:Int)<(Z a:Int):=by omega
   have C:c<Z a:=by omega
   have q:=p.drawn d;obtain⟨b2,b0,J,N,rfl,A,a2,g1⟩:=q.cell b E;obtain⟨b3,b1,L,P,W,a1,a3,g2⟩:=q.cell c C;cases W;have i:=λv=>aAr J L N P a[b].2 a[c].2 (wr.drewN v) (g1.drewN v) (g2.drewN v)
   have t:=bGx a (!a[b].1,a[b].2) c C;rw[f,zk]at t;have I:=O (bGy a (!a[b].1,a[b].2) (show c+1<=b by omega));have F:=O (aRu a (k:=b+1) (by omega));have n:=O d;have o:=O t;clear p q g1 g2 f d t;by_cases j:a[b].2=a[c].2
   .rw[fL j]at i;have m:=O i;have H:=O j;clear i j;go_wp2;go_quiet ((go_at_call 24;exact Calls.quiet_of (aD m _)));go_wp2;go_quiet (fail);go_wp2
    .go_ret;refine⟨?_,iK n.o (by first|exact dT _ _ _|exact⟨_,rfl⟩)⟩;have r:(!a[b].1==a[c].1)=true:=by assumption
     have k:fE (a.take (c+1)) (!a[b].1,a[b].2)=true:=by rw[o.o,fL];exact Prod.ext (by revert r;cases a[b].1<;>cases a[c].1<;>simp) H.o.symm
     exact eB (F.o (by rw[y.o];exact I.o k)).symm
    have r:(!a[b].1==a[c].1)=false:=by assumption
    have k:fE (a.take (c+1)) (!a[b].1,a[b].2)=false:=by rw[o.o,gG];intro e;have A:=congrArg zs e;revert r A;cases a[b].1<;>cases a[c].1<;>simp
    exact⟨⟨c+1,by omega,by go_num,iK n.o (by first|exact dT _ _ _|exact⟨_,rfl⟩),k⟩,by simp[intOf];omega⟩
   rw[gG j]at i;have m:=O i;have k:fE (a.take (c+1)) (!a[b].1,a[b].2)=false:=by
    rw[o.o,gG];intro e;exact j (congrArg Prod.snd e).symm
   clear i j;go_wp2;go_quiet ((go_at_call 24;exact Calls.quiet_of (aD m _)));go_wp2;go_quiet (fail);go_wp2;exact⟨⟨c+1,by omega,by go_num,iK n.o (by first|exact dT _ _ _|exact⟨_,rfl⟩),k⟩,by simp[intOf];omega⟩
  have S:c=b:=by omega
  subst S;have G:=O f;clear f;go_wp2;exact⟨⟨c+1,by omega,by go_num,d,by rw[y.o];exact G.o⟩,by simp[intOf];omega⟩
 have T:b=Z a:=by omega
 subst T;go_wp2;go_ret;exact⟨eB x.o.symm,d⟩
theorem aRw:(Tryz.prog.info? 209).map (λa=>(a.zero,a.size,a.bytes))=zw (zw (.agg #[iQ 0,nQ]),2,32):=by kernel_rfl
abbrev Bn:=(Int×List Nd)×zt
def lI(P:List Bn):List zt:=P.flatMap λa=>[iQ a.1.1,a.2]
theorem bGz(a:List Bn):Z (lI a)=Z a*2:=by
 induction a with
 |nil=>rfl
 |cons x r ih=>simp[lI]at ih ⊢;omega
theorem bH0(b:List Bn)(a:Bn):lI (b++[a])=lI b++[iQ a.1.1,a.2]:=by simp[lI]
theorem aRx(a:List Bn):∀b (c:b<Z a),(lI a)[b*2]?=zw (iQ a[b].1.1)/\(lI a)[b*2+1]?=zw a[b].2:=by
 induction a with
 |nil=>intro b c;simp at c
 |cons x r ih=>
  grind[lI,List.getElem?_cons_succ]
theorem bH1(w:Y)(c:List Bn)(f:∀b∈c,fN w b.2 b.1.2):∀d∈lI c,d.oneCell'=true:=by
 intro d a;simp only[lI,List.mem_flatMap]at a;obtain⟨b,g,a⟩:=a;obtain⟨i,j,e,_⟩:=f b g;simp at a;rcases a with rfl|rfl
 .rfl
 rw[e];rfl
theorem aJ6{k:zt}{a:List Bn}(i:zr w B 209 2 k (Z a) (lI a)):∃g d,k=.slice g (Z a) d/\∀b (i:b<Z a),∃c,g=zw (aQ c 0)/\zb w (aQ c (b*2))=zw (iQ a[b].1.1)/\zb w (aQ c (b*2+1))=zw a[b].2:=by
 obtain⟨m,⟨rfl,n⟩|⟨c,d,l,rfl,o,q,p,r,u,t⟩⟩:=i
 .exact⟨none,0,by rw[n],λb f=>by omega⟩
 have j:zr w B 209 2 (sQ c (Z a) d) (Z a) (lI a):=⟨m,Or.inr ⟨c,d,l,rfl,o,q,p,r,u,t⟩⟩;refine⟨_,_,rfl,λb f=>⟨c,rfl,?_,?_⟩⟩
 .rw[j.cellAt (b*2) (by omega),(aRx a b f).1]
 rw[j.cellAt (b*2+1) (by omega),(aRx a b f).2]
def nH(w:Y)(d:zt)(c:bK):Prop:=∃a:List Bn,a.map zs=c/\(∀b∈a,fN w b.2 b.1.2)/\zr w 0 209 2 d (Z a) (lI a)
theorem nH.nil(w:Y):nH w (nQ) []:=⟨[],rfl,by simp,World.ownsRow_nil _ _ _ _⟩
theorem fN.below'{c:Y}{b:zt}{a:List Nd}(d:fN w b a)(f:aB w c):fN c b a:=by grind[dI.below,fN]
theorem nH.below{w1:Y}{v:zt}{a:bK}(b:nH w v a)(k:aB w w1):nH w1 v a:=by grind[fN.below',bF,fN,nH,lI]
def rV(w wr:Y)(b:zt)(P:List Bn):Prop:=(∀a∈P,fN w a.2 a.1.2)/\zr wr w.heap.size 209 2 b (Z P) (lI P)/\aB w wr
theorem rV.below{wx:Y}{v:zt}{P:List Bn}(a:rV w wr v P)(k:aB wr wx):rV w wx v P:=
 ⟨a.1,bF a.2.1 k (zu _),a.2.2.trans (k.mono a.2.2.size)⟩
theorem rV.more{g c:Y}{d f b:zt}{P:List Bn}{x:Int×List Nd}(a:rV w g d P)(m:fN w b x.2)(j:zr c w.heap.size 209 2 f (Z P+1) (lI P++[iQ x.1,b]))(i:zl g c (zf d)):rV w c f (P++[(x,b)]):=by refine⟨λp l=>?_,by rw[bH0,List.length_append];exact j,a.2.2.grown i a.2.2.size λk e=>(bS a.2.1 k e).1⟩;grind[fN,rV,lI]
theorem rV.bds{c:zt}{a:List Bn}(b:rV w wr c a):nH wr c (a.map zs):=
 ⟨a,rfl,λf d=>(b.1 f d).below' b.2.2,fM b.2.1 (zo _)⟩
def yR(c:Int)(a:List Bn):Bool:=a.any λb=>decide (b.1.1=c)
theorem aRy(c:Int)(a:List Bn)(b:Nat)(d:b<Z a):yR c (a.take (b+1))=(yR c (a.take b) || decide (a[b].1.1=c)):=by grind[yR,zp]
theorem bH2{c:Int}{a:List Bn}(d:look (a.map zs) c=none):∀b (f:b<Z a),¬a[b].1.1=c:=by grind[aHj,zq,zi,look]
theorem bH3{c:Int}{f:List Nd}{a:List Bn}(g:gQ (a.map zs))(d:look (a.map zs) c=zw f):yR c a=U/\∀b (i:b<Z a),a[b].1.1=c->a[b].1.2=f:=by
 constructor
 .have:=aA1 d;obtain⟨l,k,e⟩:=List.mem_map.1 this;rw[yR,zc];exact⟨l,k,by rw[e];simp⟩
 intro b i e;have j:(c,a[b].1.2)∈a.map zs:=List.mem_map.2 ⟨a[b],zq _,by rw[<-e]⟩;have:=bBn g j;rw[d]at this;simpa using this.symm
