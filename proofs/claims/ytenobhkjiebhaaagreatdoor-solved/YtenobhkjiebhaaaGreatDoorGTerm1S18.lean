import Derived.Test.YtenobhkjiebhaaaGreatDoorGTokS18
open Bool renaming false->zg,true->zd
open List renaming length->Z,mem_cons_of_mem->zs,mem_cons_self->zq,setIfInBounds_toArray->zp,set_cons_zero->zm,set_cons_succ->zl,length_append->zf,drop_eq_getElem_cons->zc,filterMap_cons->zb,drop_eq_nil_of_le->z6,set_append_right->z7,map_singleton->yx,append_assoc->yt,map_toArray->ys
open Nat renaming le_refl->zr,le_trans->ze,zero_le->z2,lt_of_lt_of_le->yy,lt_of_le_of_lt->yw
open Option renaming some->U,none->z9
open Or renaming inr->zj,inl->zi
open Prod renaming fst->z8
namespace Go.Proofs.YtenobhkjiebhaaaGreatDoor
open Act renaming put->z4
open Go renaming Value->Y,World->zu
open _root_.Go.Proofs.Tryz renaming prog->zo,underlying50->zh,underlying36->z3,ntmps148->yz,func148->yv,underlying24->yu
open Value renaming ownBlock->zv
open World renaming ownsRow->zw,setCell->zt,cell?->zn,grownBy->zk,frozen?->za,ownsRow_nil->z5
open Go.RowKit Go.WideMaps Go.Shelf
set_option maxHeartbeats 4000000
set_option maxRecDepth 100000
variable{s:ByteArray}{H:List Nat}{T:List Tk}{B g k mg pb:Nat}{X:Obj}{st:bC}{w w':zu}{vC vP vl:Y}
def uQ(B a pb:Nat)(w:zu)(s:ByteArray)(T:List Tk)(g:Nat)(vC:Y)(mg:Nat)(i:Except Nat (bC×List Nd))(b:Ending)(w':zu):Prop:=
 dF B a mg w w'/\
  match i with
  | .ok (s1,l1)=>∃vl vP,b=.returned (.tuple #[vl,.bool true])/\dK B w' pb s T s1 g vC vP mg/\zw w' a 52 2 vl (Z l1) (aV l1)
  | .error p=>∃d f e c vP j,b=.returned (.tuple #[.slice d f e,.bool false])/\fA B w' pb s T c g vC vP j/\(aH T c).pos=p
def aLv(B pb:Nat)(s:ByteArray)(T:List Tk)(g:Nat)(vC:Y)(mg d:Nat):Prop:=
 ∀(a:Nat) (c:Bool) (st:bC) (vP vl:Y) (b:List Nd) (w:zu),dK B w pb s T st g vC vP mg->zw w a 52 2 vl (Z b) (aV b)->B<=a->a<=w.heap.size->(c=zd->(aH T st.i).kind≠118)->Z T<st.i+d->Z b<=st.i->Z st.pz<=st.i->Z st.vars<=st.i->
  Calls zo 148 #[pQ pb,vl] w λe w'=>uQ B a pb w s T g vC mg (dB T d c st b) e w'
section
variable {B B' pb:Nat}{s:ByteArray}{T:List Tk}{g:Nat}{vC vP vl:Y}{mg:Nat}{st:bC}{l:List Nd}{w:zu}
theorem aW6{w1 c a:zu}{m:DataW Unit}{i:List ByteArray}{q:Y}{j:Int}{d:bC}(e:dK B w1 pb s T d g vC vP mg)(o:zw w1 B' 52 2 vl (Z l) (aV l))(t:B<=B')(v:dF B B' mg w w1)
  (f:zk w1 c (U mg)) (x:c.ownsMap zo 9 pO mg (Z i) m) (u:sW m i) (y:zw a B' 52 2 q (Z l+1) (aV l++[.string ⟨#[]⟩,.int .i64 j])) (n:zk (c.alloc X) a (zv vl)):dK B a pb s T ⟨d.i,i,d.pz⟩ g vC vP mg/\zw a B' 52 2 q (Z (l++[((⟨#[]⟩:ByteArray),j)])) (aV (l++[((⟨#[]⟩:ByteArray),j)]))/\dF B B' mg w a:=by
 obtain⟨A,z,_⟩:=e.map;have r:=e.var f x u;have p:=o.kept f (zj (wO o z));have b:=aI c X;refine⟨(r.below b).far (bF p b (zr _)) (by decide) n,by rw[sA,zf];exact y,?_⟩;exact((v.grownMap e.mhigh f).trans (.of_below b)).grownRow (bF p b (zr _)) t (zj ⟨rfl,zr _⟩) n
theorem aW7(I:Bool)(M:Nat)(N:∀D,(aH T D).kind∈jU)(a5:∀D,(aH T D).txt.size<=1000000)(b8:s.size<=3000)(c7:Z T<=1000000)(d:dK B w pb s T st g vC vP mg)(z:zw w B' 52 2 vl (Z l) (aV l))(b5:B<=B')(c2:B'<=w.heap.size)(o:(aH T st.i).kind=118)(b7:I=zg)(c8:Z l<=st.i)(d0:Z st.vars<=st.i):Calls zo 148 #[pQ pb,vl] w λx w'=>uQ B B' pb w s T g vC mg (dB T (M+1) I st l) x w':=by
 subst b7;have c9:=d.pp.lt;obtain⟨d2,c3,c4,c5,c6⟩:=info_parts kK;obtain⟨left,b,_⟩:=d.pp.box;obtain⟨d3,d4,rfl⟩:=aZ z;rw[o,show fF 118=65 from rfl]at b;have b4:=b.c1;have J:=b.c2;have L:=b.c3;have i:=O (λc0=>oQ 118 (by decide) (by decide) (by decide) N b8 (d.pp.below (aI w c0)));rw[o,show fF 118=65 from rfl]at i;simp only[if_true,decide_true]at i;have F:aE (dB T (M+1) zg st l=.ok (⟨st.i+1,mX st.vars (aH T st.i).txt,st.pz⟩,l++[(⟨#[]⟩,lU st.vars (aH T st.i).txt)])):=O (by rw[dB,aT ⟨o,rfl⟩]);obtain⟨c,a4⟩:∃c,(aH T st.i).txt=c:=⟨_,rfl⟩;obtain⟨p,a3⟩:∃p,(aH T st.i).pos=p:=⟨_,rfl⟩;have a6:=a5 st.i;rw[a4]at L F a6;rw[a3]at J;have j:=O d;have r:=O z;clear d z b o a5 N a4 a3;go_enter yv,yz;go_upto_region 3 with(first
  |(go_at_call 87;refine(aD i _).mono ?_;rintro x a ⟨rfl,m,a0⟩;have a2:=(j.o.below (aI w _)).take m a0;have f:=m.block w.heap.size (by simp) (by obtain⟨left,b,_⟩:=j.o.pp.box;have:=b.lt;simp;omega);have v:=O a2;have G:=O f;have q:=O m;clear m a0 a2 f)
  |go_in)
 have f:a.heap[w.heap.size]?=U (.cells #[.int .i32 65,iQ p,.string c] 67):=G.o.trans (by show (w.heap.push _)[w.heap.size]?=_;simp);have d8:zn a (aQ w.heap.size 2)=U (.string c):=by unfold zn;rw[f];rfl
 obtain⟨d5,P,_⟩:=v.o.pp.box;have d7:=P.c6;have e:=aI w (.cells #[.int .i32 65,iQ p,.string c] 67);obtain⟨d6,y,b6⟩:=(j.o.below e).pp.box;have E:aE (dF B B' mg w a):=O ((dF.of_below e).grownBox y b6 q.o);have t:=O ((bF r.o e (zr _)).kept q.o (y.apart (bF r.o e (zr _)) (by decide)));obtain⟨a8,A,S⟩:=v.o.map;have a7:=O (bD5 mg a8 st.vars c a.drew A S (by omega) a6);have d1:=E.o.size;have b2:=O A;clear A S f P y e j r G q i b4 J L;go_region_law (first
  |(refine aOy (by rfl) 164 _ _ (by rfl) (enters_of Tryz.func164 (by kernel_rfl) rfl) _ (by rfl) (aD a7) ?_;rintro x e2 ⟨c1,rfl,R,W,n⟩;refine⟨_,rfl,?_⟩;have b1:=O R;have b3:=O W;have a9:=O n;have b0:=O (World.ownsRow.kept (w:=a.drew) t.o n (zj (wO t.o b2.o)));have b9:=n.size;clear R W n)
  |(refine dG kK zh (b0.o.alloc _) ?_ (hb:=by (simp at b9 ⊢;omega));intro d9 e3 C Q;have a1:=aW6 (w1:=a.drew) (v.o.below (aN (w1:=a.drew) ⟨1,rfl⟩)) t.o b5 (E.o.trans (.of_below (aN (w1:=a.drew) ⟨1,rfl⟩))) a9.o b1.o b3.o C Q;have u:=O a1;obtain⟨e0,e1,rfl⟩:=aZ C;clear C Q a1))
 all_goals
  go_wp2;go_ret2;refine⟨u.o.2.2,?_⟩;rw[F.o];exact⟨_,_,rfl,u.o.1,u.o.2.1⟩
theorem aW8(q:Bool)(r:Nat)(f:∀P,(aH T P).kind∈jU)(A:s.size<=3000)(b:dK B w pb s T st g vC vP mg)(d:(aH T st.i).kind≠118)(e:(aH T st.i).kind≠110):Calls zo 148 #[pQ pb,vl] w λa w'=>uQ B B' pb w s T g vC mg (dB T (r+1) q st l) a w':=by
 obtain⟨left,c,_⟩:=b.pp.box;have R:=c.c1;have J:=c.c2;have S:=c.c3;have m:=O (λQ=>oQ 118 (by decide) (by decide) (by decide) f A (b.pp.below (aI w Q)));rw[show fF 118=65 from rfl,aS d,gG d]at m;have n:=O (λC (N:fA B C pb s T st.i g vC vP (.map (U mg)))=>oQ 110 (by decide) (by decide) (by decide) f A N);rw[show fF 110=97 from rfl,aS e,gG e]at n;have o:aE (dB T (r+1) q st l=.error (aH T st.i).pos):=O (by rw[dB,aS (λa=>d a.1),aT e]);have G:=O b;clear b c f d e;generalize fF (aH T st.i).kind=K at *;generalize (aH T st.i).txt=tx at *;obtain⟨j,i⟩:∃j,(aH T st.i).pos=j:=⟨_,rfl⟩;rw[i]at J o;have I:=O i;clear i;go_enter yv,yz;go_wp2_with(first
  |(go_at_call 87;refine(n.o _ p.o).mono ?_;rintro a a1 ⟨rfl,x,z⟩;have E:=O x;have F:=O z;clear x z)
  |(go_at_call 87;refine(aD m _).mono ?_;rintro a C ⟨rfl,v,y⟩;have D:=O v;have p:=O y;clear v y)
  |go_in)
 go_ret2;have t:=aI w (.cells #[.int .i32 K,iQ j,.string tx] 67);obtain⟨a0,M,u⟩:=(G.o.below t).pp.box;obtain⟨W,L,_⟩:=p.o.box;refine⟨((dF.of_below t).grownBox M u D.o).grownBox L u E.o,?_⟩;rw[o.o];exact⟨_,_,_,_,_,_,rfl,F.o,I.o⟩
end
def aGg(B b pb:Nat)(w:zu)(s:ByteArray)(T:List Tk)(g:Nat)(vC:Y)(mg e:Nat)(j:Except Nat (bC×List Nd×Nat))(c:Ending)(w':zu):Prop:=
 dF B b mg w w'/\
  match j with
  | .ok (s1,l1,a)=>∃vl vP,c=.returned (.tuple #[vl,.bool true])/\dK B w' pb s T s1 g vC vP mg/\zw w' b 52 2 vl (Z (eH l1 e a)) (aV (eH l1 e a))
  | .error p=>∃f a i d vP l,c=.returned (.tuple #[.slice f a i,.bool false])/\fA B w' pb s T d g vC vP l/\(aH T d).pos=p
def aLw(B pb:Nat)(s:ByteArray)(T:List Tk)(g:Nat)(vC:Y)(mg c:Nat):Prop:=
 ∀(b:Nat) (st:bC) (vP vl:Y) (a:List Nd) (d:ByteArray) (w:zu),dK B w pb s T ⟨st.i+1,st.vars,st.pz⟩ g vC vP mg->zw w b 52 2 vl (Z a+1) (aV (a++[(d,0)]))->B<=b->b<=w.heap.size->Z T<st.i+c->Z a+1<=st.i->Z st.pz<=st.i->Z st.vars<=st.i->
  Calls zo 165 #[pQ pb,vl] w λe w'=>aGg B b pb w s T g vC mg (Z a) (eI T c st (a++[(d,0)]) 0) e w'
theorem dK.parts(a:dK B w pb s T st g vC vP mg)(k n:Nat):dK B w pb s T ⟨st.i,st.vars,jN st.pz k n⟩ g vC vP mg:=
 ⟨a.pp,by rw[bD1,bD2];exact a.pz,a.map,a.mhigh⟩
theorem dF.boxSet{a:Nat}{b:zu}{left:Y}{k m:Int}{l:ByteArray}{j:Y}(c:dF B a mg b w)(d:cU w pb left k m l vC vP j)(e:B<=pb)(f:Nat)(i:Y):dF B a mg b (zt w (aQ pb f) i):=c.grownBox d e (cD _ _ _)
section
variable {B B' pb:Nat}{s:ByteArray}{T:List Tk}{g:Nat}{vC vP vl:Y}{mg:Nat}{st:bC}{l:List Nd}{w:zu}
theorem aW9{c b:zu}{d:bC}{e:Y}{p:Pl}{tb:Nat}{q:Obj}(C:dK B c pb s T d g vC vP mg)(I:zw c B' 52 2 vl (Z l) (aV l))(F:dF B B' mg w c)(v:c.heap[tb]?=U q)(P:∃j,q=.cells j 67)(N:zw b B 3 1 e (Z d.pz+1) (qZ d.pz++[iQ p.2.2.2]))(i:zk (c.alloc X) b (zv vP)):cQ b pb 5 vP/\za b (aQ pb 5)=zg/\dK B (zt b (aQ pb 5) e) pb s T ⟨d.i,d.vars,d.pz++[p]⟩ g vC e mg/\zw (zt b (aQ pb 5) e) B' 52 2 vl (Z l) (aV l)/\dF B B' mg w (zt b (aQ pb 5) e)/\(zt b (aQ pb 5) e).heap[tb]?=U q:=by
 have f:=aI c X;have a:=C.below f;obtain⟨z,A,E⟩:=a.place (p:=p) N i;obtain⟨x,y⟩:=a.pp.row_apart a.pz (by decide);obtain⟨W,r,D⟩:=(a.pp.far i x y).box;have u:=bF I f (zr _);have J:=u.kept i (dC u a.pz (by decide));have G:=(F.trans (.of_below f)).grownRow a.pz (zr _) (zi rfl) i;have L:=(bA v);obtain⟨j,rfl⟩:=P;have o:(c.alloc X).heap[tb]?=U (.cells j 67):=(f.block tb L).trans v;refine⟨z,A,E,r.row J (by decide) _ _,G.boxSet r D _ _,?_⟩;have M:tb≠pb:=by rintro rfl;obtain⟨a0,n,_⟩:=a.pp.box;unfold cU at n;rw[o]at n;simp at n
 rw[Below.heap_setCell _ _ _ _ M,i.block tb (by have:=f.size;omega) ?_]
 .exact o
 intro m;obtain⟨_,⟨rfl,_⟩|⟨S,Q,R,rfl,_,t,_⟩⟩:=a.pz
 .simp[zv]at m
 simp[zv]at m;subst m;rw[o]at t;simp at t
def aGh(k a:Nat):Except Nat (bC×List Nd×Nat)->Except Nat (bC×List Nd)
 | .error p=>.error p
 | .ok (st',l',n)=>.ok (⟨st'.i,st'.vars,jN st'.pz k n⟩,eH l' a n)
theorem aWa{i j:zu}{a:Except Nat (bC×List Nd×Nat)}{d:Ending}(t:dF B B' mg w i)(n:aGg B B' pb i s T g vC mg (Z l) a d j):(∃b f c m,d=.returned (.tuple #[.slice b f c,.bool m]))/\uQ B B' pb w s T g vC mg (aGh k (Z l) a) d j:=by
 obtain⟨o,q⟩:=n;cases a with
 |error p=>
  grind[dF.trans,fA,aGg,uQ,aV,aGh,eH,jN,aH]
 |ok a=>
  obtain⟨x,v,f⟩:=a;obtain⟨vl,vP,rfl,r,e⟩:=q;obtain⟨b,c,u⟩:=aZ e;exact⟨⟨b,_,c,zd,by rw[u]⟩,t.trans o,vl,vP,rfl,r.parts _ _,e⟩
theorem aWb(e:Bool)(o:Nat)(N:∀h1,(aH T h1).kind∈jU)(P:s.size<=3000)(i5:Z T<=1000000)(e0:aLw B pb s T g vC mg o)(d:dK B w pb s T st g vC vP mg)(b4:zw w B' 52 2 vl (Z l) (aV l))(a4:B<=B')(g7:B'<=w.heap.size)(u:(aH T st.i).kind=110)(i6:Z T<st.i+(o+1))(i7:Z l<=st.i)(i9:Z st.pz<=st.i)(j1:Z st.vars<=st.i):Calls zo 148 #[pQ pb,vl] w λz w'=>uQ B B' pb w s T g vC mg (dB T (o+1) e st l) z w':=by
 have i8:=d.pp.lt;obtain⟨left,A,_⟩:=d.pp.box;obtain⟨h2,h3,rfl⟩:=aZ b4;obtain⟨c1,c2,rfl⟩:=aZ d.pz;have d6:=A.c1;have d7:=A.c2;have d8:=A.c3;rw[u,show fF 110=97 from rfl]at d6;have S:=O (λj=>oQ 118 (by decide) (by decide) (by decide) N P (d.pp.below (aI w j)));rw[show fF 118=65 from rfl,aS (by rw[u];decide),gG (by rw[u];decide)]at S;have W:=O (λC (G:fA B C pb s T st.i g vC (.slice c1 (Z st.pz) c2) (.map (U mg)))=>oQ 110 (by decide) (by decide) (by decide) N P G);rw[show fF 110=97 from rfl,aT u,fL u]at W;have a3:=O d;have c6:=O b4;have L:=O u;have d2:=O N;have g3:=O e0;clear d b4 A u N e0;obtain⟨a,b9⟩:∃a,(aH T st.i).txt=a:=⟨_,rfl⟩;obtain⟨b,b8⟩:∃b,(aH T st.i).pos=b:=⟨_,rfl⟩;rw[b8]at d7;rw[b9]at d8;have d4:=O b9;have d3:=O b8;clear b9 b8;go_enter yv,yz;go_upto_region 6 with(first
  |(go_at_call 87;refine(W.o _ a2.o).mono ?_;rintro z c ⟨rfl,e6,f2⟩;have E:=O e6;have c9:=O f2;clear e6 f2)
  |(go_at_call 87;refine(aD S _).mono ?_;rintro z C ⟨rfl,e5,f1⟩;have x:=O e5;have a2:=O f1;clear e5 f1)
  |go_in)
 have M:=aI w (.cells #[.int .i32 97,iQ b,.string a] 67);have a8:=a3.o.below M;have a6:=a8.take x.o a2.o;have a7:=a6.take E.o c9.o;obtain⟨j6,b0,d9⟩:=a8.pp.box;obtain⟨j4,a9,_⟩:=a6.pp.box;have b6:=bF c6.o M (zr _);have b5:=b6.kept x.o (b0.apart b6 (by decide));have e8:=b5.kept E.o (a9.apart b5 (by decide));have b1:dF B B' mg w c:=((dF.of_below M).grownBox b0 d9 x.o).grownBox a9 d9 E.o;have j0:pb<w.heap.size:=by obtain⟨left,A,_⟩:=a3.o.pp.box;exact A.lt
 have Q:c.heap[w.heap.size]?=U (.cells #[.int .i32 97,iQ b,.string a] 67):=by rw[E.o.block w.heap.size (by have:=x.o.size;simp at this;omega) (by simp;omega),x.o.block w.heap.size (by simp) (by simp;omega)];show (w.heap.push _)[w.heap.size]?=_;simp
 have j2:=b1.size;obtain⟨j5,e4,_⟩:=a7.pp.box;have f6:=e4.c5;have f7:zn c (aQ w.heap.size 1)=U (iQ b):=by unfold zn;rw[Q];rfl
 have h7:zn c (aQ w.heap.size 2)=U (.string a):=by unfold zn;rw[Q];rfl
 have h5:∀j,zn (c.alloc j) (aQ pb 5)=U (.slice c1 (Z st.pz) c2):=λj=>aC (aI c j) f6
 have h6:∀j,zn (c.alloc j) (aQ w.heap.size 1)=U (iQ b):=λj=>aC (aI c j) f7
 have d0:=O a7;have c7:=O e8;have c4:=O b1;have d5:=O Q;clear M a8 a6 a7 b0 a9 e4 b6 b5 e8 b1 Q a3 c6 a2 c9 x E S W d6 d7 d8;go_cut [] (λR=>∃J,dK B R pb s T ⟨st.i+1,st.vars,st.pz++[(a,e,0,(b:Int))]⟩ g vC J mg/\zw R B' 52 2 (.slice h2 (Z l) h3) (Z l) (aV l)/\dF B B' mg w R/\R.heap[w.heap.size]?=U (.cells #[.int .i32 97,iQ b,.string a] 67));case first=>
  refine tT ?_;have f4:aE (dK B c.drew pb s T ⟨st.i+1,st.vars,st.pz⟩ g vC (.slice c1 (Z st.pz) c2) mg):=O (d0.o.below (aN (w1:=c.drew) ⟨1,rfl⟩));have h0:aE (dF B B' mg w c.drew):=O (c4.o.trans (.of_below (aN (w1:=c.drew) ⟨1,rfl⟩)));go_region_law (refine dG mR yu (f4.out.pz.alloc _) ?_ (n:=Z st.pz);intro j8 k1 b7 e7;obtain⟨i2,i4,f3⟩:=aW9 (p:=(a,e,0,(b:Int))) (tb:=w.heap.size) f4.out c7.o h0.out d5.o ⟨_,rfl⟩ b7 e7;have g2:=O f3;obtain⟨j9,k0,rfl⟩:=aZ b7;clear b7 e7 f3);all_goals
   refine tU ?_;go_wp2_with fail;go_meet;case rel=>exact⟨_,g2.o⟩
 case rest=>
  obtain⟨J,e1,e9,b2,f5⟩:=hcut;have h7:zn wc (aQ w.heap.size 2)=U (.string a):=by unfold zn;rw[f5];rfl
  have d1:=O e1;have y:=O e9;have c5:=O b2;have j3:=b2.size;clear e1 e9 b2 f5 d0 c7 c4 d5 f6 h5 f7 h6;have c8:aE (∀(f:(aH T (st.i+1)).kind≠40),dB T (o+1) e st l=.ok (⟨st.i+1,st.vars,st.pz++[(a,e,0,(b:Int))]⟩,l++[(a,0)])):=O λf=>by
   rw[dB,aS (by rw[L.o];exact λd=>absurd d.1 (by decide)),aS (by rw[L.o];decide),aS f,d4.o,d3.o]
  by_cases f:(aH T (st.i+1)).kind=40
  .have D:=O (λC (G:fA B C pb s T (st.i+1) g vC J (.map (U mg)))=>oQ 40 (by decide) (by decide) (by decide) d2.o P G);rw[show fF 40=40 from rfl,aT f,fL f]at D;have g4:aE (dB T (o+1) e st l=aGh (Z st.pz) (Z l) (eI T o ⟨st.i+1,st.vars,st.pz++[(a,e,0,(b:Int))]⟩ (l++[(a,0)]) 0)):=O (by
    rw[dB,aS (by rw[L.o];exact λd=>absurd d.1 (by decide)),aS (by rw[L.o];decide),aT f,d4.o,d3.o];cases eI T o ⟨st.i+1,st.vars,st.pz++[(a,e,0,(b:Int))]⟩ (l++[(a,0)]) 0 with
    |error p=>rfl
    |ok r=>rfl)
   go_wp2_with(first
    |(at_builtin;refine eU kK zh (y.o.alloc _) ?_;intro c0 c3 v t _;have m:=O ((d1.o.below (aI wc _)).far (y.o.alloc _) (by decide) t);have a0:=O ((c5.o.trans (.of_below (aI wc _))).grownRow (y.o.alloc _) a4 (zj ⟨rfl,zr _⟩) t);have F:aE (zw c3 B' 52 2 c0 (Z l+1) (aV (l++[(a,0)]))):=O (by rw[sA];exact v);obtain⟨h8,h9,rfl⟩:=aZ v;clear v t)
    |(go_at_call 87;refine(D.o _ m.o.pp).mono ?_;rintro z f8 ⟨rfl,i,I⟩;obtain⟨h4,q,a5⟩:=m.o.pp.box;have e2:=m.o.take i I;have f0:=F.o.kept i (q.apart F.o (by decide));have b3:=a0.o.grownBox q a5 i;have f9:=O (g3.o B' ⟨st.i+1,st.vars,st.pz++[(a,e,0,(b:Int))]⟩ J _ l a f8 e2 f0 a4 (ze g7 b3.size) (by simp;omega) (by simp;omega) (by simp;omega) (by simp;omega));have a1:=O b3;clear i I e2 f0 b3 q)
    |(go_at_call 165;refine(aD f9).mono ?_;intro z k2 g8;obtain⟨⟨i0,j7,i3,i1,g9⟩,e3⟩:=aWa (k:=Z st.pz) a1.o g8;subst g9;have g6:=O e3;clear e3)
    |go_in)
   go_ret2;rw[g4.o];exact g6.o
  have D:=O (λC (G:fA B C pb s T (st.i+1) g vC J (.map (U mg)))=>oQ 40 (by decide) (by decide) (by decide) d2.o P G);rw[show fF 40=40 from rfl,aS f,gG f]at D;have g1:=O (c8.o f);clear c8;go_wp2_with(first
   |(at_builtin;refine eU kK zh (y.o.alloc _) ?_;intro c0 c3 v t _;have m:=O ((d1.o.below (aI wc _)).far (y.o.alloc _) (by decide) t);have a0:=O ((c5.o.trans (.of_below (aI wc _))).grownRow (y.o.alloc _) a4 (zj ⟨rfl,zr _⟩) t);have F:aE (zw c3 B' 52 2 c0 (Z (l++[(a,0)])) (aV (l++[(a,0)]))):=O (by rw[sA,zf];exact v);obtain⟨h8,h9,rfl⟩:=aZ v;clear v t)
   |(go_at_call 87;refine(D.o _ m.o.pp).mono ?_;rintro z f8 ⟨rfl,i,I⟩;obtain⟨h4,q,a5⟩:=m.o.pp.box;have g5:=O (m.o.take i I);have g0:=O (F.o.kept i (q.apart F.o (by decide)));have a1:=O (a0.o.grownBox q a5 i);clear i I q)
   |go_in)
  go_ret2;refine⟨a1.o,?_⟩;rw[g1.o];exact⟨_,_,rfl,g5.o,g0.o⟩
end
theorem uQ.shape{d:Nat}{r:Except Nat (bC×List Nd)}{a:Ending}(b:uQ B d pb w s T g vC mg r a w'):∃e n c f,a=.returned (.tuple #[.slice e n c,.bool f]):=by obtain⟨_,b⟩:=b;grind[aZ]
theorem aWc(a:List Nd)(k b:Nat)(c:k<Z a):∃d:ByteArray,(eH a k b)[k]'(by rw[aA5];exact c)=(d,(b:Int)):=by unfold eH;exact⟨a[k].1,by rw[List.getElem_modify_eq]⟩
structure PLq(B B' pb:Nat)(w:zu)(s:ByteArray)(T:List Tk)(g:Nat)(vC:Y)(mg nm:Nat)(r:Except Nat (bC×List Nd×Nat))(k:Nat)(vl:Y)(wr:zu)(st:bC)(L:List Nd)(n:Nat)(vP:Y):Prop where
 q:dK B wr pb s T ⟨st.i+1,st.vars,st.pz⟩ g vC vP mg
 row:zw wr B' 52 2 vl (Z L) (aV (eH L nm n))
 kept:dF B B' mg w wr
 eq:r=eI T k st L n
 fuel:Z T<st.i+k
 nm:nm<Z L
 len:Z L<=st.i
 pl:Z st.pz<=st.i
 vs:Z st.vars<=st.i
 few:n<=st.i
theorem PLq.step{B f pb:Nat}{w:zu}{s:ByteArray}{T:List Tk}{g:Nat}{vC:Y}{mg l:Nat}{e:Except Nat (bC×List Nd×Nat)}{k:Nat}{vl:Y}{wr:zu}{st:bC}{a:List Nd}{c:Nat}{vP:Y}(i:PLq B f pb w s T g vC mg l e (k+1) vl wr st a c vP){d:Except Nat (bC×List Nd)}(j:dB T k zg ⟨st.i+1,st.vars,st.pz⟩ []=d):match d with
  | .error p=>e=.error p
  | .ok (s1,x)=>e=if (aH T s1.i).kind=44 then eI T k s1 (a++x) (c+1) else if (aH T s1.i).kind=41 then .ok (⟨s1.i+1,s1.vars,s1.pz⟩,a++x,c+1) else .error (aH T s1.i).pos:=by
 have b:=i.eq;rw[eI,(aPa T k).1 zg _ a,j]at b;cases d with
 |error p=>exact b
 |ok y=>exact b
theorem aWd{j:Nat}{d:zu}{a:Nat}{o:bC}{e f:List Nd}{b:Nat}(t:dK B d pb s T o g vC vP mg)(i:zw d j 52 2 vl (Z (eH e a b++f)) (aV (eH e a b++f)))(r:a<Z e)(p:B<=j)(q:dF B j mg w d):∃c l,vl=sQ c (Z (e++f)) l/\zn d (aQ c (a*2+1))=U (iQ b)/\za d (aQ c (a*2+1))=zg/\
   dK B (zt d (aQ c (a*2+1)) (iQ ((b:Int)+1))) pb s T o g vC vP mg/\zw (zt d (aQ c (a*2+1)) (iQ ((b:Int)+1))) j 52 2 vl (Z (e++f)) (aV (eH (e++f) a (b+1)))/\dF B j mg w (zt d (aQ c (a*2+1)) (iQ ((b:Int)+1))):=by
 rw[<-bCx e f a b r,aA5]at i;have n:a<Z (e++f):=by simp;omega
 obtain⟨c,l,rfl⟩:=mJ i (by omega);have m:zk d (zt d (aQ c (a*2+1)) (iQ ((b:Int)+1))) (U c):=cD _ _ _;obtain⟨v,u⟩:=aWc (e++f) a b n;refine⟨c,l,rfl,?_,i.frozenAt _,t.far i (by decide) m,?_,q.grownRow i p (zj ⟨rfl,zr _⟩) m⟩
 .rw[i.cellAt _ (by omega),(yW _ a (by rw[aA5];exact n)).2,u]
 have:=(i.stored (a*2+1) (iQ ((b+1:Nat):Int))).1;rw[aP6,bCz]at this;exact this
section
variable {B pb:Nat}{s:ByteArray}{T:List Tk}{g:Nat}{vC:Y}{mg:Nat}
theorem aWe(F:Nat)(c9:∀f1,(aH T f1).kind∈jU)(d3:s.size<=3000)(f8:Z T<=1000000)(c3:∀k,k<F->aLv B pb s T g vC mg k):aLw B pb s T g vC mg F:=by
 intro a1 st vP vl L c0 w b3 b7 c8 e4 e5 g2 a9 f0;have e6:=b3.pp.lt;simp only at e6;obtain⟨f2,f3,rfl⟩:=aZ b7;have d6:=O c3;have c2:=O c9;have b1:aE (PLq B a1 pb w s T g vC mg (Z L) (eI T F st (L++[(c0,0)]) 0) F (.slice f2 (Z L+1) f3) w st (L++[(c0,0)]) 0 vP):=O ⟨b3,by rw[aP8,zf];exact b7,dF.refl _ _ _ _,rfl,e5,by simp,by simp;omega,a9,f0,z2 _⟩;obtain⟨E,b6⟩:∃E,eI T F st (L++[(c0,0)]) 0=E:=⟨_,rfl⟩;rw[b6]at b1;simp only[b6];have g3:Z L<=1000000:=by omega
 clear b3 b7 c3 c9 b6;generalize Z L=nm at *;go_enter Tryz.func165,Tryz.ntmps165;go_wp2;go_loopg [1] F (λk vl wr=>k<=F/\∃j r o b9,PLq B a1 pb w s T g vC mg nm E k vl wr j r o b9);exact⟨zr _,st,_,0,vP,b1.o⟩;clear b1;obtain⟨g1,j,r,o,b9,a⟩:=hrel;have e7:=a.q.pp.lt;simp only at e7;have g0:=a.fuel;have e8:=a.nm;have g4:=a.len;have g8:=a.pl;have g9:=a.vs;have f9:=a.few;obtain⟨A,rfl⟩:∃A,gk=A+1:=⟨gk-1,by omega⟩;obtain⟨h3,h4,rfl⟩:=aZ a.row;have C:=O (d6.o A (by omega) a1 zg ⟨j.i+1,j.vars,j.pz⟩ b9 _ (eH r nm o) wr a.q (by rw[aA5];exact a.row) c8 (ze e4 a.kept.size) (by simp) (by simp;omega) (by rw[aA5];simp;omega) (by simp;omega) (by simp;omega));have Q:=O a;have d2:=(aPa T A).1 zg ⟨j.i+1,j.vars,j.pz⟩ (eH r nm o);rw[d2]at C;clear d2;cases hq:dB T A zg ⟨j.i+1,j.vars,j.pz⟩ []with
 |error p=>
  have J:=Q.o.step hq;rw[hq]at C;have e2:aE (E=.error p):=O J;clear hq J a;go_wp2_with(first
   |(go_at_call 148;refine(aD C).mono ?_;rintro t b ⟨d,f6,h1,f7,h0,e,h2,rfl,a9,d1⟩;have d7:=O d;have d8:=O a9;have e0:=O d1;clear d a9 d1)
   |go_in)
  go_ret2;refine⟨Q.o.kept.trans d7.o,?_⟩;rw[e2.o];exact⟨_,_,_,_,_,_,rfl,d8.o,e0.o⟩
 |ok y=>
  obtain⟨i,b0⟩:=y;have J:=Q.o.step hq;simp only at J;have e9:=(xB T A).1 _ _ _ _ _ hq;simp only[List.length_nil]at e9;rw[hq]at C;obtain⟨D,b5⟩:∃D,r++b0=D:=⟨_,rfl⟩;have d0:Z D=Z r+Z b0:=by rw[<-b5];simp
  have a7:=O (λ(b:zu) (e M:Y) (m:dK B b pb s T i g vC e mg) (n:zw b a1 52 2 M (Z (eH r nm o++b0)) (aV (eH r nm o++b0))) (d:dF B a1 mg w b)=>aWd m n e8 c8 d);rw[b5]at J a7;have S:=O J;have g6:(nm:Int)<(Z D:Int):=by omega
  have g5:(0:Int)<=(nm:Int):=by omega
  have g7:o<=1000000:=by omega
  have c1:=O d0;clear hq J a b5 d0;have P:=O (λb e (b8:fA B b pb s T i.i g vC e (.map (U mg)))=>oQ 44 (by decide) (by decide) (by decide) c2.o d3 b8);rw[show fF 44=44 from rfl]at P;have N:=O (λb e (b8:fA B b pb s T i.i g vC e (.map (U mg)))=>oQ 41 (by decide) (by decide) (by decide) c2.o d3 b8);rw[show fF 41=41 from rfl]at N;by_cases G:(aH T i.i).kind=44
  .rw[aT G,fL G]at P;have a4:aE (E=eI T A i D (o+1)):=O (by have:=S.o;rw[aT G]at this;exact this);clear S N;go_wp2_with(first
    |(go_at_call 87;refine(P.o _ _ f.o.pp).mono ?_;rintro t d5 ⟨rfl,c,v⟩;obtain⟨d4,l,a5⟩:=f.o.pp.box;have q:=O (f.o.take c v);have a8:=O (R.o.kept c (l.apart R.o (by decide)));have a3:=O (a2.o.grownBox l a5 c);clear c v l)
    |(go_at_call 148;refine(aD C).mono ?_;rintro t b ⟨d,M,e,rfl,m,n⟩;obtain⟨c7,c6,rfl,c4,c5,x,z,u⟩:=a7.o b e M m n (Q.o.kept.trans d);have f:=O x;have R:=O z;have a2:=O u;clear d m n x z u)
    |go_in)
   go_roundg A;case measure=>omega
   case rel=>exact⟨by omega,i,D,o+1,_,q.o,a8.o,a3.o,a4.o,by omega,by have:=c1.o;omega,by have:=c1.o;omega,by omega,by omega,by omega⟩
  rw[aS G,gG G]at P;by_cases W:(aH T i.i).kind=41
  .rw[aT W,fL W]at N;have a4:aE (E=.ok (⟨i.i+1,i.vars,i.pz⟩,D,o+1)):=O (by have:=S.o;rw[aS G,aT W]at this;exact this);clear S;go_wp2_with(first
    |(go_at_call 87;refine(N.o _ _ q.o.pp).mono ?_;rintro t f5 ⟨rfl,I,a6⟩;obtain⟨f4,a0,b4⟩:=q.o.pp.box;have e1:=O (q.o.take I a6);have e3:=O (a8.o.kept I (a0.apart a8.o (by decide)));have b2:=O (a3.o.grownBox a0 b4 I);clear I a6 a0)
    |(go_at_call 87;refine(P.o _ _ f.o.pp).mono ?_;rintro t d5 ⟨rfl,c,v⟩;obtain⟨d4,l,a5⟩:=f.o.pp.box;have q:=O (f.o.take c v);have a8:=O (R.o.kept c (l.apart R.o (by decide)));have a3:=O (a2.o.grownBox l a5 c);clear c v l)
    |(go_at_call 148;refine(aD C).mono ?_;rintro t b ⟨d,M,e,rfl,m,n⟩;obtain⟨c7,c6,rfl,c4,c5,x,z,u⟩:=a7.o b e M m n (Q.o.kept.trans d);have f:=O x;have R:=O z;have a2:=O u;clear d m n x z u)
    |go_in)
   go_ret2;refine⟨b2.o,?_⟩;rw[a4.o];exact⟨_,_,rfl,e1.o,by rw[aA5];exact e3.o⟩
  rw[aS W,gG W]at N;have a4:aE (E=.error (aH T i.i).pos):=O (by have:=S.o;rw[aS G,aS W]at this;exact this);clear S;go_wp2_with(first
   |(go_at_call 87;refine(N.o _ _ q.o.pp).mono ?_;rintro t f5 ⟨rfl,I,a6⟩;obtain⟨f4,a0,b4⟩:=q.o.pp.box;have d9:=O a6;have b2:=O (a3.o.grownBox a0 b4 I);clear I a6 a0)
   |(go_at_call 87;refine(P.o _ _ f.o.pp).mono ?_;rintro t d5 ⟨rfl,c,v⟩;obtain⟨d4,l,a5⟩:=f.o.pp.box;have q:=O (f.o.take c v);have a3:=O (a2.o.grownBox l a5 c);clear c v l)
   |(go_at_call 148;refine(aD C).mono ?_;rintro t b ⟨d,M,e,rfl,m,n⟩;obtain⟨c7,c6,rfl,c4,c5,x,z,u⟩:=a7.o b e M m n (Q.o.kept.trans d);have f:=O x;have R:=O z;have a2:=O u;clear d m n x z u)
   |go_in)
  go_ret2;refine⟨b2.o,?_⟩;rw[a4.o];exact⟨_,_,_,_,_,_,rfl,d9.o,rfl⟩
theorem aWf(l:∀b,(aH T b).kind∈jU)(x:∀b,(aH T b).txt.size<=1000000)(u:s.size<=3000)(m:Z T<=1000000):∀a,aLv B pb s T g vC mg a:=by
 intro a;induction a using Nat.strongRecOn with
 |_ a ih=>
  intro e f st vP vl y w d p i j n o q t v;have r:=d.pp.lt;obtain⟨c,rfl⟩:∃c,a=c+1:=⟨a-1,by omega⟩;grind[aWe,aW7,aWb,aW8,aH]
end
theorem aWg(e:∀i,(aH T i).kind∈jU)(j:∀i,(aH T i).txt.size<=1000000)(v:s.size<=3000)(r:Z T<=1000000)(a:dK B w pb s T st g vC vP mg)(q:B<=w.heap.size)(u:Z st.pz<=st.i)(x:Z st.vars<=st.i):Calls zo 122 #[pQ pb] w λc w'=>uQ B w.heap.size pb w s T g vC mg (dB T (Z T+1) zd st []) c w':=by
 have C:=a.pp.lt;obtain⟨left,f,_⟩:=a.pp.box;have p:=f.c1;by_cases b:(aH T st.i).kind=118
 .have m:aE (dB T (Z T+1) zd st []=.error (aH T st.i).pos):=O (by rw[dB,aS (by simp),aT (by rw[b];decide)]);rw[b,show fF 118=65 from rfl]at p;have n:=O a;clear a f;go_enter Tryz.func122,Tryz.ntmps122;go_wp2;go_ret2;refine⟨dF.refl _ _ _ _,?_⟩;rw[m.o];exact⟨_,_,_,_,_,_,rfl,n.o.pp,rfl⟩
 have D:(fF (aH T st.i).kind==65)=false:=by
  rw[beq_eq_false_iff_ne];exact λc=>b (aGl _ (e st.i) 118 (by decide) (by rw[c];rfl))
 have l:=O (aWf (B:=B) (pb:=pb) (g:=g) (vC:=vC) (mg:=mg) e j v r (Z T+1) w.heap.size zd st vP (nQ) [] w a (z5 _ _ _ _) q (zr _) (λ_=>b) (by omega) (z2 _) u x);generalize fF (aH T st.i).kind=K at *;clear a f b e j;go_enter Tryz.func122,Tryz.ntmps122;go_wp2_with(first
  |(go_at_call 148;refine(aD l).mono ?_;intro c F d;obtain⟨y,E,A,z,t⟩:=d.shape;subst t;have o:=O d;clear d)
  |go_in)
 go_ret2;exact o.o
def aWh(B pb:Nat)(w:zu)(s:ByteArray)(T:List Tk)(g:Nat)(vC:Y)(mg:Nat)(l:Except Nat (bC×List Lt))(d:Ending)(w':zu):Prop:=
 dF B w.heap.size mg w w'/\
  match l with
  | .ok (s1,b)=>∃a f vP,d=.returned (.tuple #[f,.bool true])/\dK B w' pb s T s1 g vC vP mg/\zw w' w.heap.size 55 2 f (Z a) (bH a)/\(∀c∈a,zw w' w.heap.size 52 2 c.2 (Z c.1.2) (aV c.1.2))/\a.map z8=b
  | .error p=>∃i j b e vP m,d=.returned (.tuple #[.slice i j b,.bool false])/\fA B w' pb s T e g vC vP m/\(aH T e).pos=p
structure LLq(B pb:Nat)(w:zu)(s:ByteArray)(T:List Tk)(g:Nat)(vC:Y)(mg:Nat)(r:Except Nat (bC×List Lt))(k:Nat)(vc:Y)(wr:zu)(st:bC)(P:List (Lt×Y))(vP:Y):Prop where
 q:dK B wr pb s T st g vC vP mg
 kept:dF B w.heap.size mg w wr
 row:zw wr w.heap.size 55 2 vc (Z P) (bH P)
 atoms:∀q∈P,zw wr w.heap.size 52 2 q.2 (Z q.1.2) (aV q.1.2)
 eq:r=fR T k st (P.map z8)
 fuel:Z T<st.i+k
 pl:Z st.pz<=st.i
 vs:Z st.vars<=st.i
 few:Z P<=st.i
section
variable {B pb:Nat}{w w1 w2 w3:zu}{s:ByteArray}{T:List Tk}{g:Nat}{vC vP vc:Y}{mg:Nat}{st:bC}{P:List (Lt×Y)}
theorem aB6{c:bC}(f:dK B w1 pb s T c g vC vP mg)(n:dF B w.heap.size mg w w1)(j:zw w1 w.heap.size 55 2 vc (Z P) (bH P))(e:∀a∈P,zw w1 w.heap.size 52 2 a.2 (Z a.1.2) (aV a.1.2)){l:Nat}(b:zk w1 w2 (U pb))(o:fA B w2 pb s T l g vC vP (.map (U mg))):dK B w2 pb s T ⟨l,c.vars,c.pz⟩ g vC vP mg/\dF B w.heap.size mg w w2/\zw w2 w.heap.size 55 2 vc (Z P) (bH P)/\(∀a∈P,zw w2 w.heap.size 52 2 a.2 (Z a.1.2) (aV a.1.2)):=by
 obtain⟨left,d,m⟩:=f.pp.box;exact⟨f.take b o,n.grownBox d m b,j.kept b (d.apart j (by decide)),λa i=>(e a i).kept b (d.apart (e a i) (by decide))⟩
theorem aLy{l:bC}{b:List Nd}(o:dK B w1 pb s T l g vC vP mg)(c:dF B w.heap.size mg w w1)(j:zw w1 w.heap.size 55 2 vc (Z P) (bH P))(e:∀a∈P,zw w1 w.heap.size 52 2 a.2 (Z a.1.2) (aV a.1.2))(d:dF B w1.heap.size mg w1 w2)(n:zw w2 w1.heap.size 52 2 vl (Z b) (aV b)):dF B w.heap.size mg w w2/\zw w2 w.heap.size 55 2 vc (Z P) (bH P)/\(∀a∈P,zw w2 w.heap.size 52 2 a.2 (Z a.1.2) (aV a.1.2))/\zw w2 w.heap.size 52 2 vl (Z b) (aV b):=by
 obtain⟨p,f,_⟩:=o.map;exact⟨c.trans (d.mono c.size),d.own j (by decide) (by intro m;exact absurd m (by decide)) (wO j f),λa i=>d.own (e a i) (by decide) (λ_=>zr _) (wO (e a i) f),fM n c.size⟩
theorem aLz{l:bC}{m:Y}{x:Lt}(u:dK B w2 pb s T l g vC vP mg)(q:dF B w.heap.size mg w w2)(v:zw w2 w.heap.size 55 2 vc (Z P) (bH P))(o:∀a∈P,zw w2 w.heap.size 52 2 a.2 (Z a.1.2) (aV a.1.2))(r:zw w2 w.heap.size 52 2 vl (Z x.2) (aV x.2))
  (t:zw w3 w.heap.size 55 2 m (Z P+1) (bH P++[.bool x.1,vl])) (b:zk (w2.alloc X) w3 (zv vc)):dK B w3 pb s T l g vC vP mg/\dF B w.heap.size mg w w3/\zw w3 w.heap.size 55 2 m (Z (P++[(x,vl)])) (bH (P++[(x,vl)]))/\(∀a∈P++[(x,vl)],zw w3 w.heap.size 52 2 a.2 (Z a.1.2) (aV a.1.2)):=by
 have d:=aI w2 X;have e:=bF v d (zr _);have f:=λa hq'=>bF (o a hq') d (zr _)
 have j:=bF r d (zr _);refine⟨(u.below d).far e (by decide) b,?_,by rw[yY,zf];exact t,λa hq'=>?_⟩
 .have c:=q.trans (dF.of_below (B:=B) (B':=w.heap.size) (mg:=mg) d);exact⟨b.os.trans c.os,b.tape.trans c.tape,b.output.trans c.output,ze c.size b.size,λk i p=>by
   rw[b.block k (yy i c.size) (λn=>by have:=(bS e k n.symm).1;omega),c.block k i p]⟩
 rcases List.mem_append.1 hq' with hq'|hq'
 .exact(f a hq').kept b (dC (f a hq') e (by decide))
 simp at hq';subst hq';exact j.kept b (dC j e (by decide))
theorem aWi(a5:∀a0,(aH T a0).kind∈jU)(b0:∀a0,(aH T a0).txt.size<=1000000)(W:s.size<=3000)(b9:Z T<=1000000)(a4:dK B w pb s T st g vC vP mg)(b8:B<=w.heap.size)(e:Z st.pz<=st.i)(a9:Z st.vars<=st.i):Calls zo 88 #[pQ pb] w λi w'=>aWh B pb w s T g vC mg (fR T (Z T+1) st []) i w':=by
 have M:aE (LLq B pb w s T g vC mg (fR T (Z T+1) st []) (Z T+1) (nQ) w st [] vP):=O ⟨a4,dF.refl _ _ _ _,z5 _ _ _ _,λd9 l=>by simp at l,rfl,by omega,e,a9,by simp⟩;obtain⟨u,R⟩:∃u,fR T (Z T+1) st []=u:=⟨_,rfl⟩;rw[R]at M;simp only[R];have Q:=O a5;have b7:=O b0;clear a4 R a5 b0 e a9;go_enter Tryz.func88,Tryz.ntmps88;go_wp2;go_loopg [4] (Z T+1) (λk vc wr=>∃x P a1,LLq B pb w s T g vC mg u k vc wr x P a1);exact⟨st,[],vP,M.o⟩;clear M;obtain⟨x,P,a1,j⟩:=hrel;have d4:=j.q.pp.lt;have d3:=j.fuel;have d5:=j.pl;have d6:=j.vs;have d2:=j.few;obtain⟨L,rfl⟩:∃L,gk=L+1:=⟨gk-1,by omega⟩;obtain⟨e3,e4,rfl⟩:=aZ j.row;obtain⟨e0,e1,b1,b2⟩:=aA4 T x;have A:=O (oQ 126 (by decide) (by decide) (by decide) Q.o W j.q.pp);rw[show fF 126=126 from rfl]at A;have C:=O (λw1 (c0:w.heap.size<=w1.heap.size) (c2:dK B w1 pb s T (gR T x) g vC a1 mg)=>aWg Q.o b7.o W b9 c2 (ze b8 c0) (by rw[b2];omega) (by rw[b1];omega));have b:=O j;obtain⟨t,S⟩:∃t,decide ((aH T x.i).kind=126)=t:=⟨_,rfl⟩;rw[S]at A;have a2:=O S;clear j S;cases l:dB T (Z T+1) zd (gR T x) []with
 |error p=>
  rw[l]at C;have D:aE (u=.error p):=O (by rw[b.o.eq,aBi l]);clear l;go_wp2_with(first
   |(go_at_call 122;refine(C.o _ a.o.2.1.size a.o.1).mono ?_;rintro i w2 ⟨o,d0,d8,d1,d7,b3,e2,rfl,a7,a8⟩;have b4:=O (a.o.2.1.trans (o.mono a.o.2.1.size));have b5:=O a7;have b6:=O a8;clear o a7 a8)
   |(go_at_call 87;refine(aD A).mono ?_;rintro i w1 ⟨rfl,n,e⟩;have a:=O (aB6 b.o.q b.o.kept b.o.row b.o.atoms n e);clear n e)
   |go_in)
  go_ret2;refine⟨b4.o,?_⟩;rw[D.o];exact⟨_,_,_,_,_,_,rfl,b5.o,b6.o⟩
 |ok y=>
  obtain⟨m,J⟩:=y;have a6:=(xB T (Z T+1)).1 _ _ _ _ _ l;simp only[List.length_nil]at a6;rw[b1,b2]at a6;rw[l]at C;have a3:=O l;clear l;have z:=O (λw3 vP3 (c1:fA B w3 pb s T m.i g vC vP3 (.map (U mg)))=>oQ 124 (by decide) (by decide) (by decide) Q.o W c1);rw[show fF 124=124 from rfl]at z;by_cases v:(aH T m.i).kind=124
  .rw[aT v,fL v]at z;have D:aE (∀vl,u=fR T L ⟨m.i+1,m.vars,m.pz⟩ ((P++[((t,J),vl)]).map z8)):=O (λvl=>by rw[b.o.eq,aE9 a3.o v,a2.o,List.map_append,yx]);go_wp2_with(first
    |(go_at_call 87;refine(z.o _ _ d.o.1.pp).mono ?_;rintro i c9 ⟨rfl,F,G⟩;have f:=O (aB6 d.o.1 d.o.2.1 d.o.2.2.1 d.o.2.2.2 F G);clear F G)
    |(at_builtin;refine eU qJ z3 (c.o.2.1.alloc _) ?_;intro c6 w3 r E _;have d:=O (aLz (x:=(t,J)) N.o c.o.1 c.o.2.1 c.o.2.2.1 c.o.2.2.2 r E);obtain⟨c7,c8,rfl⟩:=aZ r;clear r E)
    |(go_at_call 122;refine(C.o _ a.o.2.1.size a.o.1).mono ?_;rintro i w2 ⟨o,vl,b3,rfl,I,q⟩;obtain⟨c4,c5,rfl⟩:=aZ q;have c:=O (aLy a.o.1 a.o.2.1 a.o.2.2.1 a.o.2.2.2 o q);have N:=O I;have c3:=c.o.1.size;clear o I q)
    |(go_at_call 87;refine(aD A).mono ?_;rintro i w1 ⟨rfl,n,e⟩;have a:=O (aB6 b.o.q b.o.kept b.o.row b.o.atoms n e);clear n e)
    |go_in)
   go_roundg L;case measure=>omega
   case rel=>exact⟨⟨m.i+1,m.vars,m.pz⟩,P++[((t,J),_)],_,f.o.1,f.o.2.1,f.o.2.2.1,f.o.2.2.2,D.o _,by simp;omega,by simp;omega,by simp;omega,by simp;omega⟩
  rw[aS v,gG v]at z;have D:aE (∀vl,u=.ok (m,(P++[((t,J),vl)]).map z8)):=O (λvl=>by rw[b.o.eq,aHm a3.o v,a2.o,List.map_append,yx]);go_wp2_with(first
   |(go_at_call 87;refine(z.o _ _ d.o.1.pp).mono ?_;rintro i c9 ⟨rfl,F,G⟩;have f:=O (aB6 d.o.1 d.o.2.1 d.o.2.2.1 d.o.2.2.2 F G);clear F G)
   |(at_builtin;refine eU qJ z3 (c.o.2.1.alloc _) ?_;intro c6 w3 r E _;have d:=O (aLz (x:=(t,J)) N.o c.o.1 c.o.2.1 c.o.2.2.1 c.o.2.2.2 r E);obtain⟨c7,c8,rfl⟩:=aZ r;clear r E)
   |(go_at_call 122;refine(C.o _ a.o.2.1.size a.o.1).mono ?_;rintro i w2 ⟨o,vl,b3,rfl,I,q⟩;obtain⟨c4,c5,rfl⟩:=aZ q;have c:=O (aLy a.o.1 a.o.2.1 a.o.2.2.1 a.o.2.2.2 o q);have N:=O I;have c3:=c.o.1.size;clear o I q)
   |(go_at_call 87;refine(aD A).mono ?_;rintro i w1 ⟨rfl,n,e⟩;have a:=O (aB6 b.o.q b.o.kept b.o.row b.o.atoms n e);clear n e)
   |go_in)
  go_ret2;refine⟨f.o.2.1,?_⟩;rw[D.o];exact⟨_,_,_,rfl,f.o.1,f.o.2.2.1,f.o.2.2.2,rfl⟩
end
abbrev Pc:=(Nat×List (Lt×Y))×Y
def wL(b:List Pc):List Y:=b.flatMap λa=>[iQ a.1.1,a.2]
theorem aWj(b:List Pc)(a:Pc):wL (b++[a])=wL b++[iQ a.1.1,a.2]:=by simp[wL]
structure iO(B:Nat)(w:zu)(vC:Y)(CV:List Pc):Prop where
 row:zw w B 109 2 vC (Z CV) (wL CV)
 each:∀p∈CV,lA w B (p.1.2,p.2)
def lM(a:Pc):Nat×List Lt:=(a.1.1,a.1.2.map z8)
structure wM(B:Nat)(w:zu)(pb:Nat)(s:ByteArray)(T:List Tk)(st:bC)(g:Nat)(vC vP:Y)(CV:List Pc):Prop where
 pp:∃vM,fA B w pb s T st.i g vC vP vM
 pz:zw w B 3 1 vP (Z st.pz) (qZ st.pz)
 cs:iO B w vC CV
theorem iO.keep{d:List Pc}(b:iO B w vC d)(k:∀a j c f l,(a=109\/a=55\/a=52)->(a=109->c=vC)->zw w B a j c f l->zw w' B a j c f l):iO B w' vC d:=
 ⟨k _ _ _ _ _ (zi rfl) (λ_=>rfl) b.row,λi e=>⟨k _ _ _ _ _ (zj (zi rfl)) (λa=>absurd a (by decide)) (b.each i e).1,λn m=>k _ _ _ _ _ (zj (zj rfl)) (λa=>absurd a (by decide)) ((b.each i e).2 n m)⟩⟩
theorem iO.below{a:List Pc}(b:iO B w vC a)(k:aB w w'):iO B w' vC a:=
 b.keep λ_ _ _ _ _ _ _ c=>bF c k (zr _)
theorem aGi{a:TypeId}(b:a=109\/a=55\/a=52):a≠74/\a≠3:=by rcases b with rfl|rfl|rfl<;>decide
theorem iO.take{B:Nat}{w w':zu}{vC:Y}{a:List Pc}{pb:Nat}{left:Y}{k c:Int}{m:ByteArray}{j vP l:Y}(d:iO B w vC a)(e:cU w pb left k c m j vP l)(i:zk w w' (U pb)):iO B w' vC a:=
 d.keep λ_ _ _ _ _ f _ b=>b.kept i (e.apart b (aGi f).1)
theorem iO.kept{n:Nat}{a:List Pc}{d:DataW Unit}(e:iO B w vC a)(i:w.ownsMap zo 9 pO mg n d)(f:dF B w.heap.size mg w w'):iO B w' vC a:=
 e.keep λ_ _ _ _ _ b _ c=>f.own c ⟨(aGi b).2,(aGi b).1⟩ (λ_=>zr _) (wO c i)
theorem aD4{c e:TypeId}{p:Nat}{f:Y}{o:Nat}{q:List Y}{d:Nat}{i:Array Y}{j:Nat×Nat}(n:zw w B c p f o q)(b:w.heap[d]?=U (.cells i e j))(l:c≠e):zv f≠U d:=by
 intro a;obtain⟨_,⟨rfl,_⟩|⟨u,r,t,rfl,_,m,_⟩⟩:=n
 .simp[zv]at a
 simp[zv]at a;subst a;rw[m]at b;simp at b;exact l b.2.1
theorem dK.other{l:Nat}{n:Array Y}{o:Nat×Nat}(b:dK B w pb s T st g vC vP mg)(c:w.heap[l]?=U (.cells n 109 o))(e:zk w w' (U l)):dK B w' pb s T st g vC vP mg:=by
 obtain⟨m,f,p⟩:=b.map;obtain⟨left,d,_⟩:=b.pp.box;obtain⟨r,u,i⟩:=b.pp.glyph;refine⟨b.pp.far e ?_ ?_,b.pz.kept e (zj (aD4 b.pz c (by decide))),⟨m,f.kept e ?_,p⟩,b.mhigh⟩
 .intro a;simp at a;subst a;unfold cU at d;rw[c]at d;simp at d
 .intro a;simp at a;subst a;rw[c]at i;simp at i
 intro a;simp at a;subst a;obtain⟨t,q,j,_⟩:=f;rw[c]at j;cases j
theorem iO.other{b:List Pc}{a:Nat}{e:Array Y}{i:Nat×Nat}(j:iO B w vC b)(n:w.heap[a]?=U (.cells e 109 i))(m:zv vC≠U a)(l:zk w w' (U a)):iO B w' vC b:=
 j.keep λf _ _ _ _ p o d=>d.kept l (zj (by
  by_cases c:f=109
  .rw[o c];exact m
  exact aD4 d n c))
theorem dK.setC(b:dK B w pb s T st g vC vP mg)(e:Y):dK B (zt w (aQ pb 4) e) pb s T st g e vP mg:=by obtain⟨f,d,l⟩:=b.map;obtain⟨o,m,n,i,a⟩:=b.pp;have c:=a.sc.box;exact⟨⟨o,m,n,i,⟨heap_setCell_same w pb 4 _ _ _ c,a.sc.high,c.row a.sc.row (by decide) _ _,a.sc.len,a.sc.drop,a.sc.le⟩,a.lt,a.on⟩,c.row b.pz (by decide) _ _,⟨f,d.setCell (λj=>aD7 c d j.symm) _,l⟩,b.mhigh⟩
theorem aWk{i:List Pc}(f:wM B w pb s T st g vC vP i)(z:B<=w.heap.size)(d:Array Y){c:zu}(n:c=zt ((w.alloc (.cells d 109)).alloc (.map #[] 0)) (aQ pb 6) (.map (U (w.heap.size+1)))):dK B c pb s T ⟨st.i,[],st.pz⟩ g vC vP (w.heap.size+1)/\iO B c vC i/\Below B w c/\c.heap[w.heap.size]?=U (.cells d 109):=by
 subst n;have b:=(aI w (.cells d 109)).alloc (by simp) (.map #[] 0);obtain⟨E,j⟩:=f.pp;obtain⟨D,o,y⟩:=j.box;have C:=o.lt;have r:=j.below b;obtain⟨x,u,v,l,a⟩:=r;have e:=a.sc.box;have t:=bF f.pz b (zr _);have p:=f.cs.below b;have q:((w.alloc (.cells d 109)).alloc (.map #[] 0)).ownsMap zo 9 pO (w.heap.size+1) 0 (.map []):=by have:=World.ownsMap_made (P:=zo) (w.alloc (.cells d 109)) 9 pO;simpa using this
 refine⟨⟨⟨x,u,v,l,⟨heap_setCell_same _ pb 6 _ _ _ e,a.sc.high,e.row a.sc.row (by decide) _ _,a.sc.len,a.sc.drop,a.sc.le⟩,a.lt,a.on⟩,e.row t (by decide) _ _,⟨.map [],q.setCell (λm=>by simp at m;omega) _,sW.start⟩,by omega⟩,p.take e (cD _ _ _),?_,?_⟩
 .refine⟨b.os,b.tape,b.output,by simp[zt];omega,λk A=>?_⟩;rw[Below.heap_setCell _ _ _ _ (show k≠pb by omega)];exact b.block k (by omega)
 rw[Below.heap_setCell _ _ _ _ (show w.heap.size≠pb by omega)];show ((w.heap.push _).push _)[w.heap.size]?=_;rw[Array.getElem?_push_lt (by simp)];simp
theorem aM0{i e:zu}{f:Y}{l:List Pc}{r:Nat}{q:List (Lt×Y)}(d:dK B i pb s T st g vC vP mg)(y:iO B i vC l)(m:Below B w i)(F:B<=w.heap.size)(v:lA i B (q,vl))(A:zw e B 109 2 f (Z l+1) (wL l++[iQ r,vl]))(c:zk (i.alloc X) e (zv vC)):cQ e pb 4 vC/\za e (aQ pb 4)=zg/\dK B (zt e (aQ pb 4) f) pb s T st g f vP mg/\iO B (zt e (aQ pb 4) f) f (l++[((r,q),vl)])/\Below B w (zt e (aQ pb 4) f):=by
 have b:=aI i X;have o:=y.below b;have C:=d.below b;have u:=C.far o.row (by decide) c;obtain⟨left,n,E⟩:=u.pp.box;have G:=m.size;have t:∀a∈l++[((r,q),vl)],lA e B (a.1.2,a.2):=by
  intro a hp;have p:lA (i.alloc X) B (a.1.2,a.2):=by
   rcases List.mem_append.1 hp with hp|hp
   .exact o.each a hp
   simp at hp;subst hp;exact⟨bF v.1 b (zr _),λj d=>bF (v.2 j d) b (zr _)⟩
  exact⟨p.1.kept c (dC p.1 o.row (by decide)),λj d=>(p.2 j d).kept c (dC (p.2 j d) o.row (by decide))⟩
 refine⟨n.c4,n.soft 4,u.setC f,⟨?_,λa hp=>⟨n.row (t a hp).1 (by decide) _ _,λj d=>n.row ((t a hp).2 j d) (by decide) _ _⟩⟩,?_⟩
 .refine n.row ?_ (by decide) _ _;rw[aWj,zf];exact A
 have D:=c.size;simp at D;refine⟨c.os.trans (b.os.trans m.os),c.tape.trans (b.tape.trans m.tape),c.output.trans (b.output.trans m.output),by simp[zt];omega,λk z=>?_⟩;rw[Below.heap_setCell _ _ _ _ (show k≠pb by omega),c.block k (by simp;omega) (λx=>by have:=(bS o.row k x.symm).1;omega),b.block k (by omega),m.block k z]
theorem aM1{b:TypeId}{e:Nat}{a:Y}{d:Nat}{f:List Y}(l:zw w B b e a d f)(q:∀k,zv a=U k->w'.heap[k]?=w.heap[k]?):zw w' B b e a d f:=by
 obtain⟨c,⟨rfl,m⟩|⟨g,i,j,rfl,n,o,p⟩⟩:=l
 .exact⟨c,zi ⟨rfl,m⟩⟩
 exact⟨c,zj ⟨g,i,j,rfl,n,by rw[q g rfl,o],p⟩⟩
theorem fO.same{b:TypeId}{c:List Y}{v:Y}(a:fO b c w v)(j:∀k,zv v=U k->w'.heap[k]?=w.heap[k]?):fO b c w' v:=by
 rcases a with a|⟨g,l,d,e,rfl,f,i⟩
 .exact zi a
 exact zj ⟨g,l,d,e,rfl,by rw[j g rfl,f],i⟩
theorem fO.blk{b:TypeId}{f:List Y}{d:Y}(i:fO b f w d)(a:zv d=U k):∃e,w.heap[k]?=U (.cells e b):=by
 rcases i with rfl|⟨g,m,c,l,rfl,j,_⟩
 .simp[zv]at a
 simp[zv]at a;subst a;exact⟨_,j⟩
structure fV where
 e:TypeId
 z:Nat
 v:Y
 n:Nat
 xs:List Y
structure jT where
 v:Y
 e:TypeId
 el:List Y
structure jI(B:Nat)(R:List fV)(M:List jT)(w:zu):Prop where
 own:∀r∈R,zw w B r.e r.z r.v r.n r.xs
 nd:(R.filterMap λr=>zv r.v).Nodup
 mks:∀x∈M,fO x.e x.el w x.v
 ap:∀x∈M,∀r∈R,∀k,zv x.v=U k->zv r.v≠U k
def iA(b:List fV)(a:List jT):List Nat:=(b.filterMap λc=>zv c.v)++a.filterMap λd=>zv d.v
section
variable {w w':zu}{B bk:Nat}{R R':List fV}{M D:List jT}{r r':fV}
theorem jI.same(a:jI B R M w)(d:∀k∈iA R M,w'.heap[k]?=w.heap[k]?):jI B R M w':=
 ⟨λr c=>aM1 (a.own r c) λk b=>d k (List.mem_append.2 (zi (List.mem_filterMap.2 ⟨r,c,b⟩))),a.nd,λf e=>(a.mks f e).same λk b=>d k (List.mem_append.2 (zj (List.mem_filterMap.2 ⟨f,e,b⟩))),a.ap⟩
theorem jI.lt(a:jI B R M w):∀k∈iA R M,k<w.heap.size:=λk hk=>by
 rcases List.mem_append.1 hk with hk|hk
 .obtain⟨r,c,hk⟩:=List.mem_filterMap.1 hk;exact(bS (a.own r c) k hk).2
 obtain⟨x,d,hk⟩:=List.mem_filterMap.1 hk;obtain⟨e,b⟩:=(a.mks x d).blk hk;exact(bA b)
theorem jI.re(a:jI B R M w)(b:R.Perm R')(e:∀x∈D,x∈M):jI B R' D w:=
 ⟨λr c=>a.own r (b.mem_iff.2 c),(b.filterMap _).nodup_iff.1 a.nd,λx d=>a.mks x (e x d),λx d r c=>a.ap x (e x d) r (b.mem_iff.2 c)⟩
theorem aM2(c:R.Perm R')(b:∀a∈D,a∈M){k:Nat}(hk:k∈iA R' D):k∈iA R M:=by
 rcases List.mem_append.1 hk with hk|hk
 .exact List.mem_append.2 (zi ((c.filterMap _).mem_iff.2 hk))
 obtain⟨a,d,hk⟩:=List.mem_filterMap.1 hk;exact List.mem_append.2 (zj (List.mem_filterMap.2 ⟨a,b a d,hk⟩))
theorem jI.upd(c:jI B (r::R) M w)(j:zk w w' (zv r.v))(u:zw w' B r'.e r'.z r'.v r'.n r'.xs)(m:dM w r.v r'.v):jI B (r'::R) M w':=by
 have p:∀a∈R,∀k,zv a.v=U k->zv r.v≠U k:=λa hx k b e=>by
  have:=c.nd;rw[zb,e]at this;exact(List.nodup_cons.1 this).1 (List.mem_filterMap.2 ⟨a,hx,b⟩)
 have l:∀a∈R,∀k,zv a.v=U k->k<w.heap.size:=λa hx k b=>(bS (c.own a (zs _ hx)) k b).2
 have o:(R.filterMap λr=>zv r.v).Nodup:=by
  have:=c.nd;rw[zb]at this;split at this
  .exact this
  exact(List.nodup_cons.1 this).2
 have n:∀a∈M,∀k,zv a.v=U k->k<w.heap.size:=λa hx k b=>c.lt k (List.mem_append.2 (zj (List.mem_filterMap.2 ⟨a,hx,b⟩)))
 refine⟨λa hx=>?_,?_,λa hx=>(c.mks a hx).same λk b=>j.block k (n a hx k b) λe=>c.ap a hx r (zq ..) k b e.symm,λa hx v hy k b=>?_⟩
 .rcases List.mem_cons.1 hx with rfl|hx
  .exact u
  exact aM1 (c.own a (zs _ hx)) λk b=>j.block k (l a hx k b) λe=>p a hx k b e.symm
 .rw[zb];split
  .exact o
  rename_i f i;refine List.nodup_cons.2 ⟨λq=>?_,o⟩;obtain⟨a,hx,b⟩:=List.mem_filterMap.1 q;rcases m with d|⟨g,d,t⟩
  .exact p a hx f b (by rw[<-d,i])
  rw[i]at d;cases d;have:=l a hx f b;omega
 rcases List.mem_cons.1 hy with rfl|hy
 .intro e;rcases m with d|⟨g,d,t⟩
  .exact c.ap a hx r (zq ..) k b (by rw[<-d,e])
  rw[e]at d;cases d;have:=n a hx k b;omega
 exact c.ap a hx v (zs _ hy) k b
theorem jI.drop(c:jI B (r::R) M w)(i:∀b∈D,fO b.e b.el w b.v)(f:∀b∈D,∀a∈R,∀k,zv b.v=U k->zv a.v≠U k):jI B R (M++D) w:=by
 refine⟨λa hx=>c.own a (zs _ hx),?_,λa hx=>?_,λa hx e d=>?_⟩
 .have:=c.nd;grind
 .rcases List.mem_append.1 hx with hx|hx
  .exact c.mks a hx
  exact i a hx
 rcases List.mem_append.1 hx with hx|hx
 .exact c.ap a hx e (zs _ d)
 exact f a hx e d
end
theorem aWl{a c:Nat}{b:Array Y}{T:TypeId}{d:Y}(e:w.heap[a]?=U (.cells b T)):(zt w (aQ a c) d).heap[a]?=U (.cells (b.setIfInBounds c d) T):=by unfold zt;simp[Array.getElem?_modify,e]
structure Bx where
 n:Y
 m:Y
 x:Y
 y:Y
 a:Y
 b:Y
 c:Y
 d:Y
abbrev wN(a:Bx)(b:Int):Array Y:=#[a.n,a.m,a.x,a.y,a.a,a.b,a.c,a.d,iQ b]
structure bW(w0:zu)(B bk:Nat)(H:List Nat)(v:Bx)(next:Int)(R:List fV)(M:List jT)(w:zu):Prop where
 box:w.heap[bk]?=U (.cells (wN v next) 30)
 high:B<=bk
 rst:jI B R M w
 nb:bk∉iA R M
 held:∀k∈iA R M,k∈H\/w0.heap.size<=k
 far:∀k,k<w0.heap.size->k≠bk->k∉H->w.heap[k]?=w0.heap[k]?
 low:Below B w0 w
section
variable {w0 w w':zu}{B bk:Nat}{H:List Nat}{v v':Bx}{next next':Int}{R R':List fV}{M M' D:List jT}{r r':fV}{x:jT}
theorem bW.lt(a:bW w0 B bk H v next R M w):bk<w.heap.size:=(bA a.box)
theorem bW.bw(a:bW w0 B bk H v next R M w):B<=w.heap.size:=ze a.high (Nat.le_of_lt a.lt)
theorem bW.own(a:bW w0 B bk H v next R M w)(b:r∈R):zw w B r.e r.z r.v r.n r.xs:=a.rst.own r b
theorem bW.hd{e:TypeId}{z n:Nat}{V:Y}{xs:List Y}(a:bW w0 B bk H v next (⟨e,z,V,n,xs⟩::R) M w):zw w B e z V n xs:=a.rst.own _ (zq ..)
theorem bW.row{e:TypeId}{z n:Nat}{V:Y}{xs:List Y}(a:bW w0 B bk H v next R M w)(b:(⟨e,z,V,n,xs⟩:fV)∈R):zw w B e z V n xs:=a.rst.own _ b
theorem bW.cell(a:bW w0 B bk H v next R M w){j:Nat}{u:Y}(b:(wN v next)[j]?=U u):zn w (aQ bk j)=U u:=by unfold zn;simp only[a.box];exact b
theorem bW.soft(a:bW w0 B bk H v next R M w)(j:Nat):za w (aQ bk j)=false:=by simp[za,a.box]
theorem bW.below(a:bW w0 B bk H v next R M w)(hb:aB w w'):bW w0 B bk H v next R M w':=
 ⟨by rw[hb.block bk a.lt,a.box],a.high,a.rst.same λk e=>hb.block k (a.rst.lt k e),a.nb,a.held,λk b c d=>by rw[hb.block k (yy b a.low.size),a.far k b c d],a.low.trans (hb.mono a.bw)⟩
theorem bW.re(a:bW w0 B bk H v next R M w)(d:R.Perm R')(c:∀x∈M',x∈M):bW w0 B bk H v next R' M' w:=
 ⟨a.box,a.high,a.rst.re d c,λb=>a.nb (aM2 d c b),λk b=>a.held k (aM2 d c b),a.far,a.low⟩
theorem bW.perm(a:bW w0 B bk H v next R M w)(b:R.Perm R'):bW w0 B bk H v next R' M w:=a.re b λ_ c=>c
theorem bW.wrote(a:bW w0 B bk H v next (r::R) M w)(c:zk w w' (zv r.v))(o:zw w' B r'.e r'.z r'.v r'.n r'.xs)(i:dM w r.v r'.v):bW w0 B bk H v next (r'::R) M w':=by
 have d:∀k,zv r.v=U k->k∈iA (r::R) M:=λk hk=>List.mem_append.2 (zi (List.mem_filterMap.2 ⟨r,zq ..,hk⟩))
 have j:∀k∈iA (r'::R) M,k∈iA (r::R) M\/w.heap.size<=k:=λk hk=>by
  rcases List.mem_append.1 hk with hk|hk
  .obtain⟨x,hx,e⟩:=List.mem_filterMap.1 hk;rcases List.mem_cons.1 hx with rfl|hx
   .rcases i with q|⟨g,q,n⟩
    .exact zi (d k (by rw[<-q,e]))
    rw[e]at q;cases q;exact zj n
   exact zi (List.mem_append.2 (zi (List.mem_filterMap.2 ⟨x,zs _ hx,e⟩)))
  exact zi (List.mem_append.2 (zj hk))
 have p:=a.low.size;refine⟨by rw[c.block bk a.lt λb=>a.nb (d bk b.symm),a.box],a.high,a.rst.upd c o i,λhk=>?_,λk hk=>?_,λk l m f=>?_,a.low.grown c a.bw λk b=>(bS (a.own (zq ..)) k b).1⟩
 .rcases j bk hk with q|q
  .exact a.nb q
  have:=a.lt;omega
 .rcases j k hk with q|q
  .exact a.held k q
  exact zj (by omega)
 rw[c.block k (by omega) λb=>?_,a.far k l m f];rcases a.held k (d k b.symm)with q|q
 .exact f q
 omega
theorem bW.store(a:bW w0 B bk H v next R M w){j:Nat}{u:Y}(e:(wN v next).setIfInBounds j u=wN v' next'):bW w0 B bk H v' next' R M (zt w (aQ bk j) u):=
 ⟨by rw[aWl a.box,e],a.high,a.rst.same λk f=>heap_setCell_other _ _ _ _ (by simp;rintro rfl;exact a.nb f),a.nb,a.held,λk c b d=>by rw[heap_setCell_other _ _ _ _ (by simpa using b),a.far k c b d],fK a.low a.high _⟩
theorem fO.new(w:zu)(b:TypeId)(a:List Y):fO b a (w.alloc (.cells a.toArray b)) (sQ w.heap.size 1 1):=
 zj ⟨_,1,1,a.toArray,rfl,heap_alloc_new ..,λd c=>by rw[Nat.mod_eq_of_lt (by omega)];exact List.getElem?_toArray,by decide⟩
theorem bW.boxed(d:bW w0 B bk H v next R M w)(b:TypeId)(c:List Y):bW w0 B bk H v next R (⟨sQ w.heap.size 1 1,b,c⟩::M) (w.alloc (.cells c.toArray b)):=by
 have j:aB w (w.alloc (.cells c.toArray b)):=aI _ _;have a:=d.below j;have i:∀k∈iA R (⟨sQ w.heap.size 1 1,b,c⟩::M),k=w.heap.size\/k∈iA R M:=λk hk=>by
  rcases List.mem_append.1 hk with hk|hk
  .exact zj (List.mem_append.2 (zi hk))
  obtain⟨x,hx,hk⟩:=List.mem_filterMap.1 hk;rcases List.mem_cons.1 hx with rfl|hx
  .simp[zv]at hk;exact zi hk.symm
  exact zj (List.mem_append.2 (zj (List.mem_filterMap.2 ⟨x,hx,hk⟩)))
 have l:=d.low.size;refine⟨a.box,a.high,⟨a.rst.own,a.rst.nd,λx hx=>?_,λx hx r f k hk e=>?_⟩,λhk=>?_,λk hk=>?_,a.far,a.low⟩
 .rcases List.mem_cons.1 hx with rfl|hx
  .exact fO.new ..
  exact a.rst.mks x hx
 .rcases List.mem_cons.1 hx with rfl|hx
  .simp[zv]at hk;have:=(bS (d.own f) k e).2;omega
  exact a.rst.ap x hx r f k hk e
 .rcases i bk hk with q|q
  .have:=d.lt;omega
  exact a.nb q
 rcases i k hk with q|q
 .exact zj (by omega)
 exact a.held k q
theorem bW.mi{j:Nat}{e:TypeId}{b:List Y}{f:Y}(i:bW w0 B bk H v next R M w)(o:(⟨sQ g 1 1,e,b⟩:jT)∈M)(c:b[j]?=U f):zn w (aQ g j)=U f:=by
 rcases i.rst.mks _ o with a|⟨t,n,p,q,a,m,l,_⟩
 .cases a
 cases a;have d:=(eE c);unfold zn;simp only[m];exact(l j (by simpa using d)).trans (by rw[Nat.mod_eq_of_lt d,c])
theorem bW.mc{j:Nat}{e:TypeId}{el:List Y}{u:Y}(a:bW w0 B bk H v next R (⟨sQ g 1 1,e,el⟩::M) w)(b:el[j]?=U u):cQ w g j u:=a.mi (zq ..) b
theorem bW.drop{j:zu}(f:bW w0 B bk H v next (r::R) M j)(b:bW w0 B bk H v next (r::R) M w)(d:∀a∈D,fO a.e a.el w a.v/\dM j r.v a.v):bW w0 B bk H v next R (M++D) w:=by
 have o:∀k,zv r.v=U k->k∈iA (r::R) M:=λk hk=>List.mem_append.2 (zi (List.mem_filterMap.2 ⟨r,zq ..,hk⟩))
 have n:∀k∈iA R (M++D),k∈iA (r::R) M\/j.heap.size<=k:=λk hk=>by
  rcases List.mem_append.1 hk with hk|hk
  .obtain⟨x,hx,c⟩:=List.mem_filterMap.1 hk;exact zi (List.mem_append.2 (zi (List.mem_filterMap.2 ⟨x,zs _ hx,c⟩)))
  obtain⟨x,hx,c⟩:=List.mem_filterMap.1 hk;rcases List.mem_append.1 hx with hx|hx
  .exact zi (List.mem_append.2 (zj (List.mem_filterMap.2 ⟨x,hx,c⟩)))
  rcases(d x hx).2 with q|⟨g,q,l⟩
  .exact zi (o k (by rw[<-q,c]))
  rw[c]at q;cases q;exact zj l
 have p:=f.low.size;refine⟨b.box,b.high,b.rst.drop (λa i=>(d a i).1) (λa i x hx k hk e=>?_),λhk=>?_,λk hk=>?_,b.far,b.low⟩
 .rcases(d a i).2 with q|⟨g,q,l⟩
  .have m:=b.rst.nd;rw[zb,<-q,hk]at m;exact(List.nodup_cons.1 m).1 (List.mem_filterMap.2 ⟨x,hx,e⟩)
  rw[hk]at q;cases q;have:=(bS (f.own (zs _ hx)) k e).2;omega
 .rcases n bk hk with q|q
  .exact b.nb q
  have:=f.lt;omega
 rcases n k hk with q|q
 .exact b.held k q
 exact zj (by omega)
theorem bW.mv(a:List fV)(b:bW w0 B bk H v next (a++r::R) M w):bW w0 B bk H v next (r::(a++R)) M w:=b.perm List.perm_middle
theorem bW.mb(a:List fV)(b:bW w0 B bk H v next (r::(a++R)) M w):bW w0 B bk H v next (a++r::R) M w:=b.perm List.perm_middle.symm
end
abbrev qO(a:Int):List Y:=[iQ a,iQ 0,iQ 0,iQ 0,iQ 0,nQ]
def aGj(w:zu)(g a:Nat)(b:Int):zu:=zt (zt (zt (zt (zt (zt w (aQ g a) (iQ b)) (aQ g (a+1)) (iQ 0)) (aQ g (a+2)) (iQ 0)) (aQ g (a+3)) (iQ 0)) (aQ g (a+4)) (iQ 0)) (aQ g (a+5)) (nQ)
theorem aWm(b c d e f i:Y)(a:List Y)(k:Nat)(n:(k+1)*6<=Z a):((((((rep k [b,c,d,e,f,i]++a.drop (k*6)).set (k*6) b).set (k*6+1) c).set (k*6+2) d).set (k*6+3) e).set (k*6+4) f).set (k*6+5) i=rep (k+1) [b,c,d,e,f,i]++a.drop ((k+1)*6):=by
 have l:Z (rep k [b,c,d,e,f,i])=k*6:=by rw[wT];rfl
 have j:a.drop (k*6)=a[k*6]::a[k*6+1]::a[k*6+2]::a[k*6+3]::a[k*6+4]::a[k*6+5]::a.drop ((k+1)*6):=by grind[zc]
 have m:rep (k+1) [b,c,d,e,f,i]=rep k [b,c,d,e,f,i]++[b,c,d,e,f,i]:=by rw[aDl,aDk];simp[rep]
 rw[j,m];simp only[z7,l,zr,Nat.le_add_right,Nat.sub_self,Nat.add_sub_cancel_left,yt,List.cons_append,List.nil_append,zm,zl]
theorem aWn{b d:Nat}{a:Int}{c:List Y}(f:zw w B 48 6 (sQ g b d) b (rep k (qO a)++c.drop (k*6)))(i:(k+1)*6<=Z c):zw (aGj w g (k*6) a) B 48 6 (sQ g b d) b (rep (k+1) (qO a)++c.drop ((k+1)*6))/\zk w (aGj w g (k*6) a) (U g):=by have j:=(f.stored (k*6) (iQ a)).1;have l:=(j.stored (k*6+1) (iQ 0)).1;have m:=(l.stored (k*6+2) (iQ 0)).1;have n:=(m.stored (k*6+3) (iQ 0)).1;have o:=(n.stored (k*6+4) (iQ 0)).1;have e:=(o.stored (k*6+5) (nQ)).1;rw[aWm _ _ _ _ _ _ c k i]at e;exact⟨e,((((((cD w (aQ g (k*6)) _).trans (cD _ (aQ g (k*6+1)) _)).trans (cD _ (aQ g (k*6+2)) _)).trans (cD _ (aQ g (k*6+3)) _)).trans (cD _ (aQ g (k*6+4)) _)).trans (cD _ (aQ g (k*6+5)) _))⟩
theorem aWo(a:Y)(b:List Y)(k:Nat)(c:k+1<=Z b):(rep k [a]++b.drop k).set k a=rep (k+1) [a]++b.drop (k+1):=by
 have d:Z (rep k [a])=k:=by rw[wT];simp
 grind[rep,aDl,aDk,yt,zc,z7]
theorem aWp(w:zu)(j t e:TypeId)(n:Y)(i:Nat)(C:Tryz.prog.underlying j=U (.slice e))(Q:(Tryz.prog.info? e).map (λd=>(d.zero,d.size,d.bytes))=U (U n,1,i))(J:n.cells.size=1)(N:i<=24)(l:Nat)(b:Y)(a:Nat)(m:List Y)(p:zw w l e 1 b a m)(a3:a<=10000000000)(I:l<=w.heap.size)(g o k:Nat)(f:List Y)(a1:Z f=k)(a2:0<k/\k<=4)(z:∀L u,f[L]?=U u->zn w (((aQ g 0):Addr).add L)=U u)(v:∀u∈f,u.oneCell'=zd):∃c w',(Builtin.append_ #[j,j] t #[b,sQ g k o]).run zo w=.ok c w'/\zw w' l e 1 c (a+k) (m++f)/\zk w w' (zv b)/\dM w b c:=by
 obtain⟨d,y,F,A,E⟩:=info_parts Q;have x:(a+k)*i<=140737488355328:=ze (Nat.mul_le_mul (show a+k<=10000000004 by omega) N) (by decide);by_cases D:zv b=z9
 .have R:b=nQ/\a=0:=by
   obtain⟨_,M|⟨g,W,a0,rfl,_⟩⟩:=p
   .exact M
   simp[zv]at D
  obtain⟨rfl,rfl⟩:=R;have S:m=[]:=List.eq_nil_of_length_eq_zero (by have:=p.1;simpa using this);subst S;obtain⟨c,w',q,r,G,a4⟩:=run_append_own (P:=zo) w w.heap.size j t e d n 1 i C y F A E J (by decide) (nQ) 0 [] (z5 _ _ _ _) (aQ g 0) k o f (by omega) z v (by unfold maxLen;omega) x (zr _);refine⟨c,w',q,fM r I,G,?_⟩;cases hb:zv c with
  |none=>exact zi (by rw[hb,D])
  |some g'=>exact zj ⟨g',hb,(bS r g' hb).1⟩
 obtain⟨c,w',q,r,G,_⟩:=run_append_own (P:=zo) w l j t e d n 1 i C y F A E J (by decide) b a m p (aQ g 0) k o f (by omega) z v (by unfold maxLen;omega) x I;refine⟨c,w',q,r,G,?_⟩;rcases aB9 w l j t e d n 1 i C y F A E (by decide) b a m p D (aQ g 0) k o f (by omega) z v (by unfold maxLen;omega) x q with e|e
 .exact zi e
 exact zj ⟨_,e,zr _⟩
section
variable {w0 w wX wa:zu}{B bk:Nat}{H:List Nat}{v:Bx}{next:Int}{R:List fV}{M:List jT}{o:Oper}{a:Act}{K:Act->zu->Prop}{Q:Exit->Act->zu->Prop}{e t T:TypeId}{V z:Y}{n g c k bytes:Nat}{xs el news L:List Y}{s x:Operand}
theorem bW.vals(f:bW w0 B bk H v next (⟨e,1,V,n,xs⟩::R) M w)(j:aB w wX)(q:wX.heap[g]?=U (.cells news.toArray T))(y:(Tryz.prog.info? e).map (λi=>(i.zero,i.size,i.bytes))=U (U z,1,bytes))(J:Tryz.prog.underlying t=U (.slice e))(D:n<=10000000000)(hK:∀b d w1,bW w0 B bk H v next (⟨e,1,.slice b (n+k) d,n+k,xs++news⟩::R) M w1->w.heap.size<=w1.heap.size->K (a.put o.dst (.slice b (n+k) d)) w1)
  (E:o.op=.call {callee:=.builtin .append,args:=#[s,x],argTypes:=#[t,t]}:=by rfl) (G:a.eval s=V:=by rfl) (N:a.eval x=sQ g k c:=by rfl) (A:Z news=k:=by rfl) (C:0<k/\k<=4:=by decide) (p:news.all (λu=>u.oneCell')=true:=by rfl) (S:z.cells.size=1:=by rfl) (r:bytes<=24:=by decide):Oper.wp zo o a wX K Q:=by
 have P:=j.size;obtain⟨v',w',F,l,m,W⟩:=aWp wX t o.type e z bytes J y S r B V n xs (bF (f.own (zq ..)) j (zr _)) D (ze f.bw P) g c k news A C (aCk q) (List.all_eq_true.1 p);have I:=(f.below j).wrote (r':=⟨e,1,v',n+k,xs++news⟩) m l W;have a0:=m.size;obtain⟨b,d,rfl⟩:=aZ l;unfold Oper.wp execOp;simp only[E,resolve,invoke,builtin,Sem.run_bind,Sem.run_pure,Result.andThen_ok,ys,List.map_cons,List.map_nil,G,N,F];exact hK _ _ _ I (by omega)
theorem bW.reps(l:bW w0 B bk H v next (⟨e,Z el,V,n,rep n el⟩::R) M w)(p:∀b∈L,fO e el w b/\dM wa V b)(a6:wa.heap.size<=w.heap.size)(d:aB w wX)(y:wX.heap[g]?=U (.cells (rep k el).toArray T))(D:(Tryz.prog.info? e).map (λm=>(m.zero,m.size,m.bytes))=U (U z,Z el,bytes))(P:Tryz.prog.underlying t=U (.slice e))(F:n<=100000000000)(hK:∀i j f,bW w0 B bk H v next (⟨e,Z el,V,n,rep n el⟩::R) M f->(∀b∈L++[.slice i (n+k) j],fO e el f b/\dM wa V b)->w.heap.size<=f.heap.size->K (a.put o.dst (.slice i (n+k) j)) f)
  (G:o.op=.call {callee:=.builtin .append,args:=#[s,x],argTypes:=#[t,t]}:=by rfl) (J:a.eval s=V:=by rfl) (W:a.eval x=sQ g k c:=by rfl) (E:0<k/\k<=3:=by decide) (u:el.all (λa4=>a4.oneCell')=true:=by rfl) (a0:z.cells.size=Z el:=by rfl) (A:bytes<=64:=by decide) (C:0<Z el:=by simp):Oper.wp zo o a wX K Q:=by
 have S:=d.size;obtain⟨a7,w',I,q,a1,r,a2,a3⟩:=aZ2 wX t o.type e el z bytes P D a0 C A (List.all_eq_true.1 u) B V n (bF (l.own (zq ..)) d (zr _)) (ze l.bw S) (aQ g 0) k c E F (aCk y);have N:=(l.below d).wrote (r':=⟨e,Z el,V,n,rep n el⟩) r a1 (dM.refl _ _);have a5:=r.size;obtain⟨i,j,rfl⟩:=aZ q;unfold Oper.wp execOp;simp only[G,resolve,invoke,builtin,Sem.run_bind,Sem.run_pure,Result.andThen_ok,ys,List.map_cons,List.map_nil,J,W,I];refine hK _ _ _ N (λb hd=>?_) (by omega);rcases List.mem_append.1 hd with hd|hd
 .exact⟨a3 b ((p b hd).1.below d),(p b hd).2⟩
 simp at hd;subst hd;exact⟨fO.of_own q (by omega),(dM.refl wa V).trans a2 (by omega)⟩
end
theorem aD5{e:Array Oper}{c:Nat}{a:Oper}{d:Option Tmp}{b:Act}{v:Y}{K:Act->zu->Prop}{f:Exit->Act->zu->Prop}(m:e[c]?=U a)(j:a.dst=d)(l:a.guard=z9)(n:(execOp b.eval a).run zo w=.ok (.value v) w')(i:K (b.put d v) w'):wpOp zo e f c K b w:=by subst j;exact yC m l n i
theorem aWq{e:Array Oper}{c:Nat}{a:Oper}{d:Option Tmp}{b:Act}{K:Act->zu->Prop}{f:Exit->Act->zu->Prop}(m:e[c]?=U a)(j:a.dst=d)(l:a.guard=z9)(n:(execOp b.eval a).run zo w=.ok .skip w')(i:K (b.put d undef) w'):wpOp zo e f c K b w:=by
 subst j;refine wpOp_step m λo hK=>?_
 rw[aT (by simp[Region.wanted,l])];unfold Oper.wp;rw[n];exact hK _ _ i
def aM3(b:Array Oper)(e:zu->Prop):List (Nat×Nat×Y)->Array Bool->Act->Prop
 |[],_,_=>True
 |(i,d,v)::L,ls,a=>(∃c,b[i]?=some c/\c.dst=some d/\Region.free .any b ls i=true/\(Region.ready .any b ls).contains i=true/\YieldsIf zo b e c v a)/\aM3 b e L (ls.setIfInBounds i true) (a.put (some d) v)
theorem aGk{l:Array Oper}{c:Exit->Act->zu->Prop}{e:zu->Prop}{w:zu}(p:Region.noSelect l=zd)(n:∀f a w (d:Nat) v,c (.panic f) (z4 a (U d) v) w->c (.panic f) a w)(o:e w){fuel:Nat}:∀(b:List (Nat×Nat×Y)) (j:Array Bool) (a:Act),aM3 l e b j a->wpAnyH zo .any l c e fuel (b.foldl (λr m=>r.setIfInBounds m.1 zd) j) (b.foldl (λa m=>a.put (U m.2.1) m.2.2) a) w->wpAnyH zo .any l c e (fuel+Z b) j a w
 |[],_,_,_,h=>h
 |(i,d,v)::b,j,a,⟨⟨oi,h1,h2,h3,h4,h5⟩,h6⟩,h=>by
  have:=aGk p n o b _ _ h6 h;rw[<-h2]at this;exact wpAnyH_take h1 p h3 h4 (λf a w q=>n f a w d v (by rw[h2]at q;exact q)) h5 o this
abbrev qP(a:Int):List Y:=[.string ⟨#[35]⟩,iQ a]
def mE(b:List (Y×Int)):List jT:=b.map λa=>⟨a.1,52,qP a.2⟩
abbrev rN(b:Y)(a:List (Y×Int)):fV:=⟨50,1,b,Z a,a.map z8⟩
abbrev rI(b:Y)(a:List (Y×Int)):fV:=⟨3,1,b,Z a,a.map λc=>iQ c.2⟩
theorem aWr:(Tryz.prog.info? 50).map (λa=>(a.zero,a.size,a.bytes))=U (U (nQ),1,24):=by kernel_rfl
theorem sF{f:TypeId}{d b e i:Nat}{l:List Y}(a:zw w B f d (sQ g b e) b l)(c:i<b*d):∃j,zn w (aQ g i)=U j/\za w (aQ g i)=false:=
 ⟨_,(a.cellAt i c).trans (List.getElem?_eq_getElem (by rw[a.1];exact c)),a.frozenAt i⟩
theorem bW.put2{q:zu}{i c j:Nat}{p:Bx}{n:Int}{f:List fV}{e:List jT}{l:TypeId}{a b:Y}{d:List Y}(m:bW q B i H p n (⟨l,2,sQ g c j,c,rep k [a,b]++d.drop (k*2)⟩::f) e w)(r:(k+1)*2<=Z d):bW q B i H p n (⟨l,2,sQ g c j,c,rep (k+1) [a,b]++d.drop ((k+1)*2)⟩::f) e (zt (zt w (aQ g (k*2)) a) (aQ g (k*2+1)) b):=by
 have t:=(m.hd.stored (k*2) a).1;have o:=(t.stored (k*2+1) b).1;rw[aZ3 a b d k r]at o;exact m.wrote ((cD w (aQ g (k*2)) a).trans (cD (zt w (aQ g (k*2)) a) (aQ g (k*2+1)) b)) o (dM.refl _ _)
theorem aWs{c0:zu}{a:Nat}{C:Bx}{d:Int}{a9:List fV}{F:List jT}{b:List (Y×Int)}{d5:Y}{c:List Nd}(e:bW c0 B a H C d (⟨52,2,d5,Z c,aV c⟩::rN C.n b::rI C.m b::a9) (mE b++F) w)(h6:Z c<=1000000)(g9:Z b<=9000000000)(y:-9000000000<=d/\d<=0):Calls zo 47 #[pQ a,d5] w λa0 w'=>a0=.returned (.tuple #[])/\∃c7 c8 E,Z E=Z b+4/\bW c0 B a H {C with n:=c7,m:=c8} (d-1) (rN c7 E::rI c8 E::a9) (mE E++F) w':=by
 obtain⟨f9,f8,b8,b9,b4,b5,b6,b7⟩:=C;obtain⟨o,p,rfl⟩:=aZ e.hd;obtain⟨d6,d7,rfl⟩:=aZ (e.row (V:=f9) (zs _ (zq ..)));obtain⟨z,A,rfl⟩:=aZ (e.row (V:=f8) (zs _ (zs _ (zq ..))));have x:=e.cell (j:=8) rfl;have f1:=e.soft 8;have h2:=e.lt;have a7:=O ((e.store (j:=8) (u:=iQ (d-1)) (next':=d-1) rfl).boxed 52 (qP (d-1)));have d4:(zt w (aQ a 8) (iQ (d-1))).heap.size=w.heap.size:=by simp[zt]
 rw[d4]at a7;clear e d4;go_enter Tryz.func47,Tryz.ntmps47;go_wp2;clear x f1;generalize (zt w (aQ a 8) (iQ (d-1))).alloc (.cells (qP (d-1)).toArray 52)=W2 at *;have f6:-10000000000<=d-1/\d-1<=0:=by omega
 generalize hmm:d-1=m at *
 have c4:=O hmm;clear hmm;go_loopw[5] (λM wr=>∃k:Nat,k<=Z c/\M=iQ k/\bW c0 B a H ⟨.slice d6 (Z b) d7,.slice z (Z b) A,b8,b9,b4,b5,b6,b7⟩ m (⟨52,2,.slice o (Z c) p,Z c,rep k (qP m)++(aV c).drop (k*2)⟩::rN (.slice d6 (Z b) d7) b::rI (.slice z (Z b) A) b::a9) (⟨sQ w.heap.size 1 1,52,qP m⟩::(mE b++F)) wr) (λM _=>Z c-(intOf M).toNat);exact⟨0,z2 _,rfl,by simpa[rep]using a7.o⟩;clear a7;obtain⟨k,h5,rfl,f⟩:=hrel;have g2:=f.mc (j:=0) rfl;have g3:=f.mc (j:=1) rfl;by_cases f4:k<Z c
 .have f5:(k:Int)<(Z c:Int):=by omega
  obtain⟨g,M,a0⟩:=mJ f.hd (yw (z2 _) f4);simp at a0;obtain⟨rfl,rfl⟩:=a0;obtain⟨i2,g5,g7⟩:=sF f.hd (i:=k*2) (by omega);obtain⟨i3,g6,g8⟩:=sF f.hd (i:=k*2+1) (by omega);have e0:=O (f.put2 (by rw[aFf];omega));clear f c4 f6;go_wp2;exact⟨⟨k+1,by omega,by go_num,e0.o⟩,by simp[intOf];omega⟩
 have f3:k=Z c:=by omega
 subst f3;have f5:¬((Z c:Int)<(Z c:Int)):=by omega
 rw[z6 (by rw[aFf];omega),List.append_nil]at f;have c1:aE (∀W∈[Value.slice o (Z c) p],fO 52 (qP m) wr W/\dM wr (.slice o (Z c) p) W):=O λW a4=>by
  simp at a4;subst a4;exact⟨fO.of_own (el:=qP m) f.hd (by omega),dM.refl _ _⟩
 have h3:=f.lt;have a8:=O f;clear f;generalize a5:Z c=n at *;have d9:=O a5;clear a5;go_wp2_with(first
  |(at_builtin;refine wpList_plain rfl λK hK=>a6.o.vals (news:=[.slice o n p,.slice G (n+1) N,.slice I (n+2) P,.slice J (n+3) Q]) (aI _ _) (heap_alloc_new ..) aWr Tryz.underlying23 (by omega) λL R g0 a3 i0=>hK _ _ ?_;have q:=O (a3.store (j:=0) (v':=⟨.slice L (Z b+4) R,.slice z (Z b) A,b8,b9,b4,b5,b6,b7⟩) (next':=m) rfl);have e5:=a3.cell (j:=0) rfl;have d1:=a3.soft 0;clear a3 hK)
  |(at_builtin;refine wpList_plain rfl λK hK=>c6.o.reps (el:=qP m) (k:=3) c3.o (by omega) (aI _ _) (heap_alloc_new ..) kK zh (by omega) λJ Q i6 b1 d0 h9=>hK _ _ ?_;have a6:=O (a8.o.drop b1 (D:=mE [(.slice o n p,m),(.slice G (n+1) N,m),(.slice I (n+2) P,m),(.slice J (n+3) Q,m)]) (λW a4=>by (obtain⟨g1,y,rfl⟩:=List.mem_map.1 a4;simp at y;rcases y with rfl|rfl|rfl|rfl<;>exact d0 _ (by simp))));have f7:=a6.o.cell (j:=0) rfl;have h4:=b1.lt;clear b1 d0 hK)
  |(at_builtin;refine wpList_plain rfl λK hK=>c5.o.reps (el:=qP m) (k:=2) c2.o (by omega) (aI _ _) (heap_alloc_new ..) kK zh (by omega) λI P i5 a2 c9 h8=>hK _ _ ?_;have c6:=O a2;have c3:=O c9;have e3:=a2.mc (j:=0) rfl;have e4:=a2.mc (j:=1) rfl;clear a2 c9 hK)
  |(at_builtin;refine wpList_plain rfl λK hK=>a8.o.reps (el:=qP m) (k:=1) c1.o (zr _) (aI _ _) (heap_alloc_new ..) kK zh (by omega) λG N i4 a1 b0 h7=>hK _ _ ?_;have c5:=O a1;have c2:=O b0;have e1:=a1.mc (j:=0) rfl;have e2:=a1.mc (j:=1) rfl;clear a1 b0 hK)
  |go_in)
 have e9:=O (q.o.mv [_]);have f0:=q.o.cell (j:=1) rfl;have x:=q.o.cell (j:=8) rfl;have h1:=q.o.lt;clear e5 d1 g2 g3 e1 e2 e3 e4 f7 q a6 a8 c5 c6 c1 c2 c3;generalize zt g0 (aQ a 0) (.slice L (Z b+4) R)=w5 at *;have d3:∀X j u,cQ w5 a j u->zn (w5.alloc X) (aQ a j)=U u:=λX j u=>Below.at' (aI w5 X) (zr _)
 have h0:=λX=>d3 X 1 _ f0
 have b2:=λX=>d3 X 8 _ x
 refine wp_region_held (S:=λw'=>cQ w' a 8 (iQ m)) (by kernel_rfl) ?_;change wpAnyH _ _ _ _ _ _ _ _ w5.drew;refine aGk (fuel:=6) (by kernel_rfl) (λ_ _ _ _ _ e=>e) x [(0,59,pQ a),(1,60,pQ a),(2,61,pQ a),(3,62,jZ a 1),(5,64,pQ a),(6,65,pQ a),(7,66,jZ a 8),(8,67,iQ m),(9,68,pQ a),(10,69,pQ a),(11,70,jZ a 8),(12,71,iQ m),(13,72,pQ a),(14,73,pQ a),(15,74,jZ a 8),(16,75,iQ m),(17,76,pQ a),(18,77,pQ a),(19,78,jZ a 8),(20,79,iQ m)] _ _ ?_ ?_
 .repeat (refine And.intro ⟨_,rfl,rfl,by kernel_rfl,by kernel_rfl,zi ⟨by rfl,λw' b3=>(by dsimp only at b3;go_simp)⟩⟩ ?_;simp only[z4,zp,zm,zl])
  trivial
 simp only[List.foldl,z4,zp,zm,zl];refine wpAnyH_all (rs:=[4,21]) (by kernel_rfl) (by simp) λi l=>?_
 have f2:i=4\/i=21:=by simpa using l
 rcases f2 with rfl|rfl;case' inl=>
  refine aD5 (d:=U 63) (v:=.slice z (Z b) A) (w':=w5.drew) rfl rfl rfl (by go_simp) ⟨x,?_⟩;simp only[z4,zp,zm,zl];refine wpAnyH_all (rs:=[21]) (by kernel_rfl) (by simp) λi l=>?_
  obtain rfl:i=21:=by simpa using l
  refine aD5 (d:=U 80) (v:=sQ w5.heap.size 4 4) (w':=w5.drew.alloc (.cells #[iQ m,iQ m,iQ m,iQ m] 3)) rfl rfl rfl (by go_simp) ⟨b2 _,?_⟩;simp only[z4,zp,zm,zl]
 case' inr=>
  refine aD5 (d:=U 80) (v:=sQ w5.heap.size 4 4) (w':=w5.drew.alloc (.cells #[iQ m,iQ m,iQ m,iQ m] 3)) rfl rfl rfl (by go_simp) ⟨b2 _,?_⟩;simp only[z4,zp,zm,zl];refine wpAnyH_all (rs:=[4]) (by kernel_rfl) (by simp) λi l=>?_
  obtain rfl:i=4:=by simpa using l
  refine aD5 (d:=U 63) (v:=.slice z (Z b) A) (w':=w5.drew.alloc (.cells #[iQ m,iQ m,iQ m,iQ m] 3)) rfl rfl rfl (by go_simp) ⟨b2 _,?_⟩;simp only[z4,zp,zm,zl]
 all_goals
  refine wpAnyH_all (rs:=[22]) (by kernel_rfl) (by simp) λi l=>?_
  obtain rfl:i=22:=by simpa using l
  refine wpOp_step rfl λg4 hK=>?_
  rw[aT (by rfl)];refine e9.out.vals (news:=[iQ m,iQ m,iQ m,iQ m]) ((aN (w1:=w5.drew) ⟨1,rfl⟩).alloc (zr _) _) (heap_alloc_new ..) mR yu (by omega) λr t d8 v i1=>hK _ _ ⟨v.cell (j:=8) rfl,?_⟩
  have e6:=v.cell (j:=8) rfl;have b0:=v.cell (j:=1) rfl;have d1:=v.soft 1;have d2:=v.store (j:=1) (v':=⟨.slice L (Z b+4) R,.slice r (Z b+4) t,b8,b9,b4,b5,b6,b7⟩) (u:=.slice r (Z b+4) t) (next':=m) rfl;have e7:=d2.cell (j:=8) rfl;change wpAnyH _ _ _ _ _ _ _ (z4 _ (U 81) (.slice r (Z b+4) t)) d8;simp only[z4,zp,zm,zl];refine aGk (fuel:=1) (by kernel_rfl) (λ_ _ _ _ _ e=>e) e6 [(23,82,pQ a),(24,83,jZ a 1)] _ _ ?_ ?_
  .repeat (refine And.intro ⟨_,rfl,rfl,by kernel_rfl,by kernel_rfl,zi ⟨by rfl,λw' b3=>(by dsimp only at b3;go_simp)⟩⟩ ?_;simp only[z4,zp,zm,zl])
   trivial
  simp only[List.foldl,z4,zp,zm,zl];refine wpAnyH_all (rs:=[25]) (by kernel_rfl) (by simp) λi l=>?_
  obtain rfl:i=25:=by simpa using l
  refine aWq (d:=z9) (w':=zt d8 (aQ a 1) (.slice r (Z b+4) t)) rfl rfl rfl (by go_simp) ⟨e7,?_⟩;refine wpAnyH_done (by kernel_rfl) ?_ _;go_end0;have a5:=d9.o;subst a5;rw[c4.o];refine⟨rfl,.slice L (Z b+4) R,.slice r (Z b+4) t,b++[(.slice o (Z c) p,m),(.slice G (Z c+1) N,m),(.slice I (Z c+2) P,m),(.slice J (Z c+3) Q,m)],by simp,?_⟩;have e8:=(d2.mb [_]).re (M':=mE (b++[(.slice o (Z c) p,m),(.slice G (Z c+1) N,m),(.slice I (Z c+2) P,m),(.slice J (Z c+3) Q,m)])++F) (.refl _) (λg1 y=>by simp[mE]at y ⊢;grind);simpa[rN,rI]using e8
abbrev qQ(a:Nat):List Y:=[.bool zd,sQ a 1 1]
structure jJ where
 c:Y
 one:Y
 two:Y
 ga:Nat
 m:Int
def jJ.vals(a:jJ):List Y:=[a.c,a.one,a.two]
def jJ.mk3(a:jJ):List jT:=⟨sQ a.ga 1 1,52,[.string ⟨#[61]⟩,iQ a.m]⟩::a.vals.map λb=>⟨b,55,qQ a.ga⟩
def mF(a:List jJ):List jT:=a.flatMap jJ.mk3
abbrev rX(b:Y)(a:List jJ):fV:=⟨36,1,b,Z a*3,a.flatMap jJ.vals⟩
def rQ(b:List (Lt×Y)):List fV:=b.map λa=>⟨52,2,a.2,Z a.1.2,aV a.1.2⟩
theorem aM4:(Tryz.prog.info? 55).map (λa=>(a.zero,a.size,a.bytes))=U (U (.agg #[.bool zg,nQ]),2,32):=by kernel_rfl
theorem aWt:(Tryz.prog.info? 36).map (λa=>(a.zero,a.size,a.bytes))=U (U (nQ),1,24):=by kernel_rfl
theorem aWu{a8:zu}{x:Nat}{v:Bx}{c:Int}{G:List fV}{F:List jT}{o:List (Y×Int)}{b:List jJ}{q:Y}{a:List (Lt×Y)}(a0:bW a8 B x H v c (rN v.n o::rI v.m o::rX v.x b::(rQ a++⟨55,2,q,Z a,bH a⟩::G)) (mE o++(mF b++F)) w)(b1:Z a<=1000/\∀f0∈a,Z f0.1.2<=1000000)(g3:Z o<=8000000000)(g4:Z b<=1000000000)(c3:∀I∈b,∃d n q,I.one=.slice d (n+1) q)(a2:-8000000000<=c/\c<=0):Calls zo 25 #[pQ x,q] w λe w'=>e=.returned (.tuple #[])/\∃d i L p P,Z p=Z o+4*Z a/\Z P=Z b+1/\(∀I∈P,∃d n q,I.one=.slice d (n+1) q)/\bW a8 B x H {v with n:=d,m:=i,x:=L} (c-Z a-1) (rN d p::rI i p::rX L P::G) (mE p++(mF P++F)) w':=by
 obtain⟨c9,c8,d0,a7,a3,a4,a5,a6⟩:=v;have c7:=a0.perm (R':=rN c9 o::rI c8 o::(rQ a++rX d0 b::⟨55,2,q,Z a,bH a⟩::G)) (((List.perm_middle.symm).cons _).cons _);obtain⟨r,t,rfl⟩:=aZ (a0.row (V:=q) (zs _ (zs _ (zs _ (List.mem_append.2 (zj (zq ..)))))));obtain⟨M,N,rfl⟩:=aZ (a0.row (V:=d0) (zs _ (zs _ (zq ..))));have b5:=O c7;have d5:=O c3;have d7:=O b1;have h2:=b1.1;clear a0 c7 c3 b1;go_enter Tryz.func25,Tryz.ntmps25;go_wp2;go_loopw[4] (λz wr=>∃(k:Nat) (d i:Y) (p:List (Y×Int)),k<=Z a/\z=iQ k/\Z p=Z o+4*k/\bW a8 B x H ⟨d,i,.slice M (Z b*3) N,a7,a3,a4,a5,a6⟩ (c-k) (rN d p::rI i p::(rQ (a.drop k)++rX (.slice M (Z b*3) N) b::⟨55,2,.slice r (Z a) t,Z a,bH a⟩::G)) (mE p++(mF b++F)) wr) (λz _=>Z a-(intOf z).toNat);exact⟨0,c9,c8,o,z2 _,rfl,rfl,by simpa using b5.o⟩;clear b5;obtain⟨k,d,i,E,e7,rfl,e8,l⟩:=hrel;by_cases c2:k<Z a
 .have y:rQ (a.drop k)=⟨52,2,a[k].2,a[k].1.2.length,aV a[k].1.2⟩::rQ (a.drop (k+1)):=by
   rw[zc c2];rfl
  rw[y]at l;have b2:=l.row (V:=.slice r (Z a) t) (zs _ (zs _ (List.mem_append.2 (zj (zs _ (zq ..))))));obtain⟨e5,f6,c6⟩:=mJ b2 (by omega);simp at c6;obtain⟨rfl,rfl⟩:=c6;have e3:zn wr (aQ e5 (k*2+1))=U a[k].2:=by rw[b2.cellAt _ (by omega),(yZ a k c2).2]
  have c1:=l.row (V:=a[k].2) (zs _ (zs _ (zq ..)));have b3:=O (aWs (l.mv [_,_]) (d7.o.2 a[k] (List.getElem_mem _)) (by omega) (by omega));obtain⟨f2,f3,c4⟩:=aZ c1;rw[c4]at e3 b3;clear l b2 c1 c4 y;go_wp2_with(first
   |(go_at_call 47;refine(aD b3).mono ?_;rintro e f1 ⟨rfl,A,e1,d1,g9,C⟩;have d9:=O C;clear C)
   |go_in)
  exact⟨⟨k+1,A,e1,d1,by omega,by go_num,by omega,by rw[show c-((k+1:Nat):Int)=c-k-1 by omega];exact d9.o⟩,by simp[intOf];omega⟩
 have b0:k=Z a:=by omega
 subst b0;rw[List.drop_length]at l;have e2:=l.cell (j:=8) rfl;have e4:=l.soft 8;have g5:=l.lt;have c5:(zt wr (aQ x 8) (iQ (c-Z a-1))).heap.size=wr.heap.size:=by simp[zt]
 have a9:=O ((((l.mv [_,_,_]).store (j:=8) (u:=iQ (c-Z a-1)) (v':=⟨d,i,.slice M (Z b*3) N,a7,a3,a4,a5,a6⟩) (next':=c-Z a-1) rfl).boxed 52 [.string ⟨#[61]⟩,iQ (c-Z a-1)]).boxed 55 (qQ wr.heap.size));rw[World.size_alloc,c5]at a9;clear l c5;go_upto_region 6 with(fail);have h1:-10000000000<=c-(Z a:Int)-1/\c-(Z a:Int)-1<=0:=by omega
 clear e2 e4;generalize ((zt wr (aQ x 8) (iQ (c-(Z a:Int)-1))).alloc (.cells [.string ⟨#[61]⟩,iQ (c-(Z a:Int)-1)].toArray 52)).alloc (.cells (qQ wr.heap.size).toArray 55)=W2 at *;generalize hMM:c-(Z a:Int)-1=m at *
 have d4:=O hMM;clear hMM;generalize wr.heap.size=ga at *;go_wp2;go_loopw[6] (λz wr=>∃k:Nat,k<=Z a/\z=iQ k/\bW a8 B x H ⟨d,i,.slice M (Z b*3) N,a7,a3,a4,a5,a6⟩ m (⟨55,2,.slice r (Z a) t,Z a,rep k (qQ ga)++(bH a).drop (k*2)⟩::rN d E::rI i E::rX (.slice M (Z b*3) N) b::G) (⟨sQ (ga+1) 1 1,55,qQ ga⟩::⟨sQ ga 1 1,52,[.string ⟨#[61]⟩,iQ m]⟩::(mE E++(mF b++F))) wr) (λz _=>Z a-(intOf z).toNat);exact⟨0,z2 _,rfl,by simpa[rep]using a9.o⟩;clear a9;obtain⟨k,e7,rfl,f⟩:=hrel;have i1:=f.mc (j:=0) rfl;have i2:=f.mc (j:=1) rfl;by_cases e9:k<Z a
 .have h0:(k:Int)<(Z a:Int):=by omega
  obtain⟨g,q,e⟩:=mJ f.hd (yw (z2 _) e9);simp at e;obtain⟨rfl,rfl⟩:=e;obtain⟨h7,f9,g1⟩:=sF f.hd (i:=k*2) (by omega);obtain⟨h8,g0,g2⟩:=sF f.hd (i:=k*2+1) (by omega);have d6:=O (f.put2 (by rw[aAv];omega));clear f;go_wp2;exact⟨⟨k+1,by omega,by go_num,d6.o⟩,by simp[intOf];omega⟩
 have b0:k=Z a:=by omega
 subst b0;rw[z6 (by rw[aAv];omega),List.append_nil]at f;have d2:aE (∀W∈[Value.slice r (Z a) t],fO 55 (qQ ga) wr W/\dM wr (.slice r (Z a) t) W):=O λW y=>by
  simp at y;subst y;exact⟨fO.of_own (el:=qQ ga) f.hd (by omega),dM.refl _ _⟩
 have g6:=f.lt;have b6:=O f;clear f;go_wp2_with(first
  |(at_builtin;refine wpList_plain rfl λK hK=>b4.o.vals (news:=[.slice r (Z a) t,.slice Q (Z a+1) R,.slice A (Z a+2) S]) (aI _ _) (heap_alloc_new ..) aWt Tryz.underlying25 (by omega) λb7 b8 i0 a1 h6=>hK _ _ ?_;have e0:=O (a1.store (j:=2) (v':=⟨d,i,.slice b7 (Z b*3+3) b8,a7,a3,a4,a5,a6⟩) (next':=m) rfl);have f7:=a1.cell (j:=2) rfl;have f8:=a1.soft 2;clear a1 hK)
  |(at_builtin;refine wpList_plain rfl λK hK=>d8.o.reps (el:=qQ ga) (k:=2) d3.o (by omega) (aI _ _) (heap_alloc_new ..) aM4 z3 (by omega) λA S f1 C c0 h5=>hK _ _ ?_;have b4:=O ((b6.o.drop C (D:=[.slice r (Z a) t,.slice Q (Z a+1) R,.slice A (Z a+2) S].map λv=>⟨v,55,qQ ga⟩) (λW y=>by (obtain⟨L,a2,rfl⟩:=List.mem_map.1 y;exact c0 L a2))).mv [_,_]);have h3:=b4.o.cell (j:=2) rfl;have g8:=C.lt;clear C c0 hK)
  |(at_builtin;refine wpList_plain rfl λK hK=>b6.o.reps (el:=qQ ga) (k:=1) d2.o (zr _) (aI _ _) (heap_alloc_new ..) aM4 z3 (by omega) λQ R h9 J b9 h4=>hK _ _ ?_;have d8:=O J;have d3:=O b9;have f4:=J.mc (j:=0) rfl;have f5:=J.mc (j:=1) rfl;have g7:=J.lt;clear J b9 hK)
  |go_in)
 go_end0;rw[d4.o];refine⟨rfl,d,i,.slice b7 (Z b*3+3) b8,E,e8,b++[⟨.slice r (Z a) t,.slice Q (Z a+1) R,.slice A (Z a+2) S,ga,m⟩],by simp,λI hf=>?_,?_⟩
 .rcases List.mem_append.1 hf with hf|hf
  .exact d5.o I hf
  simp at hf;subst hf;exact⟨_,_,_,rfl⟩
 have e6:=(e0.o.mb [_,_]).re (M':=mE E++(mF (b++[⟨.slice r (Z a) t,.slice Q (Z a+1) R,.slice A (Z a+2) S,ga,m⟩])++F)) (.refl _) (λL a2=>by simp[mF,jJ.mk3,jJ.vals]at a2 ⊢;grind);simpa[rX,jJ.vals,Nat.add_mul]using e6
