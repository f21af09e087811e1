import Derived.Test.YtenobhkjiebhaaaGreatDoorXCloS18
open Bool renaming true->zw,false->zu,and_eq_true->yo
open List renaming length->Z,getElem_mem->zr,mem_cons_of_mem->zl,getElem?_eq_getElem->zi,perm_append_comm_assoc->zg,flatMap_cons->zf,getElem_of_mem->zd,mem_append->zc,nodup_append->zb,mem_cons_self->z2,length_append->z4,getElem?_append_left->z5,getElem?_eq_some_iff->z6,map_cons->z7,length_filterMap_le->z9,getElem_map->yz,drop_eq_nil_of_le->yy,length_map->yx,mem_of_getElem?->yw,mem_cons->yv,filterMap_map->yu,map_map->yq,length_cons->yp,all_eq_true->yn,mem_flatMap->yl
open Nat renaming zero_le->zo,le_refl->zk,le_trans->za
open Option renaming some->zy,none->zt
open Or renaming inr->zp,inl->zj
open Prod renaming snd->zq,fst->zn
namespace Go.Proofs.YtenobhkjiebhaaaGreatDoor
open Go renaming Value->U,World->zs
open _root_.Go.Proofs.Tryz renaming underlying24->z0,prog->z1,results18->z3,ntmps32->yt,underlying39->ys,ntmps16->yr,func32->yk,func16->yj
open Value renaming ownBlock->zh
open World renaming cell?->zv,setCell->zm,alloc_heap_new->ze,grownBy->z8
open Go.RowKit Go.Shelf Go.WideMaps
set_option maxHeartbeats 16000000
set_option maxRecDepth 100000
variable{yes:Bool}{e next:Int}{V:Int->Int->Prop}{rest:List (Int×Lt)}{A D E:List (U×Int)}{d out:List Lt}{H ks os:List Nat}{l:List Nd}{M0:List Tg}{R:List fV}{F:List jJ}{M:List jT}{B lim n:Nat}{w:zs}{v:U}
theorem aK6:∀(l:List Nd) (a:List Nd×List Int),∃b,(l.foldl fH a).2=a.2++b
 |[],a=>⟨[],by simp⟩
 |n::l,a=>by
  obtain⟨b,c⟩:=aK6 l (fH a n);grind[fH]
theorem kI.more{c f:List Int}{a b:Int}(g:kI c a b):kI (c++f) a b:=by grind[z5,z6,kI]
theorem aTq:∀(b c:List Lt) (a:List Lt×List Int),a.2.Nodup->aU (kH (kI a.2)) c a.1->(b.foldl iZ a).2.Nodup/\aU (kH (kI (b.foldl iZ a).2)) (c++b) (b.foldl iZ a).1:=by
 intro b;induction b with
 |nil=>intro c a f g;simpa using⟨f,g⟩
 |cons x b ih=>
  intro c a f g;rw[List.foldl_cons];have j:=bIl x.2 [] ([],a.2) f aU.nil;obtain⟨m,i⟩:=aK6 x.2 ([],a.2);simp only at i;have k:(iZ a x).2.Nodup/\aU (kH (kI (iZ a x).2)) (c++[x]) (iZ a x).1:=by grind[aU.mono,aU.snoc,kI,kI.more,aSm,eF,kH,gK,iZ,fH]
  grind
theorem aCo(a:List Lt):(dY (eG a)).2.Nodup/\aU (kH (kI (dY (eG a)).2)) (eG a) (bB a):=aTq (eG a) [] ([],[]) (by simp) aU.nil
theorem aTr:∀(a b:List Lt),b.Nodup->(a.foldl jH b).Nodup:=by
 intro a;induction a with
 |nil=>intro b c;exact c
 |cons x a ih=>
  grind[jH,aAu,zb]
theorem aTs:∀(a b:List Lt),(b++a).Nodup->a.foldl jH b=b++a:=by
 intro a;induction a with
 |nil=>intro b _;simp
 |cons x a ih=>
  grind[jH,aAu,zb]
theorem aTt(a:List Lt):eG (eG a)=eG a:=by grind[eG,aTs,aTr]
theorem aK7(a:List Lt):bB (bB a)=bB a:=by grind[kI,kI.pairs,eG,aTt,dY,aF5,aCo,kH,bB]
theorem aK8{n a:Nd}(b:gK V n a):bI n=bI a/\aK n=aK a:=by grind[gK,aK,bI]
theorem aK9{f:List Nd}(b:aU (gK V) l f):∀a,lJ l a->lJ f a:=by
 induction b with
 |nil=>intro a b;exact b
 |@cons n n' l f h1 h2 ih=>
  intro a c;cases a with
  |zero=>have:=c.2;simp at this
  |succ a=>
   have g:=ih (a+bI n) ⟨by have:=c.1;simpa[eY]using this,by have:=c.2;simp[aM]at this;omega⟩;grind[aM,eY,aK8,yp,gK,lJ,aK,bI]
theorem wF{c f:Type}{R:c->f->Prop}{l:List c}{b:List f}(i:aU R l b):∀a∈b,∃g∈l,R g a:=by
 induction i with
 |nil=>intro a j;simp at j
 |cons h1 _ ih=>
  grind
theorem aKa{a:List Lt}(b:aU (kH V) a d):aY a=aY d:=by
 induction b with
 |nil=>rfl
 |cons h1 _ ih=>
  have:=h1.2.length;simp[aY]at ih ⊢;omega
theorem aKb{a:List Nd}(b:aU (gK V) l a)(d:Nd):aK (l.headD d)=aK (a.headD d):=by
 cases b with
 |nil=>rfl
 |cons q _=>exact(aK8 q).2
theorem aTu{a:List Lt}{m:List Pl}(s:∀c∈a,tH m c.2)(t:∀k∈m,k.2.2.1<=5)(b:bN (bB a)=zw):bD (bB a)=true:=by
 obtain⟨Q,p⟩:=aCo a;have S:aY (bB a)<=60:=by unfold bN at b;simp at b;exact b.2
 have W:(dY (eG a)).2.length<=60:=by have:=(sD (eG a)).2;rw[aKa p]at this;omega
 unfold bD;rw[b,aK7,Bool.true_and,yo,yn];refine⟨λf q=>?_,by simp⟩;obtain⟨c,J,_,i⟩:=wF p f q;have g:=s c ((sC a).2.2 c J);have G:∀j∈f.2,dQ j=true:=by
  intro j y;obtain⟨n,z,C⟩:=wF i j y;unfold dQ;rcases C with⟨_,r,_,X,L,a0⟩|⟨o,rfl⟩
  .rw[aT r];have:=(eE L);simp;omega
  obtain⟨N,a1,k,P,a2⟩:=g.nm n z o;have:=t k P;rw[aS (by simp[o])];simp[N];omega
 have I:=aJi _ 1 (aK9 i 1 g.tm) G;have T:=xW (bB a) f q;unfold iP lL;have u:=g.hd;have x:aK (f.2.headD (⟨#[]⟩,0))=false:=by rw[<-aKb i];exact u
 rw[I,x];simp;omega
theorem aFn{j:ByteArray}{out:List (List Lt)}{p:Int}(a:iS j out p 0):∀k∈out,bD k=true:=by
 rcases a with⟨_,_,_,a⟩|⟨_,a⟩
 .cases a
 cases b:sV j with
 |error i=>rw[b]at a;have:=a.2.2;omega
 |ok o=>
  obtain⟨C,G⟩:=o;rw[b]at a;obtain⟨o,g,⟨_,_,_,a⟩|⟨I,a⟩⟩:=a
  .omega
  rcases a with⟨_,_,_,_,_,_,a⟩|⟨s,rfl,_,_⟩
  .omega
  obtain⟨q,r⟩:=bIy (bIu j _ _) _ _ _ _ _ b (λi b=>by simp at b) (λi b=>by simp at b);have x:∀f c,¬lQ C.pz f c:=by
   rcases g with⟨_,g⟩|⟨f,c,_,_,e⟩
   .exact g
   have:=q _ (zr c);omega
  intro k t;obtain⟨i,m,rfl⟩:=List.mem_map.1 t;obtain⟨z,u,rfl⟩:=zd m;refine aTu (r _ m) (λJ y=>?_) ?_
  .obtain⟨f,c,rfl⟩:=zd y;have:=x f c;unfold lQ at this;rw[not_or]at this;omega
  have:=s z u;unfold lS at this;rw[not_or]at this;simpa using this.2
theorem aKc{a:List (List Nd)}:∀c∈dS rest a,c.2∈a:=by
 intro c b;unfold dS at b;induction rest generalizing a with
 |nil=>simp at b
 |cons r rest ih=>
  cases a with
  |nil=>simp at b
  |cons l a=>
   grind[zl,List.zipWith_cons_cons]
theorem aTv{ls:List (List Nd)}:Z (dS rest ls)<=Z rest:=by unfold dS;rw[List.length_zipWith];omega
theorem aTw(a:List Lt):Z (bB a)<=Z a:=by grind[eG,sC,dY,sD,aY,bB]
theorem aTx{j k:Nat}(m:fD M0 j k rest out yes e)(u:∀c∈M0++aL rest,c.2.1.size<=80)(I:Z rest<=100):nI out:=by
 have i:nI []:=⟨by simp,λf a=>by simp at a⟩;rcases m with⟨_,rfl,_⟩|⟨_,N,ls,_,s,⟨_,rfl,_⟩|⟨G,rfl,_,_⟩⟩
 .exact i
 .exact i
 refine⟨by have:=aTw (dS rest ls);have:=aTv (rest:=rest) (ls:=ls);omega,λf a=>⟨by have:=xW _ f a;omega,λJ p=>?_⟩⟩;obtain⟨g,z,_,q⟩:=wF (aCo (dS rest ls)).2 f a;obtain⟨n,x,r⟩:=wF q _ (zr p);have C:=aKc g ((sC _).2.2 g z);obtain⟨L,_,o⟩:=wF s g.2 C;rcases r with⟨_,b,_⟩|⟨b,e⟩
 .rw[aRs b];decide
 rw[<-e];have t:=(aSk o).2 n x b;obtain⟨c,y,rfl⟩:=List.mem_map.1 t;exact u c y
theorem aTy{a:List Lt}(k:∀b∈a,lJ b.2 1/\(∀n∈b.2,aK n=zu->dQ n=zw)/\aK (b.2.headD (⟨#[]⟩,0))=zu)(c:bN (bB a)=zw):bD (bB a)=true:=by
 obtain⟨x,m⟩:=aCo a;have y:aY (bB a)<=60:=by unfold bN at c;simp at c;exact c.2
 have J:(dY (eG a)).2.length<=60:=by grind[eG,aKa,sD]
 unfold bD;rw[c,aK7,Bool.true_and,yo,yn];refine⟨λg j=>?_,by simp⟩;obtain⟨b,s,_,i⟩:=wF m g j;obtain⟨r,I,z⟩:=k b ((sC a).2.2 b s);have q:∀f∈g.2,dQ f=true:=by intro f p;obtain⟨n,G,o⟩:=wF i f p;rcases o with⟨_,u,_,N,P,Q⟩|⟨t,rfl⟩;all_goals grind[dQ,z6]
 have L:=aJi _ 1 (aK9 i 1 r) q;have C:=xW (bB a) g j;grind[iP,lL,aKb,aK]
theorem aTz{i j:Nat}(k:fD M0 i j rest out yes e)(p:∀c∈M0++aL rest,dQ c.2=zw)(t:∀a∈bO (Z M0) rest,(aF ((M0++aL rest).map zq)).named a)(m:bN out=zw):bD out=true:=by
 have g:bD []=true:=by kernel_rfl
 rcases k with⟨_,rfl,_⟩|⟨I,L,J,_,o,⟨_,rfl,_⟩|⟨G,rfl,_,_⟩⟩
 .exact g
 .exact g
 refine aTy (λf y=>?_) m;obtain⟨a,s,b⟩:=wF o f.2 (aKc f y);obtain⟨z,C⟩:=aSk b;refine⟨z,λn q x=>?_,?_⟩
 .obtain⟨c,u,rfl⟩:=List.mem_map.1 (C n q x);exact p c u
 have r:=t a s;generalize f.2=l at b;cases b with
 |var h1 _=>exact absurd r (h1 a (Cl.refl a))
 |name h1 h2 _=>exact h2
theorem aKd:∀(rest:List (Int×Lt)) (a:List Tg),(∀r∈rest,r.2.2≠[])->∀b∈bO (Z a) rest,∃r∈rest,((a++aL rest).map zq)[b]?=r.2.2[0]?
 |[],a,_,b,hp=>by simp[bO]at hp
 |r::rest,a,h,b,hp=>by
  have e:a++aL (r::rest)=(a++r.2.2.map λn=>(r.1,n))++aL rest:=by simp[aL]
  simp only[bO,yv]at hp;rcases hp with rfl|hp
  .refine⟨r,by simp,?_⟩;have c:=h r (by simp);cases hr:r.2.2 with
   |nil=>exact absurd hr c
   |cons n l=>
    simp[aL,hr]
  have i:Z a+Z r.2.2=Z (a++r.2.2.map λn=>(r.1,n)):=by simp
  rw[i]at hp;obtain⟨k,f,g⟩:=aKd rest _ (λm j=>h m (by simp[j])) b hp;exact⟨k,by simp[f],by rw[e];exact g⟩
theorem aKe{j k:Nat}(f:fD M0 j k rest out yes e)(t:∀b∈M0,dQ b.2=zw)(q:∀a∈rest,iP a.2.2=zw)(o:Z rest<=100):nI out/\(bN out=zw->bD out=zw):=by
 have m:∀a∈rest,aP a.2.2 1=zw/\aK (a.2.2.headD (⟨#[]⟩,0))=false:=by intro a c;have:=q a c;unfold iP lL at this;simp_all
 have i:∀b∈M0++aL rest,dQ b.2=true:=by grind[aA9,fD,Gr.named,iP,bN,bD,dQ,aF,bO,aL,aP,aK]
 have g:∀a∈rest,a.2.2≠[]:=by grind[aP]
 refine⟨aTx f (λb r=>aH0 (i b r)) o,aTz f i λs p=>?_⟩;obtain⟨a,c,x⟩:=aKd rest M0 g s p;have u:=(m a c).2;cases hr2:a.2.2 with
 |nil=>exact absurd hr2 (g a c)
 |cons n l=>
  grind[iF]
def aFo(c d:List Lt)(f g:Int)(a b:Nat):Prop:=∃(i:a<Z c) (j:b<Z d),f=a/\g=b/\c[a].1≠d[b].1
def jA(a d:List Lt)(f g:Int)(out:List Lt)(yes:Bool)(e:Int):Prop:=
 (¬(bD a=zw/\bD d=zw)/\out=[]/\yes=zu/\e=5)\/
 (bD a=zw/\bD d=zw/\(((¬∃b c,aFo a d f g b c)/\out=[]/\yes=zu/\e=6)\/
  ∃b c,aFo a d f g b c/\fD (aW 0 (a.getD b default).2++aW 1 (d.getD c default).2) 0 (a.getD b default).2.length (bY 0 [(a,b),(d,c)]) out yes e))
def aFp(c:List Lt)(f g:Int)(a b:Nat):Prop:=∃(i:a<Z c) (j:b<Z c),f=a/\g=b/\a<b/\c[a].1=c[b].1
def kL(a:List Lt)(f g:Int)(out:List Lt)(yes:Bool)(e:Int):Prop:=
 (bD a=zu/\out=[]/\yes=zu/\e=5)\/
 (bD a=zw/\(((¬∃b c,aFp a f g b c)/\out=[]/\yes=zu/\e=6)\/
  ∃b c,aFp a f g b c/\fD (aW 0 (a.getD b default).2++aW 0 (a.getD c default).2) 0 (a.getD b default).2.length (bY 0 [(a,c)]) out yes e))
theorem jA.one{a:List Lt}{c j:Int}{f g:List Lt}{i k:Bool}{b:Int}(m:jA a d c j f i e)(o:jA a d c j g k b):f=g/\i=k/\e=b:=by grind[aEq,fD,aFo,jA,bD,bY]
theorem kL.one{a:List Lt}{c j:Int}{f g:List Lt}{i k:Bool}{b:Int}(m:kL a c j f i e)(o:kL a c j g k b):f=g/\i=k/\e=b:=by grind[aEq,fD,aFp,kL,bD,bY]
def SpQ(c:List Lt->Bool->Int->Prop)(w:zs)(e:Ending)(b:zs):Prop:=
 ∃v out yes a,e=.returned (.tuple #[v,.bool yes,iQ a])/\c out yes a/\bP w.heap.size b v out/\Z out<=100/\aB w b
theorem aKf(f:Option Addr)(n g:Nat)(a:Int)(w:zs):Calls z1 32 #[.slice f n g,iQ a] w λe i=>e=.returned (.bool (decide (0<=a/\a<n)))/\i=w:=by
 by_cases b:0<=a
 .by_cases c:a<n
  .have:decide (0<=a/\a<n)=true:=by simp[b,c]
   rw[this];go_enter yk,yt;go_wp2;go_ret;exact⟨rfl,rfl⟩
  have:decide (0<=a/\a<n)=false:=by simp[c]
  rw[this];go_enter yk,yt;go_wp2;go_ret;exact⟨rfl,rfl⟩
 have:decide (0<=a/\a<n)=false:=by simp[b]
 rw[this];go_enter yk,yt;go_wp2;go_ret;exact⟨rfl,rfl⟩
theorem tN{a:List Lt}(b:bD a=zw):Z a<=8/\∀l∈a,iP l.2=true:=by unfold bD bN at b;grind
theorem aU0(a:iP l=zw):∀n∈l,dQ n=true:=by unfold iP lL at a;simp at a;exact aA9 a.1.1
theorem aCp{a:Int}(c:iP l=zw):∀b∈aW a l,dQ b.2=true:=by grind[aU0]
theorem aCq{a:List Lt}{b:Nat}(c:b<Z a):a.getD b default∈a:=by grind
theorem jA.good{c:List Lt}{x y:Int}(b:jA c d x y out yes e):nI out/\(bN out=zw->bD out=zw):=by
 have g:nI []/\(bN []=zw->bD []=zw):=⟨⟨by simp,λJ u=>by simp at u⟩,λ_=>by kernel_rfl⟩;rcases b with⟨_,rfl,_⟩|⟨p,q,⟨_,rfl,_⟩|⟨m,o,⟨r,s,_⟩,b⟩⟩
 .exact g
 .exact g
 obtain⟨G,i⟩:=tN p;obtain⟨I,j⟩:=tN q;refine aKe b (λk ht=>?_) (λC t=>?_) ?_
 .rcases List.mem_append.1 ht with ht|ht
  .exact aCp (i _ (aCq r)) k ht
  exact aCp (j _ (aCq s)) k ht
 .obtain⟨z,a,f⟩:=xM _ _ C t;simp at a;rcases a with rfl|rfl
  .exact i _ f
  exact j _ f
 have:=aEy [(c,m),(d,o)] 0 (λz a=>by simp at a;rcases a with rfl|rfl<;>assumption);simp at this;omega
theorem kL.good{f:List Lt}{s t:Int}(b:kL f s t out yes e):nI out/\(bN out=zw->bD out=zw):=by
 have g:nI []/\(bN []=zw->bD []=zw):=⟨⟨by simp,λC r=>by simp at r⟩,λ_=>by kernel_rfl⟩;rcases b with⟨_,rfl,_⟩|⟨k,⟨_,rfl,_⟩|⟨y,j,⟨m,o,_⟩,b⟩⟩
 .exact g
 .exact g
 obtain⟨z,c⟩:=tN k;refine aKe b (λi ht=>?_) (λx q=>?_) ?_
 .rcases List.mem_append.1 ht with ht|ht
  .exact aCp (c _ (aCq m)) i ht
  exact aCp (c _ (aCq o)) i ht
 .obtain⟨u,a,p⟩:=xM _ _ x q;simp at a;subst a;exact c _ p
 have:=aEy [(f,j)] 0 (λu a=>by simp at a;subst a;assumption);simp at this;omega
structure Rs where
 r:Int
 a:Int
 b:Int
 i:Int
 j:Int
 c:List Lt
def uM(a:List Rs)(b:Int):List Lt:=((a[b.toNat]?).map Rs.c).getD []
theorem aFr{a:List Rs}{b:Nat}(c:b<Z a):uM a (b:Int)=a[b].c:=by grind[uM,Int.toNat_natCast,zi]
def aCr(b:List (List Lt))(a:Rs):Prop:=(0<=a.a/\a.a<Z b)/\a.b=0/\a.i=0/\a.j=0
def aFs(f:List (List Lt))(c:List Rs)(n:Nat)(a:Rs)(out:List Lt)(b:Bool):Prop:=
 (a.r=1/\((aCr f a/\f[a.a.toNat]?=zy out/\b=zw)\/(¬aCr f a/\out=[]/\b=zu)))\/
 (a.r=2/\(((0<=a.a/\a.a<n)/\(0<=a.b/\a.b<n)/\∃e,jA (uM c a.a) (uM c a.b) a.i a.j out b e)\/(¬((0<=a.a/\a.a<n)/\(0<=a.b/\a.b<n))/\out=[]/\b=zu)))\/
 (a.r=3/\(((0<=a.a/\a.a<n)/\a.b=0/\∃e,kL (uM c a.a) a.i a.j out b e)\/(¬((0<=a.a/\a.a<n)/\a.b=0)/\out=[]/\b=zu)))\/
 ((a.r≠1/\a.r≠2/\a.r≠3)/\out=[]/\b=zu)
def zA(c:List (List Lt))(b:List Rs)(n:Nat)(a:Rs):Prop:=aFs c b n a a.c zw/\bN a.c=zw
structure zB(w:zs)(ad:Option Addr)(L:List Rs):Prop where
 few:Z L<=2199023255552
 cell:∀k (h:k<Z L),∃b o ca cc,ad=zy (aQ b o)/\zv w (aQ b (o+k*6))=zy (iQ L[k].r)/\zv w (aQ b (o+k*6+1))=zy (iQ L[k].a)/\zv w (aQ b (o+k*6+2))=zy (iQ L[k].b)/\zv w (aQ b (o+k*6+3))=zy (iQ L[k].i)/\zv w (aQ b (o+k*6+4))=zy (iQ L[k].j)/\zv w (aQ b (o+k*6+5))=zy (.slice ca L[k].c.length cc)/\bU w ca L[k].c
theorem zB.below{w1:zs}{b:Option Addr}{l:List Rs}(c:zB w b l){B:Nat}(k:Below B w w1)(a:w.heap.size<=B):zB w1 b l:=
 ⟨c.few,λj y=>by
  obtain⟨f,o,s,t,u,g,i,m,p,q,r,x⟩:=c.cell j y;exact⟨f,o,s,t,u,Below.at' k a g,Below.at' k a i,Below.at' k a m,Below.at' k a p,Below.at' k a q,Below.at' k a r,x.below k a⟩⟩
structure zC(w:zs)(ad:Option Addr)(P:List (List Lt)):Prop where
 few:Z P<=1000000
 cell:∀k (h:k<Z P),∃b ca cc,ad=zy (aQ b 0)/\zv w (aQ b k)=zy (.slice ca P[k].length cc)/\bU w ca P[k]
theorem zC.below{w1:zs}{a:Option Addr}{l:List (List Lt)}(b:zC w a l){B:Nat}(k:Below B w w1)(c:w.heap.size<=B):zC w1 a l:=
 ⟨b.few,λj q=>by
  obtain⟨f,g,i,m,o,p⟩:=b.cell j q;exact⟨f,g,i,m,Below.at' k c o,p.below k c⟩⟩
theorem aKg:∀(a:List (aJ×U)) (b c:Nat) (f:b<Z a),c<6->(gN a)[b*6+c]?=(lH a[b])[c]?
 |[],b,_,f,_=>by simp at f
 |x::a,0,c,_,hm=>by
  grind[lH,gN,z5]
 |x::a,b+1,c,f,hm=>by
  have:=aKg a b c (by simpa using f) hm;rw[show gN (x::a)=lH x++gN a from rfl,List.getElem?_append_right (by simp[lH];omega),show (b+1)*6+c-Z (lH x)=b*6+c by simp[lH];omega,this];simp
theorem iW.cells{W:zs}{b o:Nat}{a:List (aJ×U)}(i:iW B W (sQ b (Z a) o) a){k:Nat}(j:k<Z a):zv W (aQ b (k*6))=zy (iQ a[k].1.r)/\zv W (aQ b (k*6+1))=zy (iQ a[k].1.a)/\zv W (aQ b (k*6+2))=zy (iQ a[k].1.b)/\zv W (aQ b (k*6+3))=zy (iQ a[k].1.i)/\zv W (aQ b (k*6+4))=zy (iQ a[k].1.j)/\∃f g,zv W (aQ b (k*6+5))=zy (.slice f a[k].1.c.length g)/\bP B W (.slice f a[k].1.c.length g) a[k].1.c:=by
 have u:=aF0 a;have c:∀m,m<6->zv W (aQ b (k*6+m))=(lH a[k])[m]?:=λm r=>by
  rw[i.row.cellAt (k*6+m) (by omega),aKg a k m j r]
 obtain⟨t,s,f,g,e,_,p,q⟩:=i.cell j;cases e;exact⟨c 0 (by omega),c 1 (by omega),c 2 (by omega),c 3 (by omega),c 4 (by omega),f,g,p,q⟩
def pA(a:aJ):Rs:=⟨a.r,a.a,a.b,a.i,a.j,a.c⟩
theorem iW.sts{f:zs}{i:Option Addr}{b:Nat}{a:List (aJ×U)}(c:iW B f (.slice i n b) a)(S:∀p∈a,bD p.1.c=zw)(T:Z a<=1000):n=Z a/\Z a<=b/\zB f i ((a.map zn).map pA):=by
 have q:n=Z a/\Z a<=b:=by
  obtain⟨_,⟨e,N⟩|⟨P,j,L,e,_,_,m,_⟩⟩:=c.row
  .cases e;omega
  cases e;exact⟨rfl,m⟩
 obtain⟨rfl,k⟩:=q;refine⟨rfl,k,⟨by simp;omega,λr o=>?_⟩⟩;have g:r<Z a:=by simpa using o
 obtain⟨Q,u,s,j,e,-⟩:=c.cell g;cases e;obtain⟨x,y,z,C,G,t,J,I,W⟩:=c.cells g;grind[bP.lits,mB,pA,zr]
theorem aCs(w:zs)(b c f g i:U):∃a,w.alloc (.cells #[b,c,f,g,i] 41)=a/\aB w a/\a.heap.size=w.heap.size+1/\cQ a w.heap.size 0 b/\cQ a w.heap.size 1 c/\cQ a w.heap.size 2 f/\cQ a w.heap.size 3 g/\cQ a w.heap.size 4 i:=by have j:=ze w (.cells #[b,c,f,g,i] 41);refine⟨_,rfl,aI w _,by simp,?_⟩;simp_all
theorem aKh:(Tryz.prog.info? 48).map (λa=>(a.zero,a.size,a.bytes))=zy (zy (.agg (qO 0).toArray),6,64):=by kernel_rfl
theorem aU1:(Tryz.prog.info? 39).map (λa=>(a.zero,a.size,a.bytes))=zy (zy (nQ),1,24):=by kernel_rfl
theorem aU2:(Tryz.prog.info? 24).map (λa=>(a.zero,a.size,a.bytes))=zy (zy (nQ),1,24):=by kernel_rfl
def mA(A:List (U×Int)):List jT:=A.map λa=>⟨a.1,48,qO a.2⟩
def mD(D:List (U×Int)):List jT:=D.map λa=>⟨a.1,3,[iQ a.2]⟩
abbrev rS(v:U)(E:List (U×Int)):fV:=⟨39,1,v,Z E,E.map zn⟩
abbrev rK(v:U)(E:List (U×Int)):fV:=⟨24,1,v,Z E,E.map zn⟩
def rP(a:List (Lt×U)×U):List fV:=rQ a.1++[⟨55,2,a.2,Z a.1,bH a.1⟩]
abbrev sE(v:U)(ks:List Nat):fV:=⟨3,1,v,Z ks,ks.map λa=>iQ (a:Nat)⟩
def bR(v:Bx)(E A D:List (U×Int))(F:List jJ)(R:List fV):List fV:=rN v.n E::rI v.m E::rX v.x F::rS v.a A::rI v.b A::rK v.c D::rI v.d D::R
def bM(E A D:List (U×Int))(F:List jJ)(M:List jT):List jT:=mE E++(mF F++(mA A++(mD D++M)))
theorem aU3(a b c d f g i:fV)(R:List fV):(d::c::b::a::f::g::i::R).Perm (f::g::i::a::b::c::d::R):=
 (zg [d,c,b,a] [f,g,i] R).trans (((List.reverse_perm [a,b,c,d]).append_right R).append_left [f,g,i])
def aR(V a:U)(T:List (aJ×U))(ks:List Nat)(b:List (List (Lt×U)×U))(R:List fV):List fV:=b.flatMap rP++⟨48,6,V,Z T,gN T⟩::sE a ks::R
theorem aKi{c0:zs}{J:Nat}{v:Bx}{V f7:U}{a:List (aJ×U)}{p:List (List (Lt×U)×U)}{b8 b7:Nat}{b1:Bool}(d8:bW c0 B J H v next (aR V f7 a ks p (bR v E A D F R)) (bM E A D F M) w)(g5:p.map zq=a.map zq)(i6:∀i8∈p,Z i8.1<=8/\∀g7∈i8.1,Z g7.1.2<=60)(i3:∀d7∈F,∃q n d5,d7.one=.slice q (n+1) d5)(p0:Z a<=200)(p7:Z ks<=200)(o6:Z E<=1000000)(o8:Z F<=1000000)(o4:Z A<=1000000)(o5:Z D<=1000000)(a0:-1000000<=next/\next<=0):Calls z1 13 #[pQ J,mN b8 V f7 b7 b1] w λe m7=>e=.returned (.tuple #[])/\∃g8 f4 f2 f3 e1 g6,g8.y=v.y/\Z f4<=Z E+32*Z a/\Z e1=Z F+Z a/\Z f2=Z A+3/\Z f3=Z D+3/\(next-9*Z a-1<=g6/\g6<=0)/\(∀d7∈e1,∃q n d5,d7.one=.slice q (n+1) d5)/\bW c0 B J H g8 g6 (bR g8 f4 f2 f3 e1 R) (bM f4 f2 f3 e1 M) m7:=by
 have i1:Z p=Z a:=by simpa using congrArg Z g5
 obtain⟨e9,e8,f0,a1,m3,m4,m5,m6⟩:=v;unfold aR bR bM at d8;simp only at d8;have h2:=O d8;have c7:=λ(e:TypeId) (n2 n:Nat) (V:U) (n1:List U) hm=>aZ (d8.row (e:=e) (z:=n2) (n:=n) (V:=V) (xs:=n1) hm)
 obtain⟨g,f,rfl⟩:=c7 48 6 (Z a) V (gN a) (by simp);obtain⟨o,i,rfl⟩:=c7 3 1 (Z ks) f7 (ks.map λc=>iQ (c:Nat)) (by simp);obtain⟨S,W,rfl⟩:=c7 39 1 (Z A) m3 (A.map zn) (by simp);obtain⟨C,G,rfl⟩:=c7 3 1 (Z A) m4 (A.map λk=>iQ k.2) (by simp);obtain⟨t,x,rfl⟩:=c7 24 1 (Z D) m5 (D.map zn) (by simp);obtain⟨r,s,rfl⟩:=c7 3 1 (Z D) m6 (D.map λk=>iQ k.2) (by simp);have i4:(p.flatMap rP++⟨48,6,.slice g (Z a) f,Z a,gN a⟩::sE (.slice o (Z ks) i) ks::rN e9 E::rI e8 E::rX f0 F::rS (.slice S (Z A) W) A::rI (.slice C (Z A) G) A::rK (.slice t (Z D) x) D::rI (.slice r (Z D) s) D::R).Perm (rN e9 E::rI e8 E::rX f0 F::(p.flatMap rP++⟨48,6,.slice g (Z a) f,Z a,gN a⟩::sE (.slice o (Z ks) i) ks::rS (.slice S (Z A) W) A::rI (.slice C (Z A) G) A::rK (.slice t (Z D) x) D::rI (.slice r (Z D) s) D::R)):=by have e7:=(zg (p.flatMap rP++[⟨48,6,.slice g (Z a) f,Z a,gN a⟩,sE (.slice o (Z ks) i) ks]) [rN e9 E,rI e8 E,rX f0 F] (rS (.slice S (Z A) W) A::rI (.slice C (Z A) G) A::rK (.slice t (Z D) x) D::rI (.slice r (Z D) s) D::R));simpa using e7
 have h5:=O (((h2.o.perm i4).boxed 41 [iQ b8,.slice g (Z a) f,.slice o (Z ks) i,iQ b7,.bool b1]).re (M':=mE E++(mF F++(⟨sQ w.heap.size 1 1,41,[iQ b8,.slice g (Z a) f,.slice o (Z ks) i,iQ b7,.bool b1]⟩::(mA A++(mD D++M))))) (.refl _) (λk a0=>by simp only[zc,yv]at a0 ⊢;grind));have k0:=O i6;have k1:=O g5;have h4:=O i3;have h3:=O i1;clear d8 h2 c7 i4 i6 g5 i3 i1;unfold mN;go_enter Tryz.func13,Tryz.ntmps13;go_wp2;go_loopw[4] (λa6 wr=>∃(c:Nat) (q y k:U) (P:List (U×Int)) (a2:List jJ) (N:Int),c<=Z a/\a6=iQ c/\Z P<=Z E+32*c/\Z a2=Z F+c/\(∀d7∈a2,∃q n d5,d7.one=.slice q (n+1) d5)/\(next-9*c<=N/\N<=0)/\bW c0 B J H ⟨q,y,k,a1,.slice S (Z A) W,.slice C (Z A) G,.slice t (Z D) x,.slice r (Z D) s⟩ N (rN q P::rI y P::rX k a2::((p.drop c).flatMap rP++⟨48,6,.slice g (Z a) f,Z a,gN a⟩::sE (.slice o (Z ks) i) ks::rS (.slice S (Z A) W) A::rI (.slice C (Z A) G) A::rK (.slice t (Z D) x) D::rI (.slice r (Z D) s) D::R)) (mE P++(mF a2++(⟨sQ w.heap.size 1 1,41,[iQ b8,.slice g (Z a) f,.slice o (Z ks) i,iQ b7,.bool b1]⟩::(mA A++(mD D++M))))) wr) (λa6 _=>Z a-(intOf a6).toNat);exact⟨0,e9,e8,f0,E,F,next,zo _,rfl,by omega,by omega,h4.o,by omega,by simpa using h5.o⟩;clear h5 h4;obtain⟨c,q,y,k,P,a2,N,p4,rfl,l3,l4,g2,p9,b⟩:=hrel;have f1:=b.mi (j:=1) (List.mem_append.2 (zp (List.mem_append.2 (zp (z2 ..))))) rfl;by_cases c9:c<Z a
 .have i2:(c:Int)<(Z a:Int):=by omega
  have i0:c<Z p:=by rw[h3.o];exact c9
  have i7:p[c].2=a[c].2:=by have:=congrArg (λl=>l[c]?) k1.o;simpa[i0,c9]using this
  have X:(p.drop c).flatMap rP++⟨48,6,.slice g (Z a) f,Z a,gN a⟩::sE (.slice o (Z ks) i) ks::rS (.slice S (Z A) W) A::rI (.slice C (Z A) G) A::rK (.slice t (Z D) x) D::rI (.slice r (Z D) s) D::R=rQ p[c].1++⟨55,2,p[c].2,p[c].1.length,bH p[c].1⟩::((p.drop (c+1)).flatMap rP++⟨48,6,.slice g (Z a) f,Z a,gN a⟩::sE (.slice o (Z ks) i) ks::rS (.slice S (Z A) W) A::rI (.slice C (Z A) G) A::rK (.slice t (Z D) x) D::rI (.slice r (Z D) s) D::R):=by rw[List.drop_eq_getElem_cons i0,zf];simp[rP]
  have g3:=b.row (V:=.slice g (Z a) f) (e:=48) (z:=6) (n:=Z a) (xs:=gN a) (by simp);rw[X]at b;obtain⟨k7,n5,b9⟩:=mJ g3 (by omega);simp at b9;obtain⟨rfl,rfl⟩:=b9;have h7:zv wr (aQ k7 (c*6+5))=zy p[c].2:=by rw[g3.cellAt _ (by omega),aIz a c c9,i7]
  have g4:=k0.o p[c] (zr _);have f9:=g4.1;have h1:=O (aWu b ⟨by omega,λg7 l6=>za (g4.2 g7 l6) (by decide)⟩ (by omega) (by omega) g2 (by omega));obtain⟨n3,n4,i5⟩:=aZ (b.row (V:=p[c].2) (e:=55) (z:=2) (n:=p[c].1.length) (xs:=bH p[c].1) (by simp));rw[i5]at h7 h1;clear b g3 i5 X g4 i7;go_wp2_with(first
   |(go_at_call 25;refine(aD h1).mono ?_;rintro e j3 ⟨rfl,Q,b2,n0,j4,j5,o7,o9,l5,L⟩;have j9:=O L;clear L)
   |go_in)
  exact⟨⟨c+1,Q,b2,n0,j4,j5,_,by omega,by go_num,by omega,by omega,l5,by omega,j9.o⟩,by simp[intOf];omega⟩
 have l0:c=Z a:=by omega
 subst l0;rw[show p.drop (Z a)=[] by rw[<-h3.o,List.drop_length]]at b;have I:=b.cell (j:=8) rfl;have b4:=b.soft 8;have p1:=b.lt;have g1:bW c0 B J H ⟨q,y,k,a1,.slice S (Z A) W,.slice C (Z A) G,.slice t (Z D) x,.slice r (Z D) s⟩ (N-1) (⟨48,6,.slice g (Z a) f,Z a,gN a⟩::sE (.slice o (Z ks) i) ks::rS (.slice S (Z A) W) A::rI (.slice C (Z A) G) A::rK (.slice t (Z D) x) D::rI (.slice r (Z D) s) D::rN q P::rI y P::rX k a2::R) (⟨sQ w.heap.size 1 1,41,[iQ b8,.slice g (Z a) f,.slice o (Z ks) i,iQ b7,.bool b1]⟩::(mE P++(mF a2++(mA A++(mD D++M))))) (zm wr (aQ J 8) (iQ (N-1))):=(b.store (j:=8) (u:=iQ (N-1)) (v':=⟨q,y,k,a1,.slice S (Z A) W,.slice C (Z A) G,.slice t (Z D) x,.slice r (Z D) s⟩) (next':=N-1) rfl).re (zg [_,_,_] [_,_,_,_,_,_] R) (λk a0=>by simp only[zc,yv]at a0 ⊢;grind);have k4:=g1.cell (j:=8) rfl;have a7:=O g1;have j7:aE (next-9*Z a-1<=N-1/\N-1<=0):=O (by omega);have j6:=O g2;have p8:-1010000<=N-1/\N-1<=0:=by omega
 clear b g1 g2 c9;go_upto_region 7 with(fail);clear I b4 k4;generalize zm wr (aQ J 8) (iQ (N-1))=W2 at *;generalize N-1=m at *;generalize hMX:mE P++(mF a2++(mA A++(mD D++M)))=MX at a7;generalize hY:rN q P::rI y P::rX k a2::R=Y at a7;have j8:=O hMX;have k2:=O hY;clear hMX hY;go_wp2;go_loopw[6] (λa6 c8=>∃c:Nat,c<=Z a/\a6=iQ c/\bW c0 B J H ⟨q,y,k,a1,.slice S (Z A) W,.slice C (Z A) G,.slice t (Z D) x,.slice r (Z D) s⟩ m (⟨48,6,.slice g (Z a) f,Z a,rep c (qO m)++(gN a).drop (c*6)⟩::sE (.slice o (Z ks) i) ks::rS (.slice S (Z A) W) A::rI (.slice C (Z A) G) A::rK (.slice t (Z D) x) D::rI (.slice r (Z D) s) D::Y) (⟨sQ w.heap.size 1 1,41,[iQ b8,.slice g (Z a) f,.slice o (Z ks) i,iQ b7,.bool b1]⟩::MX) c8) (λa6 _=>Z a-(intOf a6).toNat);exact⟨0,zo _,rfl,by simpa[rep]using a7.o⟩;clear a7;obtain⟨a9,p5,rfl,b⟩:=hrel;have f1:=b.mc (j:=1) rfl;by_cases c9:a9<Z a
 .have i2:(a9:Int)<(Z a:Int):=by omega
  obtain⟨e6,k3,b9⟩:=mJ b.hd (by omega);simp at b9;obtain⟨rfl,rfl⟩:=b9;obtain⟨m2,k5,k6⟩:=sF b.hd (i:=a9*6) (by omega);obtain⟨q0,n6,n9⟩:=sF b.hd (i:=a9*6+1) (by omega);obtain⟨q1,f8,o0⟩:=sF b.hd (i:=a9*6+2) (by omega);obtain⟨q2,n7,o1⟩:=sF b.hd (i:=a9*6+3) (by omega);obtain⟨q3,n8,o2⟩:=sF b.hd (i:=a9*6+4) (by omega);obtain⟨q4,h7,o3⟩:=sF b.hd (i:=a9*6+5) (by omega);obtain⟨e7,i9⟩:=aWn b.hd (by rw[aF0];omega);have g0:=b.wrote (r':=⟨48,6,sQ e6 (Z a) f,Z a,_⟩) i9 e7 (dM.refl _ _);unfold aGj at g0;have f5:=O g0;clear g0 e7 i9 b;go_wp2;exact⟨⟨a9+1,by omega,by go_num,f5.o⟩,by simp[intOf];omega⟩
 have l1:a9=Z a:=by omega
 subst l1;rw[yy (by rw[aF0];omega),List.append_nil]at b;have d2:aE (∀d∈[Value.slice g (Z a) f],fO 48 (qO m) wr d/\dM wr (.slice g (Z a) f) d):=O λd X=>by
  simp at X;subst X;exact⟨fO.of_own (el:=qO m) b.hd (by omega),dM.refl _ _⟩
 have c1:=O b;clear b;go_upto_region 13 with(first
  |(at_builtin;refine wpList_plain rfl λK hK=>a7.o.reps (el:=qO m) (k:=2) d3.o (by omega) (aI _ _) (heap_alloc_new ..) aKh ys (by omega) λQ a5 d0 L a8 l9=>hK _ _ ?_;have d4:=O ((c1.o.drop L (D:=mA [(.slice g (Z a) f,m),(.slice a3 (Z a+1) a4,m),(.slice Q (Z a+2) a5,m)]) (λd X=>by (obtain⟨k,a0,rfl⟩:=List.mem_map.1 X;simp at a0;rcases a0 with rfl|rfl|rfl<;>exact a8 _ (by simp)))).mv [_]);have j0:=L.cell (j:=4) rfl;have e0:=L.mc (j:=1) rfl;have p2:=L.lt;clear L a8 hK)
  |(at_builtin;refine wpList_plain rfl λK hK=>c1.o.reps (el:=qO m) (k:=1) d2.o (zk _) (aI _ _) (heap_alloc_new ..) aKh ys (by omega) λa3 a4 j3 c5 d6 d9=>hK _ _ ?_;have a7:=O c5;have d3:=O d6;have g9:=c5.mc (j:=1) rfl;clear c5 d6 hK)
  |go_in)
 have l7:∀z,zv (d0.alloc z) (aQ J 4)=zy (.slice S (Z A) W):=λz=>aC (aI d0 z) j0
 have h0:∀z,zv (d0.alloc z) (aQ w.heap.size 1)=zy (.slice g (Z a) f):=λz=>aC (aI d0 z) e0
 clear c1 a7 d2 d3 f1 g9;go_cut [] (λc8=>∃T I,bW c0 B J H ⟨q,y,k,a1,.slice T (Z A+3) I,.slice C (Z A) G,.slice t (Z D) x,.slice r (Z D) s⟩ m (⟨39,1,.slice T (Z A+3) I,Z A+3,A.map zn++[.slice g (Z a) f,.slice a3 (Z a+1) a4,.slice Q (Z a+2) a5]⟩::([sE (.slice o (Z ks) i) ks]++rI (.slice C (Z A) G) A::rK (.slice t (Z D) x) D::rI (.slice r (Z D) s) D::Y)) (⟨sQ w.heap.size 1 1,41,[iQ b8,.slice g (Z a) f,.slice o (Z ks) i,iQ b7,.bool b1]⟩::(MX++mA [(.slice g (Z a) f,m),(.slice a3 (Z a+1) a4,m),(.slice Q (Z a+2) a5,m)])) c8);case first=>
  go_region_law (rw[aT (by rfl)];refine d4.o.vals (wX:=d0.drew.alloc (.cells #[.slice g (Z a) f,.slice a3 (Z a+1) a4,.slice Q (Z a+2) a5] 39)) (news:=[.slice g (Z a) f,.slice a3 (Z a+1) a4,.slice Q (Z a+2) a5]) ((aN (w1:=d0.drew) ⟨1,rfl⟩).alloc (zk _) _) (heap_alloc_new ..) aU1 Tryz.underlying27 (by omega) λT I m8 b5 m0=>?_;have f6:=O (b5.store (j:=4) (v':=⟨q,y,k,a1,.slice T (Z A+3) I,.slice C (Z A) G,.slice t (Z D) x,.slice r (Z D) s⟩) (next':=m) rfl);have e4:=b5.cell (j:=4) rfl;have e5:=b5.soft 4;clear b5);all_goals
   go_wp2_with fail;go_meet;case rel=>exact⟨_,_,f6.o⟩
 case rest=>
  obtain⟨T,I,b⟩:=hcut;have e2:=O (b.mv [_,_]);have j1:=b.cell (j:=5) rfl;have k9:=b.lt;clear b d4 j0 l7 e0 h0;go_upto_region 15 with(first
   |(at_builtin;refine wpList_plain rfl λK hK=>e2.o.vals (news:=[iQ m,iQ m,iQ m]) (aI _ _) (heap_alloc_new ..) mR z0 (by omega) λb0 b3 m9 b6 m1=>hK _ _ ?_;have e3:=O (b6.store (j:=5) (v':=⟨q,y,k,a1,.slice T (Z A+3) I,.slice b0 (Z A+3) b3,.slice t (Z D) x,.slice r (Z D) s⟩) (next':=m) rfl);have e4:=b6.cell (j:=5) rfl;have e5:=b6.soft 5;clear b6 hK)
   |go_in)
  have h6:=O (e3.o.mv [_,_]);clear e3 e2 j1 e4 e5;generalize zm m9 (aQ J 5) (.slice b0 (Z A+3) b3)=W5 at *;go_wp2;go_loopw[9] (λa6 c8=>∃c:Nat,c<=Z ks/\a6=iQ c/\bW c0 B J H ⟨q,y,k,a1,.slice T (Z A+3) I,.slice b0 (Z A+3) b3,.slice t (Z D) x,.slice r (Z D) s⟩ m (⟨3,1,.slice o (Z ks) i,Z ks,rep c [iQ m]++(ks.map λc=>iQ (c:Nat)).drop c⟩::⟨3,1,.slice b0 (Z A+3) b3,Z A+3,(A.map λk=>iQ k.2)++[iQ m,iQ m,iQ m]⟩::⟨39,1,.slice T (Z A+3) I,Z A+3,A.map zn++[.slice g (Z a) f,.slice a3 (Z a+1) a4,.slice Q (Z a+2) a5]⟩::rK (.slice t (Z D) x) D::rI (.slice r (Z D) s) D::Y) (⟨sQ w.heap.size 1 1,41,[iQ b8,.slice g (Z a) f,.slice o (Z ks) i,iQ b7,.bool b1]⟩::(MX++mA [(.slice g (Z a) f,m),(.slice a3 (Z a+1) a4,m),(.slice Q (Z a+2) a5,m)])) c8) (λa6 _=>Z ks-(intOf a6).toNat);exact⟨0,zo _,rfl,by simpa[rep]using h6.o⟩;clear h6;obtain⟨c6,p6,rfl,b⟩:=hrel;have f1:=b.mc (j:=2) rfl;by_cases c9:c6<Z ks
  .have i2:(c6:Int)<(Z ks:Int):=by omega
   obtain⟨e6,k3,b9⟩:=mJ b.hd (by omega);simp at b9;obtain⟨rfl,rfl⟩:=b9;obtain⟨m2,k5,k6⟩:=sF b.hd (i:=c6) (by omega);have d9:=(b.hd.stored c6 (iQ m)).1;rw[aWo _ _ _ (by simp;omega)]at d9;have f5:=O (b.wrote (r':=⟨3,1,sQ e6 (Z ks) i,Z ks,_⟩) (cD wr (aQ e6 c6) _) d9 (dM.refl _ _));clear d9 b;go_wp2;exact⟨⟨c6+1,by omega,by go_num,f5.o⟩,by simp[intOf];omega⟩
  have l2:c6=Z ks:=by omega
  subst l2;rw[yy (by simp),List.append_nil]at b;have d2:aE (∀d∈[Value.slice o (Z ks) i],fO 3 [iQ m] wr d/\dM wr (.slice o (Z ks) i) d):=O λd X=>by
   simp at X;subst X;exact⟨fO.of_own (el:=[iQ m]) b.hd (by omega),dM.refl _ _⟩
  have c1:=O b;clear b;go_upto_region 21 with(first
   |(at_builtin;refine wpList_plain rfl λK hK=>a7.o.reps (el:=[iQ m]) (k:=2) d3.o (by omega) (aI _ _) (heap_alloc_new ..) mR z0 (by omega) λb2 a8 d1 L f8 l9=>hK _ _ ?_;have d4:=O ((c1.o.drop L (D:=mD [(.slice o (Z ks) i,m),(.slice c2 (Z ks+1) c3,m),(.slice b2 (Z ks+2) a8,m)]) (λd X=>by (obtain⟨k,a0,rfl⟩:=List.mem_map.1 X;simp at a0;rcases a0 with rfl|rfl|rfl<;>exact f8 _ (by simp)))).mv [_,_]);have j2:=L.cell (j:=6) rfl;have e0:=L.mc (j:=2) rfl;have p3:=L.lt;clear L f8 hK)
   |(at_builtin;refine wpList_plain rfl λK hK=>c1.o.reps (el:=[iQ m]) (k:=1) d2.o (zk _) (aI _ _) (heap_alloc_new ..) mR z0 (by omega) λc2 c3 j3 c5 d6 d9=>hK _ _ ?_;have a7:=O c5;have d3:=O d6;have g9:=c5.mc (j:=2) rfl;clear c5 d6 hK)
   |go_in)
  have l8:∀z,zv (d1.alloc z) (aQ J 6)=zy (.slice t (Z D) x):=λz=>aC (aI d1 z) j2
  have h0:∀z,zv (d1.alloc z) (aQ w.heap.size 2)=zy (.slice o (Z ks) i):=λz=>aC (aI d1 z) e0
  clear c1 a7 d2 d3 f1 g9;go_cut [] (λc8=>∃c4 b4,bW c0 B J H ⟨q,y,k,a1,.slice T (Z A+3) I,.slice b0 (Z A+3) b3,.slice c4 (Z D+3) b4,.slice r (Z D) s⟩ m (⟨24,1,.slice c4 (Z D+3) b4,Z D+3,D.map zn++[.slice o (Z ks) i,.slice c2 (Z ks+1) c3,.slice b2 (Z ks+2) a8]⟩::([⟨3,1,.slice b0 (Z A+3) b3,Z A+3,(A.map λk=>iQ k.2)++[iQ m,iQ m,iQ m]⟩,⟨39,1,.slice T (Z A+3) I,Z A+3,A.map zn++[.slice g (Z a) f,.slice a3 (Z a+1) a4,.slice Q (Z a+2) a5]⟩]++rI (.slice r (Z D) s) D::Y)) ((⟨sQ w.heap.size 1 1,41,[iQ b8,.slice g (Z a) f,.slice o (Z ks) i,iQ b7,.bool b1]⟩::(MX++mA [(.slice g (Z a) f,m),(.slice a3 (Z a+1) a4,m),(.slice Q (Z a+2) a5,m)]))++mD [(.slice o (Z ks) i,m),(.slice c2 (Z ks+1) c3,m),(.slice b2 (Z ks+2) a8,m)]) c8);case first=>
   go_region_law (rw[aT (by rfl)];refine d4.o.vals (wX:=d1.drew.alloc (.cells #[.slice o (Z ks) i,.slice c2 (Z ks+1) c3,.slice b2 (Z ks+2) a8] 24)) (news:=[.slice o (Z ks) i,.slice c2 (Z ks+1) c3,.slice b2 (Z ks+2) a8]) ((aN (w1:=d1.drew) ⟨1,rfl⟩).alloc (zk _) _) (heap_alloc_new ..) aU2 Tryz.underlying28 (by omega) λc4 b4 m8 b5 m0=>?_;have f6:=O (b5.store (j:=6) (v':=⟨q,y,k,a1,.slice T (Z A+3) I,.slice b0 (Z A+3) b3,.slice c4 (Z D+3) b4,.slice r (Z D) s⟩) (next':=m) rfl);have e4:=b5.cell (j:=6) rfl;have e5:=b5.soft 6;clear b5);all_goals
    go_wp2_with fail;go_meet;case rel=>exact⟨_,_,f6.o⟩
  case rest=>
   obtain⟨c4,b4,b⟩:=hcut;have e2:=O (b.mv [_,_,_]);have j1:=b.cell (j:=7) rfl;have k9:=b.lt;clear b d4 j2 l8 e0 h0;go_wp2_with(first
    |(at_builtin;refine wpList_plain rfl λK hK=>e2.o.vals (news:=[iQ m,iQ m,iQ m]) (aI _ _) (heap_alloc_new ..) mR z0 (by omega) λh8 h9 q5 b6 m1=>hK _ _ ?_;have e3:=O (b6.store (j:=7) (v':=⟨q,y,k,a1,.slice T (Z A+3) I,.slice b0 (Z A+3) b3,.slice c4 (Z D+3) b4,.slice h8 (Z D+3) h9⟩) (next':=m) rfl);have e4:=b6.cell (j:=7) rfl;have e5:=b6.soft 7;clear b6 hK)
    |go_in)
   go_end0;refine⟨rfl,⟨q,y,k,a1,.slice T (Z A+3) I,.slice b0 (Z A+3) b3,.slice c4 (Z D+3) b4,.slice h8 (Z D+3) h9⟩,rfl,P,l3,A++[(.slice g (Z a) f,m),(.slice a3 (Z a+1) a4,m),(.slice Q (Z a+2) a5,m)],D++[(.slice o (Z ks) i,m),(.slice c2 (Z ks+1) c3,m),(.slice b2 (Z ks+2) a8,m)],a2,l4,by simp,by simp,m,j7.o,j6.o,?_⟩;have f9:=e3.o;rw[<-k2.o]at f9;have k8:=f9.re (M':=bM P (A++[(.slice g (Z a) f,m),(.slice a3 (Z a+1) a4,m),(.slice Q (Z a+2) a5,m)]) (D++[(.slice o (Z ks) i,m),(.slice c2 (Z ks+1) c3,m),(.slice b2 (Z ks+2) a8,m)]) a2 M) (aU3 ..) (λk a0=>by rw[<-j8.o];simp[bM,mA,mD]at a0 ⊢;grind);simpa[bR,rS,rI,rK]using k8
theorem aCt(w:zs)(i b c f g:Int)(v:U):∃a,w.alloc (.cells #[iQ i,iQ b,iQ c,iQ f,iQ g,v] 48)=a/\aB w a/\a.heap.size=w.heap.size+1/\cQ a w.heap.size 0 (iQ i)/\cQ a w.heap.size 1 (iQ b)/\cQ a w.heap.size 2 (iQ c)/\cQ a w.heap.size 3 (iQ f)/\cQ a w.heap.size 4 (iQ g)/\cQ a w.heap.size 5 v:=by have j:=ze w (.cells #[iQ i,iQ b,iQ c,iQ f,iQ g,v] 48);refine⟨_,rfl,aI w _,by simp,?_⟩;simp_all
theorem wG{e:TypeId}{xs:List U}(k:World.ownsRow w B e 1 v n xs):∃i c,v=.slice i n c/\∀b g,xs[b]?=zy g->∃a,i=zy (aQ a 0)/\zv w (aQ a b)=zy g:=by
 obtain⟨m,⟨rfl,o⟩|⟨a,c,j,rfl,p,r,q,s,x,u⟩⟩:=k
 .refine⟨zt,0,by rw[o],λb g f=>?_⟩;have:=(eE f);omega
 have t:World.ownsRow w B e 1 (sQ a n c) n xs:=⟨m,zp ⟨a,c,j,rfl,p,r,q,s,x,u⟩⟩;refine⟨_,_,rfl,λb g f=>⟨a,rfl,?_⟩⟩;have y:=(eE f);rw[t.cellAt b (by omega),f]
theorem fO.view{e:TypeId}{a:List U}(m:fO e a w v):∃i n f,v=.slice i n f/\n<=1000000000000/\∀b,b<n->∃c,i=zy (aQ c 0)/\∀j (g:j<Z a),zv w (aQ c (b*Z a+j))=zy a[j]:=by
 rcases m with rfl|⟨c,n,f,s,rfl,o,k,r⟩
 .exact⟨zt,0,0,rfl,by omega,λb k=>by omega⟩
 refine⟨_,n,f,rfl,r,λb p=>⟨c,rfl,λj g=>?_⟩⟩;have q:b*Z a+j<n*Z a:=by
  have:(b+1)*Z a<=n*Z a:=Nat.mul_le_mul_right _ p;rw[Nat.succ_mul]at this;omega
 have:=k _ q;rw[Nat.mul_comm,Nat.mul_add_mod,Nat.mod_eq_of_lt g,Nat.mul_comm]at this;simp[zv,o,this,g]
theorem aKj{i:Type}(c:i->List U)(j:∀f,Z (c f)=3):∀(a:List i) (b:Nat) (g:b / 3<Z a),(a.flatMap c)[b]?=(c a[b / 3])[b % 3]?:=by
 intro a;induction a with
 |nil=>intro b g;simp at g
 |cons f a ih=>
  grind
abbrev aKk(a:Nat):U:=.agg #[.bool zw,sQ a 1 1]
theorem aU4(a:Nat)(b:Int)(w:zs)(p:a<w.heap.size)(k:cQ w a 0 (.string ⟨#[61]⟩))(m:cQ w a 1 (iQ b)):Calls z1 14 #[aKk a,aKk a] w λe j=>e=.returned (.bool zw)/\aB w j:=by
 have c:=aI w (.cells #[.bool zw,sQ a 1 1] 55);have f:=c.alloc (by simp) (.cells #[.bool zw,sQ a 1 1] 55);have g:=rY (⟨#[61]⟩,b) (⟨#[61]⟩,b);have o:=tJ;have q:=rZ ⟨#[61]⟩ ⟨#[61]⟩ b b;rw[fL rfl]at g;simp only at g;have i:=O f;clear c f;go_enter Tryz.func14,Tryz.ntmps14;go_wp2;go_quiet (fail);go_wp2;go_ret;exact⟨rfl,bE i.o (aN ⟨_,rfl⟩)⟩
section
variable {w0 w:zs}{B bk:Nat}{H:List Nat}{v:Bx}{next:Int}{R:List fV}{M:List jT}{E A D:List (U×Int)}{F:List jJ}
theorem bW.litAt(p:bW w0 B bk H v next (bR v E A D F R) (bM E A D F M) w)(q:∀a∈F,∃f n g,a.one=.slice f (n+1) g){i nF:Nat}(a4:Z F*3=nF)(b3:i<nF):∃o I f n g k c t m a8,v.x=.slice (zy ⟨o,0,zt⟩) nF I/\zv w ⟨o,i,zt⟩=zy (.slice f n g)/\zv w ⟨o,i / 3*3+1,zt⟩=zy (.slice (zy ⟨k,0,zt⟩) (c+1) t)/\n<=1000000000000/\c<=1000000000000/\(∀r,r<n->∃b,f=zy ⟨b,0,zt⟩/\zv w ⟨b,r*2,zt⟩=zy (.bool zw)/\zv w ⟨b,r*2+1,zt⟩=zy (.slice (zy ⟨m,0,zt⟩) 1 1))/\zv w ⟨k,c*2,zt⟩=zy (.bool zw)/\zv w ⟨k,c*2+1,zt⟩=zy (.slice (zy ⟨m,0,zt⟩) 1 1)/\m<w.heap.size/\zv w ⟨m,0,zt⟩=zy (.string ⟨#[61]⟩)/\zv w ⟨m,1,zt⟩=zy (.int .i64 a8):=by
 subst a4;have y:i / 3<Z F:=by omega
 obtain⟨a9,c,t,q⟩:=q _ (zr y);have x:∀S∈F[i / 3].mk3,S∈bM E A D F M:=λS s=>List.mem_append.2 (zp (List.mem_append.2 (zj (List.mem_flatMap.2 ⟨_,zr y,s⟩))))
 generalize hf:F[i / 3]=a at x q;obtain⟨b6,I,a7,s⟩:=wG (p.row (e:=36) (V:=v.x) (n:=Z F*3) (xs:=F.flatMap jJ.vals) (by simp[bR]));have C:∀b:jJ,Z b.vals=3:=λ_=>rfl
 have Q:i % 3<Z a.vals:=by rw[C];omega
 obtain⟨o,rfl,T⟩:=s i a.vals[i % 3] (by rw[aKj _ C _ _ y,hf];simp[Q]);obtain⟨b2,N,W⟩:=s (i / 3*3+1) a.one (by rw[aKj _ C _ _ (by omega)];simp[show (i / 3*3+1) / 3=i / 3 by omega,show (i / 3*3+1) % 3=1 by omega,hf,jJ.vals]);simp at N;subst N;have P:∀G∈a.vals,fO 55 (qQ a.ga) w G:=λG a5=>p.rst.mks ⟨G,55,qQ a.ga⟩ (x _ (zl _ (List.mem_map_of_mem a5)))
 obtain⟨f,n,g,a6,a3,a0⟩:=(P _ (zr Q)).view;obtain⟨b0,b5,b1,z,b4,a1⟩:=(P a.one (by simp[jJ.vals])).view;rw[q]at z;simp at z;obtain⟨rfl,rfl,rfl⟩:=z;obtain⟨k,rfl,L⟩:=a1 c (by omega);have u:=x _ (z2 ..);refine⟨o,I,f,n,g,k,c,t,a.ga,a.m,a7,by rw[T,a6],by rw[W,q],a3,by omega,λr a2=>?_,L 0 (by simp),L 1 (by simp),p.rst.lt a.ga (List.mem_append.2 (zp (List.mem_filterMap.2 ⟨_,u,rfl⟩))),p.mi u (j:=0) rfl,p.mi u (j:=1) rfl⟩;obtain⟨b,X,J⟩:=a0 r a2;exact⟨b,X,J 0 (by simp),J 1 (by simp)⟩
end
theorem aU5{d7:zs}{s:Nat}{v:Bx}(w:zs)(i:bW d7 B s H v next (bR v E A D F R) (bM E A D F M) w)(e3:Z A<=1000000)(e4:Z D<=1000000):Calls z1 15 #[pQ s] w λe d6=>e=.returned (.bool zw)/\aB w d6:=by
 have L:cQ w s 4 v.a:=i.cell rfl;have N:cQ w s 5 v.b:=i.cell rfl;have P:cQ w s 6 v.c:=i.cell rfl;have Q:cQ w s 7 v.d:=i.cell rfl;obtain⟨d8,e6,a2,a7⟩:=wG (i.row (e:=39) (V:=v.a) (n:=Z A) (xs:=A.map zn) (by simp[bR]));obtain⟨d9,e7,a3,a8⟩:=wG (i.row (e:=3) (V:=v.b) (n:=Z A) (xs:=A.map λX=>iQ X.2) (by simp[bR]));obtain⟨e0,e8,a4,a9⟩:=wG (i.row (e:=24) (V:=v.c) (n:=Z D) (xs:=D.map zn) (by simp[bR]));obtain⟨e1,e9,a5,b0⟩:=wG (i.row (e:=3) (V:=v.d) (n:=Z D) (xs:=D.map λX=>iQ X.2) (by simp[bR]));rw[a2]at L;rw[a3]at N;rw[a4]at P;rw[a5]at Q;have c0:aE (∀a (i:a<Z A),∃q n t,A[a].1=.slice q n t/\n<=1000000000000/\∀c,c<n->∃g,q=zy (aQ g 0)/\∀f (d0:f<Z (qO A[a].2)),cQ w g (c*6+f) (qO A[a].2)[f]):=O λa j=>(i.rst.mks ⟨A[a].1,48,qO A[a].2⟩ (by simp only[bM,zc];exact zp (zp (zj (List.mem_map.2 ⟨A[a],zr j,rfl⟩))))).view
 have c1:aE (∀a (i:a<Z D),∃q n t,D[a].1=.slice q n t/\n<=1000000000000/\∀c,c<n->∃g,q=zy (aQ g 0)/\∀f (d0:f < [iQ D[a].2].length),cQ w g (c*1+f) [iQ D[a].2][f]):=O λa j=>(i.rst.mks ⟨D[a].1,3,[iQ D[a].2]⟩ (by simp only[bM,zc];exact zp (zp (zp (zj (List.mem_map.2 ⟨D[a],zr j,rfl⟩)))))).view
 have b6:=O λa (j:a<Z A)=>a7 a _ (show _=zy A[a].1 by simp[j])
 have b7:=O λa (j:a<Z A)=>a8 a _ (show _=zy (iQ A[a].2) by simp[j])
 have b8:=O λa (j:a<Z D)=>a9 a _ (show _=zy D[a].1 by simp[j])
 have b9:=O λa (j:a<Z D)=>b0 a _ (show _=zy (iQ D[a].2) by simp[j])
 have a0:=O L;have b4:=O N;have a1:=O P;have b5:=O Q;clear i a7 a8 a9 b0 L N P Q a2 a3 a4 a5;go_enter Tryz.func15,Tryz.ntmps15;go_wp2;go_loopw[3] (λa wr=>∃c:Nat,c<=Z A/\a=iQ c/\aB w wr) (λa _=>Z A-(intOf a).toNat);exact⟨0,zo _,rfl,dP⟩;obtain⟨a,j,rfl,b⟩:=hrel;have z:=aC b a0.o;by_cases T:a<Z A
 .have d3:(a:Int)<(Z A:Int):=by omega
  obtain⟨c8,rfl,k⟩:=b6.o a T;obtain⟨c9,rfl,p⟩:=b7.o a T;obtain⟨q,n,t,x,d4,u⟩:=c0.o a T;rw[x]at k;generalize A[a].2=m at *;have J:=O u;have C:=O k;have G:=O p;clear x u k p;go_wp2;clear z;go_loopw[4] (λf wr=>∃c:Nat,c<=n/\f=iQ c/\aB w wr) (λf _=>n-(intOf f).toNat);exact⟨0,zo _,rfl,b⟩;clear b;obtain⟨c,d1,rfl,b⟩:=hrel;have z:=aC b a0.o;have b2:=aC b b4.o;have k:=aC b C.o;have p:=aC b G.o;by_cases S:c<n
  .have d2:(c:Int)<(n:Int):=by omega
   obtain⟨g,rfl,o⟩:=J.o c S;have a6:cQ wr g (c*6) (iQ m):=aC b (o 0 (by simp));have c3:cQ wr g (c*6+1) (iQ 0):=aC b (o 1 (by simp));have c4:cQ wr g (c*6+2) (iQ 0):=aC b (o 2 (by simp));have c5:cQ wr g (c*6+3) (iQ 0):=aC b (o 3 (by simp));have c6:cQ wr g (c*6+4) (iQ 0):=aC b (o 4 (by simp));have c7:cQ wr g (c*6+5) (nQ):=aC b (o 5 (by simp));go_wp2;obtain⟨f2,b1,y,d5,f3,f4,f5,f6,f7,f8⟩:=aCt wr m 0 0 0 0 (nQ);rw[b1];have f0:=aC y b2;have e2:=aC y p;have I:=O (bE b y);clear o b y d5 z b2 k p a6 c3 c4 c5 c6 c7 b1;go_quiet (fail);go_wp2;exact⟨⟨c+1,by omega,by go_num,bE I.o (aN (by first|exact dT _ _ _|exact⟨_,rfl⟩))⟩,by simp[intOf];omega⟩
  go_wp2;exact⟨⟨a+1,by omega,by go_num,b⟩,by simp[intOf];omega⟩
 go_wp2;clear z;go_loopw[6] (λa wr=>∃c:Nat,c<=Z D/\a=iQ c/\aB w wr) (λa _=>Z D-(intOf a).toNat);exact⟨0,zo _,rfl,b⟩;clear b;obtain⟨r,e5,rfl,b⟩:=hrel;have b3:=aC b a1.o;by_cases W:r<Z D
 .have d3:(r:Int)<(Z D:Int):=by omega
  obtain⟨c8,rfl,k⟩:=b8.o r W;obtain⟨c9,rfl,p⟩:=b9.o r W;obtain⟨q,n,t,x,d4,u⟩:=c1.o r W;rw[x]at k;generalize D[r].2=m at *;have J:=O u;have C:=O k;have G:=O p;have c2:=aC b k;clear x u k p;go_wp2;clear b3 c2;go_loopw[7] (λf wr=>∃c:Nat,c<=n/\f=iQ c/\aB w wr) (λf _=>n-(intOf f).toNat);exact⟨0,zo _,rfl,b⟩;clear b;obtain⟨c,d1,rfl,b⟩:=hrel;have b3:=aC b a1.o;have f1:=aC b b5.o;have k:=aC b C.o;have p:=aC b G.o;by_cases S:c<n
  .have d2:(c:Int)<(n:Int):=by omega
   obtain⟨g,rfl,o⟩:=J.o c S;have a6:cQ wr g c (iQ m):=aC b (by simpa using o 0 (by simp));have I:=O b;clear o b;go_wp2;go_quiet (fail);go_wp2;exact⟨⟨c+1,by omega,by go_num,bE I.o (aN (by first|exact dT _ _ _|exact⟨_,rfl⟩))⟩,by simp[intOf];omega⟩
  go_wp2;exact⟨⟨r+1,by omega,by go_num,b⟩,by simp[intOf];omega⟩
 go_wp2;go_ret;exact⟨rfl,b⟩
theorem aU6{c3:zs}{r:Nat}{v:Bx}(w:zs)(j:bW c3 B r H v next (bR v E A D F R) (bM E A D F M) w)(b7:∀d9∈F,∃P n b,d9.one=.slice P (n+1) b)(c0:v.y=.slice zt 0 0)(g6:Z E<=1000000)(g5:Z F<=1000000)(e2:Z A<=1000000)(e3:Z D<=1000000):Calls z1 6 #[.pointer (zy ⟨r,0,zt⟩)] w λe o=>e=.returned (.bool zw)/\aB w o:=by
 have c8:=O (λ(c4:zs) (a4:aB w c4)=>aU5 c4 (j.below a4) e2 e3);obtain⟨f8,f7,f9,h9,h5,h6,h7,h8⟩:=v;simp only at c0;subst c0;obtain⟨f4,f5,rfl,b5⟩:=wG (j.row (e:=50) (V:=f8) (n:=Z E) (xs:=E.map zn) (by simp[bR]));obtain⟨f2,f3,rfl,b4⟩:=wG (j.row (e:=3) (V:=f7) (n:=Z E) (xs:=E.map λp=>.int .i64 p.2) (by simp[bR]));obtain⟨g0,c5,rfl,e4⟩:=wG (j.row (e:=36) (V:=f9) (n:=Z F*3) (xs:=F.flatMap jJ.vals) (by simp[bR]));have d6:zv w ⟨r,0,zt⟩=zy (.slice f4 (Z E) f5):=j.cell rfl;have b0:zv w ⟨r,1,zt⟩=zy (.slice f2 (Z E) f3):=j.cell rfl;have Q:zv w ⟨r,2,zt⟩=zy (.slice g0 (Z F*3) c5):=j.cell rfl;have b1:zv w ⟨r,3,zt⟩=zy (.slice zt 0 0):=j.cell rfl;have d5:aE (∀p∈E,fO 52 (qP p.2) w p.1):=O λp a4=>j.rst.mks ⟨p.1,52,qP p.2⟩ (List.mem_append.2 (zj (List.mem_map.2 ⟨p,a4,rfl⟩)))
 have d4:=O (λ(a i:Nat)=>j.litAt b7 (i:=a) (nF:=i));obtain⟨i,a3⟩:∃n,Z F*3=n:=⟨_,rfl⟩;rw[a3]at Q;have a9:=O a3;have h0:i<=3000000:=by omega
 clear a3 b7;have a8:=O b5;have a7:=O b4;have a6:=O Q;have c6:=O b1;clear j b5 b4 e4 Q b1;go_enter Tryz.func6,Tryz.ntmps6;go_wp2;go_loopw[3] (λb wr=>∃a:Nat,a<=Z E/\b=.int .i64 a/\∃d,wr=w.drewN d) (λb _=>Z E-(intOf b).toNat);exact⟨0,zo _,rfl,0,rfl⟩;obtain⟨a,e5,rfl,d,rfl⟩:=hrel;by_cases x:a<Z E
 .have e8:(a:Int)<(Z E:Int):=by omega
  obtain⟨g4,rfl,k⟩:=a8.o a E[a].1 (by simp[x]);obtain⟨g3,rfl,s⟩:=a7.o a (.int .i64 E[a].2) (by simp[x]);obtain⟨P,n,b,b8,e9,I⟩:=(d5.o E[a] (zr _)).view;rw[b8]at k;generalize E[a].2=t at *;have N:=O I;clear b8 I;go_wp2;go_loopw[4] (λb wr=>∃c:Nat,c<=n/\b=.int .i64 c/\∃d,wr=w.drewN d) (λb _=>n-(intOf b).toNat);exact⟨0,zo _,rfl,d,rfl⟩;obtain⟨c,e6,rfl,g1,rfl⟩:=hrel;by_cases a1:c<n
  .have e7:(c:Int)<(n:Int):=by omega
   obtain⟨u,rfl,X⟩:=N.o c a1;have S:zv w ⟨u,c*2,zt⟩=zy (.string ⟨#[35]⟩):=X 0 (by simp);have T:zv w ⟨u,c*2+1,zt⟩=zy (.int .i64 t):=X 1 (by simp);clear X;have b6:=rY (⟨#[35]⟩,t) (⟨#[35]⟩,t);have g2:=tJ;have h4:=rZ ⟨#[35]⟩ ⟨#[35]⟩ t t;rw[fL rfl]at b6;simp only at b6;go_wp2;go_quiet (fail);go_wp2;exact⟨⟨c+1,by omega,by go_num,(by first|exact dT _ _ _|exact⟨_,rfl⟩)⟩,by simp[intOf];omega⟩
  have a2:c=n:=by omega
  subst a2;go_wp2;exact⟨⟨a+1,by omega,by go_num,(by first|exact dT _ _ _|exact⟨_,rfl⟩)⟩,by simp[intOf];omega⟩
 have a0:a=Z E:=by omega
 subst a0;clear x;go_wp2;have d2:=O (aN (w:=w) (w1:=w.drewN d) ⟨d,rfl⟩);generalize w.drewN d=c3 at *;clear d6 b0 a8 a7;go_loopw[5] (λb wr=>∃a:Nat,a<=i/\b=.int .i64 a/\aB w wr) (λb _=>i-(intOf b).toNat);exact⟨0,zo _,rfl,d2.o⟩;obtain⟨a,e5,rfl,f⟩:=hrel;have J:=aC f a6.o;by_cases x:a<i
 .have e8:(a:Int)<(i:Int):=by omega
  have g7:(a:Int) / 3*3+1<(i:Int):=by have:=a9.o;omega
  have g8:a / 3*3+1<i:=by omega
  obtain⟨b3,i0,P,n,b,b2,C,b0,W,t,b9,k,s,e9,g9,I,y,z,m⟩:=d4.o a i a9.o x;simp at b9;obtain⟨rfl,-,rfl⟩:=b9;have N:=O I;have d3:=O (And.intro k (And.intro s (And.intro y (And.intro z m))));have d7:=aC f k;have d8:=aC f s;clear I k s y z m;go_wp2;clear d7 d8 J;go_loopw[7] (λb wr=>∃c:Nat,c<=n/\b=.int .i64 c/\aB w wr) (λb _=>n-(intOf b).toNat);exact⟨0,zo _,rfl,f⟩;obtain⟨c,e6,rfl,g⟩:=hrel;obtain⟨k,s,y,z,m⟩:=d3.o;have J:=aC g a6.o;have f6:=aC g k;by_cases a1:c<n
  .have e7:(c:Int)<(n:Int):=by omega
   obtain⟨u,rfl,S,T⟩:=N.o c a1;have e0:=aC g S;have e1:=aC g T;have f0:=aC g y;have f1:=aC g z;have h1:IntKind.i64.wrap (C:Int)=C:=by rw[IntKind.wrap_i64];omega
   have h2:(C:Int)<(C:Int)+1:=by omega
   have c1:=aC g m.2.1;have c2:=aC g m.2.2;have c7:=O (aU4 W t wr.drew (Nat.lt_of_lt_of_le m.1 g.size) c1 c2);clear c1 c2;have d1:=O g;clear k s y z m S T g f;go_wp2;go_region_held3 (λo=>zv o ⟨r,2,zt⟩=zy (.slice (zy ⟨b3,0,zt⟩) (i) c5)/\zv o ⟨b3,a,zt⟩=zy (.slice (zy ⟨u,0,zt⟩) n b)/\zv o ⟨u,c*2,zt⟩=zy (.bool zw)/\zv o ⟨u,c*2+1,zt⟩=zy (.slice (zy ⟨W,0,zt⟩) 1 1)/\zv o ⟨b2,C*2,zt⟩=zy (.bool zw)/\zv o ⟨b2,C*2+1,zt⟩=zy (.slice (zy ⟨W,0,zt⟩) 1 1)) (first|go_keep|exact⟨aC q.o J,aC q.o f6,aC q.o e0,aC q.o e1,aC q.o f0,aC q.o f1⟩) (first|(go_at_call 14;refine(aD c7).mono ?_;rintro e a5 ⟨rfl,G⟩;have q:aE (aB wr a5):=O ((aN (w1:=wr.drew) ⟨1,rfl⟩).trans G);have L:aE (aB w a5):=O (bE d1.o q.o);clear G));all_goals
    go_wp2;exact⟨⟨c+1,by omega,by go_num,L.o⟩,by simp[intOf];omega⟩
  have a2:c=n:=by omega
  subst a2;clear k s y z m;go_wp2;exact⟨⟨a+1,by omega,by go_num,g⟩,by simp[intOf];omega⟩
 have a0:a=i:=by omega
 subst a0;clear x;go_wp2;clear J;go_loopw[9] (λb wr=>b=.int .i64 0/\aB w wr) (λ_ _=>0);exact⟨rfl,f⟩;clear f;obtain⟨rfl,f⟩:=hrel;have h3:=aC f c6.o;have c9:=O (aD c8 wr f);have d0:=O f;clear f;go_wp2_with(go_at_call 15;refine(aD c9).mono ?_;rintro e a5 ⟨rfl,G⟩;have L:=O (bE d0.o G);clear G);go_ret;exact⟨rfl,L.o⟩
def er(x:Cd):Cd:={x with ad:=zt,ln:=0,cp:=0}
def eT(T:List (aJ×U)):List (aJ×U):=T.map λa=>(a.1,.nilIface)
theorem aKl(a b:Cd):kX (er a) (er b)=kX a b:=rfl
theorem aKm{a:List Cd}{b c:Nat}(f:b<Z a)(i:c<Z a)(g:b<Z (a.map er))(j:c<Z (a.map er)):nM (a.map er) b c g j=(nM a b c f i).map er:=by simp[nM,List.map_set]
theorem aKn:∀(f:Nat) (c:List Cd) (b:Nat),fI f (c.map er) b=(fI f c b).map er
 |0,_,_=>rfl
 |f+1,c,b=>by
  unfold fI;by_cases a:0<b/\b<Z c
  .rw[dif_pos a,dif_pos (by simpa using a)];simp only[yz,aKl];split
   .rw[aKm a.2 (by omega),aKn f]
   rfl
  rw[dif_neg a,dif_neg (by simpa using a)]
theorem aKo(a:List Cd)(b:Nat):∀t,fJ (a.map er) b t=fJ a b t
 |0=>rfl
 |t+1=>by
  unfold fJ;have f:=aKo a b t;by_cases c:2*b+1+t<Z a/\fJ a b t<Z a
  .rw[dif_pos c,dif_pos (by rw[f];simpa using c)];simp only[yz,aKl,f]
  grind
theorem aKp:∀(f:Nat) (a:List Cd) (b:Nat),kY f (a.map er) b=(kY f a b).map er
 |0,_,_=>rfl
 |f+1,a,b=>by
  unfold kY;have g:=aKo a b 2;by_cases c:fJ a b 2≠b/\b<Z a/\fJ a b 2<Z a
  .rw[dif_pos c,dif_pos (by rw[g];simpa using c)];simp only[g];rw[aKm c.2.1 c.2.2,aKp f]
  grind
theorem aU7(a:List Cd):iC (a.map er)=(iC a).map er:=by
 unfold iC;rw[List.getLast?_map];cases a.getLast? with
 |none=>rfl
 |some y=>
  simp only[Option.map_some,yx];rw[<-aKp,List.map_take,List.map_set]
theorem aKq(a:List Lt->Bool):∀(f:Nat) (b:List Cd),dW a f (b.map er)=(dW a f b).map λg=>(er g.1,g.2.map er)
 |0,_=>rfl
 |f+1,[]=>rfl
 |f+1,x::r=>by
  have c:=aU7 (x::r);rw[z7]at c ⊢;show (if a x.c then dW a f (iC (er x::r.map er)) else zy (er x,iC (er x::r.map er)))=(if a x.c then dW a f (iC (x::r)) else zy (x,iC (x::r))).map _;rw[c];split
  .exact aKq a f _
  rfl
theorem aFt(a:List (aJ×U))(b:Nat):aO (eT a) b=aO a b:=by simp[aO,eT,Option.map_map,Function.comp_def]
theorem aCu(a:List (aJ×U)):Z (eT a)=Z a:=by simp[eT]
theorem aFu(a:List (aJ×U))(b:aJ×U):eT (a++[b])=eT a++[(b.1,.nilIface)]:=by simp[eT]
theorem aU8(a:List (aJ×U))(ks:List Nat)(b:List Lt):dE (eT a) ks b=dE a ks b:=by simp[dE,aFt,aCu]
theorem aKr(a:List (aJ×U))(b:Nat)(os:List Nat):eV (eT a) b os=eV a b os:=by simp[eV,aFt]
theorem aKs(T:List (aJ×U))(ks:List Nat):oN (eT T) ks↔oN T ks:=by simp[oN,aKr]
def wH:List (aJ×Int)->List Cd->Nat->Bool->List Cd×Nat×Bool
 |[],L,n,b=>(L,n,b)
 |x::r,L,n,b=>
  if x.2≠0\/bN x.1.c=zu then wH r L n zw
  else if dU x.1.c=zw then wH r L n b
  else wH r (fI (Z L) (L++[er (gV x.1 zt 0 n)]) (Z L)) (n+1) b
theorem bT.er:∀(F:List (aJ×Int)) {L c:List Cd}{n g:Nat}{b f:Bool},bT F L n b c g f->wH F (L.map er) n b=(c.map er,g,f)
 |[],L,c,n,g,b,f,a=>by
  obtain⟨rfl,rfl,rfl⟩:=a;rfl
 |x::F,L,c,n,g,b,f,a=>by
  unfold bT at a;unfold wH;split at a
  .rename_i i;rw[aT i];exact bT.er F a
  rename_i i;rw[aS i];split at a
  .rename_i j;rw[aT j];exact bT.er F a
  rename_i j;rw[aS j];obtain⟨k,m,a⟩:=a;rw[<-bT.er F a,<-aKn,List.map_append,yx];rfl
inductive PR(lim:Nat):List Cd->Nat->List (aJ×U)->List Nat->Bool->Nat×List (aJ×U)×List Nat×Bool->Prop
 |sat {L:List Cd}{n:Nat}{T:List (aJ×U)}{ks:List Nat} (h:dW (λc=>ks.any λk=>bL (aO T k) c) (Z L) L=none):PR lim L n T ks false (2,T,ks,false)
 |shut {L:List Cd}{n:Nat}{T:List (aJ×U)}{ks:List Nat} (h:dW (λc=>ks.any λk=>bL (aO T k) c) (Z L) L=none) (hc:oN T ks):PR lim L n T ks true (2,T,ks,true)
 |wide {L:List Cd}{n:Nat}{T:List (aJ×U)}{ks:List Nat} (h:dW (λc=>ks.any λk=>bL (aO T k) c) (Z L) L=none) (hc:¬oN T ks):PR lim L n T ks true (3,T,ks,true)
 |unsat {L L':List Cd}{n:Nat}{T:List (aJ×U)}{ks:List Nat}{b:Bool}{x:Cd} (h:dW (λc=>ks.any λk=>bL (aO T k) c) (Z L) L=some (x,L')) (hc:x.c=[]):PR lim L n T ks b (1,T++[(⟨x.r.toNat,x.a.toNat,x.b.toNat,x.i.toNat,x.j.toNat,x.c⟩,.nilIface)],ks,b)
 |out {L L':List Cd}{n:Nat}{T:List (aJ×U)}{ks:List Nat}{b:Bool}{x:Cd} (h:dW (λc=>ks.any λk=>bL (aO T k) c) (Z L) L=some (x,L')) (hc:x.c≠[]) (hl:Z T=lim):PR lim L n T ks b (3,T,ks,b)
 |take {L L':List Cd}{n:Nat}{T:List (aJ×U)}{ks:List Nat}{b:Bool}{x:Cd}{T':List (aJ×U)}{M:List Cd×Nat×Bool}{z:Nat×List (aJ×U)×List Nat×Bool} (h:dW (λc=>ks.any λk=>bL (aO T k) c) (Z L) L=some (x,L')) (hc:x.c≠[]) (hl:Z T≠lim) (hT:T'=T++[(⟨x.r.toNat,x.a.toNat,x.b.toNat,x.i.toNat,x.j.toNat,x.c⟩,.nilIface)]) (hM:M=wH (eV T' (Z T) (dE T ks x.c)) L' n b) (next:PR lim M.1 M.2.1 T' (dE T ks x.c) M.2.2 z):PR lim L n T ks b z
theorem PR.one{L:List Cd}{f:List (aJ×U)}{g:Bool}{z c:Nat×List (aJ×U)×List Nat×Bool}(a:PR lim L n f ks g z)(b:PR lim L n f ks g c):z=c:=by
 induction a generalizing c with
 |sat a=>
  cases b with
  |sat=>rfl
  |unsat h1=>rw[a]at h1;cases h1
  |out h1=>rw[a]at h1;cases h1
  |take h1=>rw[a]at h1;cases h1
 |shut a hc=>
  cases b with
  |shut=>rfl
  |wide _ h1=>exact absurd hc h1
  |unsat h1=>rw[a]at h1;cases h1
  |out h1=>rw[a]at h1;cases h1
  |take h1=>rw[a]at h1;cases h1
 |wide a hc=>
  cases b with
  |wide=>rfl
  |shut _ h1=>exact absurd h1 hc
  |unsat h1=>rw[a]at h1;cases h1
  |out _=>rfl
  |take h1=>rw[a]at h1;cases h1
 |unsat a hc=>
  cases b with
  |sat h1=>rw[a]at h1;cases h1
  |shut h1=>rw[a]at h1;cases h1
  |wide h1=>rw[a]at h1;cases h1
  |unsat h1=>rw[a]at h1;cases h1;rfl
  |out h1 h2=>rw[a]at h1;cases h1;exact absurd hc h2
  |take h1 h2=>rw[a]at h1;cases h1;exact absurd hc h2
 |out a hc hl=>
  cases b with
  |sat h1=>rw[a]at h1;cases h1
  |shut h1=>rw[a]at h1;cases h1
  |wide _=>rfl
  |unsat h1 h2=>rw[a]at h1;cases h1;exact absurd h2 hc
  |out=>rfl
  |take _ _ h2=>exact absurd hl h2
 |take a hc hl hT hM _ ih=>
  cases b with
  |sat h1=>rw[a]at h1;cases h1
  |shut h1=>rw[a]at h1;cases h1
  |wide h1=>rw[a]at h1;cases h1
  |unsat h1 h2=>rw[a]at h1;cases h1;exact absurd h2 hc
  |out _ _ h2=>exact absurd h2 hl
  |take h1 _ _ hT1 hM1 next=>
   grind
theorem eA.mono{f R:Nat->List (aJ×U)->List Nat->Bool->Prop}(c:∀g T ks b,f g T ks b->R g T ks b){L:List Cd}{n:Nat}{T:List (aJ×U)}{ks:List Nat}{b:Bool}(a:eA lim f L n T ks b):eA lim R L n T ks b:=by
 induction a with
 |sat hv a hq=>exact eA.sat hv a (c _ _ _ _ hq)
 |big hv a hF h2 h3=>exact eA.big hv a hF (λe=>c _ _ _ _ (h2 e)) (λe=>c _ _ _ _ (h3 e))
 |unsat s hs hv a hc hq=>exact eA.unsat s hs hv a hc (c _ _ _ _ hq)
 |out hv a hc hl hq=>exact eA.out hv a hc hl (c _ _ _ _ hq)
 |take s hs hv a hc hl hd hF hLF hnF _ ih=>exact eA.take s hs hv a hc hl hd hF hLF hnF ih
theorem zD{T:List (aJ×U)}{L:List Cd}:dW (λa=>ks.any λb=>bL (aO (eT T) b) a) (Z (L.map er)) (L.map er)=(dW (λa=>ks.any λb=>bL (aO T b) a) (Z L) L).map λc=>(er c.1,c.2.map er):=by rw[aKq,yx];simp only[aFt]
theorem aKt{x:Cd}{a:aJ}(k:xS x a.r a.a a.b a.i a.j/\x.c=a.c):(⟨(er x).r.toNat,(er x).a.toNat,(er x).b.toNat,(er x).i.toNat,(er x).j.toNat,(er x).c⟩:aJ)=a:=by obtain⟨⟨b,c,f,g,i⟩,j⟩:=k;show (⟨x.r.toNat,x.a.toNat,x.b.toNat,x.i.toNat,x.j.toNat,x.c⟩:aJ)=a;rw[b,c,f,g,i,j];rfl
theorem eA.pure{m:Nat->List (aJ×U)->List Nat->Bool->Prop}{L:List Cd}{T:List (aJ×U)}{b:Bool}(a:eA lim m L n T ks b):eA lim (λj f i g=>m j f i g/\PR lim (L.map er) n (eT T) ks b (j,eT f,i,g)) L n T ks b:=by
 induction a with
 |sat hv a c=>exact eA.sat hv a ⟨c,PR.sat (by rw[zD,a];rfl)⟩
 |big hv a hF h2 h3=>exact eA.big hv a hF (λe=>⟨h2 e,PR.shut (by rw[zD,a];rfl) ((aKs _ _).2 e)⟩) (λe=>⟨h3 e,PR.wide (by rw[zD,a];rfl) (λr=>e ((aKs _ _).1 r))⟩)
 |@unsat L L' n T ks b x s hs hv a hc c=>
  refine eA.unsat s hs hv a hc ⟨c,?_⟩;have:=PR.unsat (lim:=lim) (n:=n) (b:=b) (L:=L.map er) (T:=eT T) (ks:=ks) (x:=er x) (L':=L'.map er) (by rw[zD,a];rfl) (hs.2.trans hc);rw[aKt hs]at this;rw[aFu];exact this
 |@out L L' n T ks b x hv a hc hl c=>exact eA.out hv a hc hl ⟨c,PR.out (x:=er x) (L':=L'.map er) (by rw[zD,a];rfl) hc (by rw[aCu];exact hl)⟩
 |@take L L' n T ks b x s hs hv a hc hl hd hF hLF hnF _ ih=>
  refine eA.take s hs hv a hc hl hd hF hLF hnF λk q o p=>?_
  refine(ih k q o p).mono ?_;rintro j f i g ⟨c,u⟩;refine⟨c,?_⟩;have y:=p.er;rw[aFu]at u;have t:eT T++[(s,Value.nilIface)]=eT T++[(⟨(er x).r.toNat,(er x).a.toNat,(er x).b.toNat,(er x).i.toNat,(er x).j.toNat,(er x).c⟩,Value.nilIface)]:=by rw[aKt hs]
  have z:dE (eT T) ks (er x).c=dE T ks s.c:=by rw[aU8];show dE T ks x.c=_;rw[hs.2]
  refine PR.take (x:=er x) (L':=L'.map er) (M:=(k.map er,q,o)) (by rw[zD,a];rfl) (λe=>hc (hs.2.symm.trans e)) (by rw[aCu];exact hl) t ?_ ?_;all_goals grind[aCu,aFu,aKr]
def RdQ(i:ByteArray)(w:zs)(e:Ending)(f:zs):Prop:=
 ∃v a b c,e=.returned (.tuple #[v,iQ b,iQ c])/\iS i (a.map λg=>g.1.map zn) b c/\lT w.heap.size f v a/\aB w f
theorem lT.mono{f:Nat}{g:List (List (Lt×U)×U)}(a:lT B w v g)(b:f<=B):lT f w v g:=
 ⟨⟨fM a.mem.1 b,λp c=>⟨⟨fM (a.mem.2 p c).1.1 b,λj i=>fM ((a.mem.2 p c).1.2 j i) b⟩,(a.mem.2 p c).2⟩⟩,a.once,a.atoms⟩
theorem aFv(c:List Pl)(i:Nat):wI (c.map qX) i↔∀a b,a<i->¬lQ c a b:=by
 constructor
 .intro f a b o g;obtain⟨j,k⟩:=f a (by simpa using b) o;simp only[yz,qX]at j k;rcases g with g|⟨p,m,q,r⟩;all_goals grind
 intro f p m s;grind[lQ,pG,qX]
theorem aU9{a:List Pl}{g:Int}(m:wJ (a.map qX) g):(g=-1/\lR a (-1))\/∃b,∃j:b<Z a,g=b/\lR a a[b].2.2.2:=by
 rcases m with⟨rfl,p⟩|⟨b,j,rfl,i,o⟩
 .refine zj ⟨rfl,zj ⟨rfl,λf c=>?_⟩⟩;exact(aFv a (Z a)).1 (λf c _=>p f c) f c c
 have k:b<Z a:=by simpa using j
 rw[aFv a b]at i;rw[aFv a (b+1)]at o;refine zp ⟨b,k,rfl,zp ⟨b,k,?_,i,rfl⟩⟩;grind
theorem aUa(a:List Pl)(b:Nat)(c:b<Z a):(qZ a)[b]?=zy (iQ a[b].2.2.2):=by grind[qZ,zi]
theorem aUb(a:List Pc):jR a=(a.map lM).flatMap λb=>tV b.2:=by
 unfold jR;induction a with
 |nil=>rfl
 |cons x r ih=>rw[zf,ih,z7,zf];rfl
theorem aUc{b:ByteArray}(a6:b.size<=3000){i:bC}{t:List (Nat×List Lt)}(G:gX (fX b 0) (Z (fX b 0)+1) ⟨0,[],[]⟩ []=.ok (i,t))(I:0<Z (fX b 0))(a4:Z (fX b 0)<=3002){c:List Pc}(o:c.map lM=t):jR c=i.pz.map qX/\(∀a∈c,aFm a)/\(∀a∈c,∀g∈a.1.2,zR g.1.2)/\Z c<=3002/\Z i.pz<=3002/\(∀a∈i.pz,0<=a.2.2.2)/\∀j∈jR c,j.1.size<=1000000:=by
 obtain⟨a3,C,s,m,T,W,X,a0,a1,a2⟩:=bIc (aHt b (by omega)) (aEe b (by omega)) (bIg b 0) _ _ _ _ _ G I;simp only[List.nil_append]at s m;simp only[List.length_nil,Nat.zero_add,Nat.add_zero]at a0 a1;change i.i<Z (fX b 0)at X;have k:∀a∈c,aSg (fX b 0) (a.1.2.map zn):=λa f=>W (lM a) (by rw[<-m,<-o];exact List.mem_map.2 ⟨a,f,rfl⟩)
 have a5:Z c=Z C:=by rw[<-m,<-o];simp
 have q:jR c=i.pz.map qX:=by rw[aUb,o,m,s,T]
 refine⟨q,λa f=>⟨λg p=>(k a f).short g.1 (List.mem_map.2 ⟨g,p,rfl⟩),by have:=(k a f).count;omega,by have:=(k a f).len;simp at this;omega⟩,λa f g p n J P=>?_,by omega,by omega,by rw[s];exact a2,?_⟩
 .have:=(k a f).vars g.1 (List.mem_map.2 ⟨g,p,rfl⟩) n J P;omega
 intro j u;unfold jR at u;obtain⟨a,f,x⟩:=List.mem_flatMap.1 u;rw[aFa]at x;obtain⟨z,Q,N⟩:=List.mem_flatMap.1 x;have L:=(k a f).short z Q;have S:∀(l:List Nd) y,(∀n∈l,n.1.size<=1000000)->∀j∈mO y l,j.1.size<=1000000:=by
  intro l;induction l with
  |nil=>intro y _ j q;simp[mO]at q
  |cons n r ih=>
   grind[qW,mO,zl,z2]
 exact S z.2 0 L j N
theorem aKv(a:ByteArray)(w:zs)(g8:a.size<=140737488355328):Calls z1 16 #[.string a] w λe g1=>RdQ a w e g1:=by
 by_cases e6:3000<a.size
 .have e9:(3000:Int)<(a.size:Int):=by omega
  go_enter yj,yr;go_wp2;go_returns;exact⟨_,[],0,1,rfl,zj ⟨e6,rfl,rfl,rfl⟩,lT.nil _ _,dP⟩
 have e9:¬(3000:Int)<(a.size:Int):=by omega
 have m:a.size<=3000:=by omega
 have f0:Z (fX a 0)<=3002:=by have:=aHs a (a.size+1) 0;show Z (fY (cW a (a.size+1) 0))<=3002;unfold fY;split<;>simp<;>omega
 have N:=O (aTn a w m);have G:=(aEe a (by omega)).small;have c4:=aHt a (by omega);have c7:=aEe a (by omega);have o:=O (λL a2 S (T:wM w.heap.size L a2 a (fX a 0) ⟨0,[],[]⟩ S (nQ) (nQ) []) (e7:w.heap.size<=L.heap.size)=>aTe (λf4=>aX2 a 0 f4) G m (by omega) (λJ h7 g3 b f1=>by have:=aHo c4 c7 b f1;omega) T e7 (zo _) (zo _));have q:aE (sV a=gX (fX a 0) (Z (fX a 0)+1) ⟨0,[],[]⟩ []):=O rfl;clear G c4 c7;cases b:gX (fX a 0) (Z (fX a 0)+1) ⟨0,[],[]⟩ []with
 |error p=>
  rw[List.map_nil,b]at o;rw[b]at q;clear b;go_enter yj,yr;go_wp2_with(first
   |(go_at_call 27;refine(o.o _ _ _ z.o j.o.size).mono ?_;rintro e a3 ⟨t,h0,f8,g0,f9,rfl,c2,c3⟩;obtain⟨f5,b6,_⟩:=c2.box;have e3:=b6.c2;rw[c3]at e3;have r:=O (j.o.trans t);clear t c2 c3 b6)
   |(go_at_call 26;refine(aD N).mono ?_;rintro e L ⟨a2,S,rfl,s,x⟩;have j:=O s;have z:=O x;clear s x)
   |go_in)
  go_quiet (fail);go_wp2;go_returns;refine⟨_,[],p,2,rfl,zp ⟨m,?_⟩,lT.nil _ _,bE r.o (aN ⟨_,rfl⟩)⟩;rw[q.o];exact⟨rfl,rfl,rfl⟩
 |ok y=>
  obtain⟨J,e2⟩:=y;rw[List.map_nil,b]at o;rw[b]at q;have a7:=O (λ(W:0<Z (fX a 0)) (c:List Pc) (C:c.map lM=e2)=>aUc m b W f0 C);clear b;go_enter yj,yr;go_upto_region 6 with(first
   |(go_at_call 27;refine(o.o _ _ _ z.o j.o.size).mono ?_;rintro e a3 ⟨t,f8,g0,c,rfl,c5,C⟩;have r:=O (j.o.trans t);have k:=O c5;have a6:=O C;clear t c5 C)
   |(go_at_call 26;refine(aD N).mono ?_;rintro e L ⟨a2,S,rfl,s,x⟩;have j:=O s;have z:=O x;clear s x)
   |go_in)
  clear N o;obtain⟨f9,a0⟩:=k.o.pp;obtain⟨f5,X,g7⟩:=a0.box;have Q:=X.c4;have b1:=X.c5;obtain⟨I,a1,c9,h1,h2,d0,d1⟩:=a7.o (Nat.lt_of_le_of_lt (zo _) a0.lt) c a6.o;have a5:=O (aTk k.o.cs Q a1 (by omega) (by rw[I];simp;omega));have a4:=O (λwx (G:aB a3 wx)=>bI6 (k.o.cs.below G) a1 c9 (by omega));obtain⟨i0,i1,f3⟩:=aZ k.o.cs.row;obtain⟨h3,h4,f2⟩:=aZ k.o.pz;have a8:=O k.o.pz;subst f3;subst f2;have d8:aE (jR c=J.pz.map qX):=O I;have d6:=O d0;have e8:Z (jR c)<=1000000:=by rw[I];simp;omega
  have b2:∀f (T:f<Z (jR c)),(jR c)[f].1.size<=140737488355328:=λf T=>za (d1 _ (zr _)) (by omega)
  have d9:=O b2;have c8:=r.o.size;clear I a1 c9 d0 d1 b2 a7 X a0 z j;go_upto_region 7 with(first
   |(go_at_call 28;refine(aVd f6 f7 (jR c) g2 d7.o).mono ?_;rintro e i2 ⟨h6,rfl,i,b4⟩;have a9:=O i;have g:=O (bE d2.o b4);clear i b4)
   |(go_at_call 29;refine(aD a5).mono ?_;rintro e g2 ⟨h8,rfl,c0,b3⟩;obtain⟨f6,f7,rfl,c6⟩:=aV3 c0 e8 d9.o;have d7:=O c6;have d2:=O b3;clear c0 b3 c6)
   |go_in)
  have g9:=g.o.size;have g4:=aC g.o Q;have g5:=aC g.o b1;have i:=a9.o;rw[d8.o]at i;clear a9 a5 Q b1;rcases aU9 i with⟨rfl,u⟩|⟨f,b8,rfl,u⟩
  .have P:=O u;clear i u;go_wp2_with(first
    |(go_at_call 30;refine(a4.o _ g.o).mono ?_;rintro e i3 ⟨h9,e0,e1,e4,rfl,b9,c1,b5⟩;have d4:=O b9;have d5:=O c1;have d3:=O b5;clear b9 c1 b5)
    |go_in)
   go_returns;refine⟨_,e0,e1,e4,rfl,zp ⟨m,?_⟩,d5.o.mono (by omega),r.o.trans ((g.o.mono c8).trans (d3.o.mono (by omega)))⟩;rw[q.o];refine⟨-1,P.o,zp ⟨by omega,?_⟩⟩;rw[<-a6.o];exact d4.o
  have P:=O u;have W:=d6.o _ (zr b8);obtain⟨e5,g6,b7⟩:=mJ a8.o (by omega);simp at b7;obtain⟨rfl,rfl⟩:=b7;have b0:zv a3 (aQ e5 f)=zy (iQ J.pz[f].2.2.2):=by rw[a8.o.cellAt _ (by omega),aUa _ f b8]
  have h5:=aC g.o b0;clear i u a4 b0;generalize J.pz[f].2.2.2=pk at *;go_wp2;go_quiet (fail);go_wp2;go_returns;refine⟨_,[],pk,3,rfl,zp ⟨m,?_⟩,lT.nil _ _,(r.o.trans (g.o.mono c8)).trans ((aN ⟨_,rfl⟩).mono (by omega))⟩;rw[q.o];exact⟨pk,P.o,zj ⟨W,rfl,rfl,rfl⟩⟩
theorem lT.cls{g:List (List (Lt×U)×U)}(a:lT B w v g):uI B w v (g.map λc=>(c.1.map zn,c.2)):=by
 refine⟨?_,λc i=>?_⟩
 .have:=a.mem.1;simpa[yq,Function.comp_def]using this
 obtain⟨f,b,rfl⟩:=List.mem_map.1 i;refine⟨f.1,rfl,(a.mem.2 f b).1.1,(a.mem.2 f b).1.2,?_⟩;have:=aRk a.atoms b;grind
theorem lT.ap{B:Nat}{w:zs}:∀{g:List (List (Lt×U)×U)},(∀p∈g,lA w B p)->(g.map λp=>zh p.2).Nodup->(g.flatMap λp=>p.1.filterMap λa=>zh a.2).Nodup->Ap w (g.map zq)
 |[],_,_,_=>Ap.nil w
 |p::r,hc,h1,h2=>by
  rw[z7,List.nodup_cons]at h1;rw[zf,zb]at h2;have J:=lT.ap (λa b=>hc a (by simp[b])) h1.2 h2.2.1;have i:=hc p (by simp);have o:∀a∈p::r,blk w a.2=a.2.ownBlock.toList++a.1.filterMap λj=>zh j.2:=λa b=>by rw[aAf (hc a b).1,yu];rfl
  unfold Ap;rw[z7,zf,zb];refine⟨aRj (c:=p.1.map zn) ⟨p.1,rfl,i.1,i.2,by rw[yu];exact h2.1⟩,J,λf ha L hb e=>?_⟩;subst e;obtain⟨Q,z,hb⟩:=List.mem_flatMap.1 hb;obtain⟨a,b,rfl⟩:=List.mem_map.1 z;have s:=hc a (by simp[b]);rw[o p (by simp)]at ha;rw[o a (by simp[b])]at hb;have t:∀{j u:List (Lt×U)×U},lA w B j->lA w B u->zh j.2=zy f->f∈(u.1.filterMap λm=>zh m.2)->False:=λC G y k=>by
   obtain⟨_,N,x⟩:=aAg C.1 y;obtain⟨m,I,k⟩:=List.mem_filterMap.1 k;obtain⟨_,P,q⟩:=aAg (G.2 m I) k;rw[x]at q;simp at q
  rcases List.mem_append.1 ha with ha|ha<;>rcases List.mem_append.1 hb with hb|hb
  .exact h1.1 (List.mem_map.2 ⟨a,b,by rw[show zh a.2=zy f by simpa using hb,show zh p.2=zy f by simpa using ha]⟩)
  .exact t i s (by simpa using ha) hb
  .exact t s i (by simpa using hb) ha
  exact h2.2.2 f ha f (List.mem_flatMap.2 ⟨a,b,hb⟩) rfl
theorem uI.fsts(b:List (List (Lt×U)×U)):(b.map λa=>(a.1.map zn,a.2)).map zn=b.map λa=>a.1.map zn:=by simp[yq,Function.comp_def]
def A5(w:zs)(a:Nat)(b c f g i:U):Prop:=w.heap[a]?=zy (.cells #[b,c,f,g,i] 41 (0,0))
def pB(w:zs)(a:Nat)(b c f g i:U):zs:=(zm (zm (zm (zm (zm w (aQ a 0) b) (aQ a 1) c) (aQ a 2) f) (aQ a 3) g) (aQ a 4) i)
theorem A5.cells{b:Nat}{a c f g i:U}(j:A5 w b a c f g i):zv w (aQ b 0)=zy a/\zv w (aQ b 1)=zy c/\zv w (aQ b 2)=zy f/\zv w (aQ b 3)=zy g/\zv w (aQ b 4)=zy i:=by refine⟨?_,?_,?_,?_,?_⟩<;>simp[zv,show w.heap[b]?=_ from j]
theorem A5.frz{a:Nat}{f g i j k:U}(b:A5 w a f g i j k)(c:Nat):World.frozen? w (aQ a c)=false:=by simp[World.frozen?,show w.heap[a]?=_ from b]
theorem A5.put{b:Nat}{s t u x y:U}(c:A5 w b s t u x y)(j m o p q:U):A5 (pB w b j m o p q) b j m o p q/\z8 w (pB w b j m o p q) (zy b):=by
 have f:∀(a:zs) (i:Array U) (k:Nat) (v:U),a.heap[b]?=zy (.cells i 41 (0,0))->(zm a (aQ b k) v).heap[b]?=zy (.cells (i.setIfInBounds k v) 41 (0,0)):=λa i k v g=>by
  have r:=(bA g);show (a.heap.modify b _)[b]?=_;rw[Array.getElem?_eq_getElem (by rw[Array.size_modify];exact r),Array.getElem_modify_self,(Array.getElem?_eq_some_iff.1 g).2];rfl
 constructor
 .unfold A5 pB;rw[f _ _ 4 _ (f _ _ 3 _ (f _ _ 2 _ (f _ _ 1 _ (f _ _ 0 _ c))))];simp
 unfold pB;have c:∀(a:zs) (k:Nat) (v:U),z8 w a (zy b)->z8 w (zm a (aQ b k) v) (zy b):=λa k v g=>nL g (cD a (aQ b k) v)
 exact c _ _ _ (c _ _ _ (c _ _ _ (c _ _ _ (c _ _ _ ⟨rfl,rfl,rfl,zk _,λ_ _ _=>rfl⟩))))
theorem zE{c f:zs}{a:Nat}(b:aB w c)(i:z8 c f (zy a))(g:w.heap.size<=a):aB w f:=
 b.grown i b.size (λj e=>by cases e;exact g)
theorem iW.low{a:Nat}{b:List (aJ×U)}(c:iW B w v b)(f:a<=B):iW a w v b:=⟨fM c.row f,λp g=>(c.cl p g).low f⟩
theorem yT.kept{S:List TypeId}{c:Nat}{q:zs}{m:Nat}{p o:U}{j:Nat}{f:List (aJ×U)}(h:yT B w m p o j f ks)(i:c<=B)(k:dH S w q)(r:48∉S)(g:55∉S)(s:52∉S)(t:3∉S):yT c q m p o j f ks:=
 ⟨(h.st.low i).kept k r g s,by rcases h.kp with⟨a,b⟩|h;exact zj ⟨a,k.row (fM b i) t⟩;exact zp h,h.us,h.ap.kps (λz x=>by
  obtain⟨y,u,rfl⟩:=List.mem_map.1 x;exact⟨B,_,h.st.cl y u⟩) k g⟩
def qK:U:=.agg #[iQ 0,nQ,nQ,iQ 0,.bool zu]
def xY(p:ByteArray)(lim:Int)(m:List (List Lt)->Nat->List (aJ×U)->List Nat->Bool->Prop)(w:zs)(e:Ending)(k:zs):Prop:=
 ∃out o a,iS p out o a/\aB w k/\((a≠0/\e=.returned (.tuple #[qK,iQ a]))\/(a=0/\¬(1<=lim/\lim<=100)/\e=.returned (.tuple #[qK,iQ 7]))\/
  (a=0/\1<=lim/\lim<=100/\∃b j i g f c ks,e=.returned (.tuple #[mN b j i g f,iQ 0])/\yT w.heap.size k b j i g c ks/\aCc (m out) b c ks f))
theorem aUd(m:ByteArray)(lim:Int)(q:List (List Lt)->Nat->List (aJ×U)->List Nat->Bool->Prop)(w:zs)(g1:m.size<=140737488355328)(d5:∀out f2,iS m out f2 0->(∀b5∈out,bD b5=zw)/\Z out<=1000/\∀l:Nat,lim=l->1<=l->l<=100->∀d1 n,bT (iX out) [] 0 zu d1 n zu->eA l (q out) d1 n [] [] zu):Calls z1 18 #[.string m,iQ lim] w λe h1=>xY m lim q w e h1:=by
 obtain⟨a,g2,a7,b2,i0⟩:∃a,w.alloc (.cells #[iQ 0,nQ,nQ,iQ 0,.bool zu] 41)=a/\aB w a/\A5 a w.heap.size (iQ 0) (nQ) (nQ) (iQ 0) (.bool zu)/\a.heap.size=w.heap.size+1:=⟨_,rfl,aI w _,ze w _,by simp⟩;have p:=O (aKv m a g1);have a5:=O d5;clear d5;go_enter Tryz.func18,Tryz.ntmps18;go_upto_region 1 with(fail);clear g2;go_wp2_with(first
  |(go_at_call 16;refine(aD p).mono ?_)
  |go_in)
 clear p;rintro e c ⟨v,b4,h4,Q,rfl,i,j,y⟩;have f:A5 c w.heap.size (iQ 0) (nQ) (nQ) (iQ 0) (.bool zu):=(y.block _ (by omega)).trans b2;have z:aB w c:=a7.trans (y.mono (by omega));have c1:=y.size;obtain⟨i2,i3,rfl⟩:=aZ j.mem.1;have c7:=O i;have d0:=O f;have c3:=O z;by_cases a8:Q=0
 .subst a8;obtain⟨C,b0,b1⟩:=a5.o _ _ i;by_cases a9:1<=lim/\lim<=100
  .obtain⟨l,rfl⟩:∃l:Nat,lim=l:=⟨lim.toNat,by omega⟩;have f7:1<=l:=by omega
   have d9:l<=100:=by omega
   have h5:decide ((l:Int)<1)=false:=by simp;omega
   have h6:decide ((100:Int)<(l:Int))=false:=by simp;omega
   have e1:∀b5∈b4.map (λs=>s.1.map zn),bD b5=true:=C;have p:=O (bI0 a.heap.size _ _ c j.cls (λs b=>C s.1 (by
    obtain⟨g7,g0,rfl⟩:=List.mem_map.1 b;exact List.mem_map.2 ⟨g7,g0,rfl⟩)) (by simpa using b0) c1 (by
    have:=lT.ap (λs b=>(j.mem.2 s b).1) j.once j.atoms;simpa[yq,Function.comp_def]using this))
   rw[uI.fsts]at p;obtain⟨out,f9⟩:∃out,(b4.map λs=>s.1.map zn)=out:=⟨_,rfl⟩;rw[f9]at p b1 e1 b0 C i;have c9:aE (∀t b o,aJf a.heap.size c t b out (Z out) o->aF9 a.heap.size t b l (aCc (q out)) o o):=O λt b o ⟨i1,d2,e4,f4,a6,b6⟩=>by
    have f6:Z (iX out)=Z out:=by simp[iX]
    rw[show (iX out).take (Z out)=iX out by rw[<-f6,List.take_length]]at a6;have f8:=bT.len _ a6;simp at f8;refine⟨_,_,_,d2,e4,[],[],zu,f4,(b1 l rfl f7 d9 d2 e4 a6).tag,⟨λh3 g3=>?_,by simp,by simp,by simp,by omega,by omega⟩,by simp,Mv.refl _ _ _,za c1 b6.size⟩;rcases a6.mem _ h3 g3 with f3|⟨i4,e2,_,_,g4⟩
    .simp at f3
    rw[g4];simp only[iX,List.mem_mapIdx]at e2;obtain⟨g5,b8,rfl⟩:=e2;exact C _ (zr b8)
   have c8:=O i;clear i b2 f j a7 y z a5 C b0 b1 e1 c7 a9;generalize Z b4=qn at *;go_wp2_with(first
    |(go_at_call 34;refine(aD p).mono ?_)
    |go_in)
   rintro e o ⟨t,b,rfl,c0⟩;have c4:=O (show Mv oZ a.heap.size c o by
    obtain⟨_,_,_,_,_,b6⟩:=c0;exact b6.mono (by decide) (zk _))
   have c2:=O (bHx a.heap.size t b l (aCc (q out)) o (c9.o t b o c0) d9);clear c0 c9 p;go_wp2_with(first
    |(go_at_call 36;refine(aD c2).mono ?_)
    |go_in)
   rintro e h2 ⟨u,g8,h0,g9,f1,g6,d3,e3,r,rfl,d6,b9,f5,e0⟩;have c5:=O (c4.o.trans e0);have b3:=O (bI2 a.heap.size t b g8 h0 g9 f1 g6 u d3 e3 r h2 d6 b9.2 (by omega));unfold mN at b3;have c6:=O b9;clear d6 b9 f5 e0 c2 c4;go_wp2_with(first
    |(go_at_call 35;refine(aD b3).mono ?_)
    |go_in)
   rintro e a1 ⟨a2,a4,a3,W,a0,X,P,rfl,d4,d7⟩;have b7:Mv oZ a.heap.size c a1:=c5.o.trans (Mv.of_below d7);have T:A5 a1 w.heap.size (iQ 0) (nQ) (nQ) (iQ 0) (.bool zu):=b7.cells d0.o (by decide);have d8:aB w a1:=c3.o.trans ((b7.below c1).mono (by omega));obtain⟨e5,e6,e7,e8,e9⟩:=T.cells;have f0:=T.frz;obtain⟨k,g⟩:=T.put (iQ u) (.slice a2 a4 a3) (.slice W a0 X) (iQ P) (.bool r);obtain⟨G,I,J,L,N⟩:=k.cells;have x:aE (xY m l q w (.returned (.tuple #[mN u (.slice a2 a4 a3) (.slice W a0 X) P r,iQ 0])) (pB a1 w.heap.size (iQ u) (.slice a2 a4 a3) (.slice W a0 X) (iQ P) (.bool r))):=O
    ⟨out,_,_,c8.o,zE d8 g (zk _),zp (zp ⟨rfl,by omega,by omega,u,_,_,P,r,d3,e3,rfl,d4.kept (by omega) (Mv.of_grown (S:=[41]) (B:=0) g (λg5 b8=>by cases b8;exact⟨zo _,_,_,T,by simp⟩)).kps (by decide) (by decide) (by decide) (by decide),c6.o⟩)⟩
   clear d4 d7 b7 T d8 k g b3 c5 c6 c8 c3 d0;go_wp2_with(fail);refine bodyPost_ret (v:=.tuple #[mN u (.slice a2 a4 a3) (.slice W a0 X) P r,iQ 0]) (w:=pB a1 w.heap.size (iQ u) (.slice a2 a4 a3) (.slice W a0 X) (iQ P) (.bool r)) (by simp[results,z3,go_sem,G,I,J,L,N,mN];try rfl) rfl ?_;exact x.o
  have hl3:lim<1\/100<lim:=by omega
  obtain⟨e5,e6,e7,e8,e9⟩:=f.cells;have f0:=f.frz;obtain⟨k,g⟩:=f.put (iQ 0) (nQ) (nQ) (iQ 0) (.bool zu);obtain⟨G,I,J,L,N⟩:=k.cells;have x:aE (xY m lim q w (.returned (.tuple #[qK,iQ 7])) (pB c w.heap.size (iQ 0) (nQ) (nQ) (iQ 0) (.bool zu))):=O ⟨_,_,_,i,zE z g (zk _),zp (zj ⟨rfl,a9,rfl⟩)⟩;clear i b2 f k g j a7 y z a5 C b0 b1 c7;rcases hl3 with hl3|hl3
  .clear a9;go_wp2_with(fail);refine bodyPost_ret (v:=.tuple #[qK,iQ 7]) (w:=pB c w.heap.size (iQ 0) (nQ) (nQ) (iQ 0) (.bool zu)) (by simp[results,z3,go_sem,G,I,J,L,N,qK];try rfl) rfl ?_;exact x.o
  have h9:decide (lim<1)=false:=by simp;omega
  clear a9;go_wp2_with(fail);refine bodyPost_ret (v:=.tuple #[qK,iQ 7]) (w:=pB c w.heap.size (iQ 0) (nQ) (nQ) (iQ 0) (.bool zu)) (by simp[results,z3,go_sem,G,I,J,L,N,qK];try rfl) rfl ?_;exact x.o
 have h7:(Q==0)=false:=by simpa using a8
 have h8:(Q != 0)=true:=by simpa using a8
 obtain⟨e5,e6,e7,e8,e9⟩:=f.cells;have f0:=f.frz;obtain⟨k,g⟩:=f.put (iQ 0) (nQ) (nQ) (iQ 0) (.bool zu);obtain⟨G,I,J,L,N⟩:=k.cells;have x:aE (xY m lim q w (.returned (.tuple #[qK,iQ Q])) (pB c w.heap.size (iQ 0) (nQ) (nQ) (iQ 0) (.bool zu))):=O ⟨_,_,_,i,zE z g (zk _),zj ⟨a8,rfl⟩⟩;clear i b2 f k g j a7 y z a5;go_wp2_with(fail);refine bodyPost_ret (v:=.tuple #[qK,iQ Q]) (w:=pB c w.heap.size (iQ 0) (nQ) (nQ) (iQ 0) (.bool zu)) (by simp[results,z3,go_sem,G,I,J,L,N,qK];try rfl) rfl ?_;exact x.o
theorem aKw(q:ByteArray)(lim:Int)(x:List (List Lt)->Nat->List (aJ×U)->List Nat->Bool->Prop)(w:zs)(b2:q.size<=140737488355328)(a2:∀out a8,iS q out a8 0->(∀a9∈out,bD a9=zw)/\Z out<=1000/\∀l:Nat,lim=l->1<=l->l<=100->∀T n,bT (iX out) [] 0 zu T n zu->eA l (x out) T n [] [] zu):Calls z1 9 #[.string q,iQ lim] w λe c2=>xY q lim x w e c2:=by
 obtain⟨r,b3,a3,a4,c3⟩:∃r,w.alloc (.cells #[iQ 0,nQ,nQ,iQ 0,.bool zu] 41)=r/\aB w r/\A5 r w.heap.size (iQ 0) (nQ) (nQ) (iQ 0) (.bool zu)/\r.heap.size=w.heap.size+1:=⟨_,rfl,aI w _,ze w _,by simp⟩;have Q:=O (aUd q lim x r b2 a2);clear a2;go_enter Tryz.func9,Tryz.ntmps9;go_upto_region 1 with(fail);clear b3;go_wp2_with(first
  |(go_at_call 18;refine(aD Q).mono ?_)
  |go_in)
 clear Q;rintro e G ⟨out,I,J,C,P,a0⟩;have g:A5 G w.heap.size (iQ 0) (nQ) (nQ) (iQ 0) (.bool zu):=(P.block _ (by omega)).trans a4;have z:aB w G:=a3.trans (P.mono (by omega));obtain⟨m,i,k,j,a,c,b,o,p,y,rfl,a1⟩:∃(m:Int) (i:Option Addr) (k j:Nat) (a:Option Addr) (c b:Nat) (o:Int) (p:Bool) (y:Int),e=.returned (.tuple #[.agg #[iQ m,.slice i k j,.slice a c b,iQ o,.bool p],iQ y])/\xY q lim x w (.returned (.tuple #[.agg #[iQ m,.slice i k j,.slice a c b,iQ o,.bool p],iQ y])) (pB G w.heap.size (iQ m) (.slice i k j) (.slice a c b) (iQ o) (.bool p)):=by
  rcases a0 with⟨s,rfl⟩|⟨s,L,rfl⟩|⟨s,L,b0,a6,d1,c1,a5,X,W,ks,rfl,N,b1⟩
  .obtain⟨u,f⟩:=g.put (iQ 0) (nQ) (nQ) (iQ 0) (.bool zu);exact⟨_,_,_,_,_,_,_,_,_,_,rfl,out,I,J,C,zE z f (zk _),zj ⟨s,rfl⟩⟩
  .obtain⟨u,f⟩:=g.put (iQ 0) (nQ) (nQ) (iQ 0) (.bool zu);exact⟨_,_,_,_,_,_,_,_,_,_,rfl,out,I,J,C,zE z f (zk _),zp (zj ⟨s,L,rfl⟩)⟩
  obtain⟨b9,c0,rfl⟩:=aZ N.st.row;obtain⟨a,c,b,rfl⟩:∃a c b,c1=.slice a c b:=by
   rcases N.kp with⟨_,t⟩|⟨_,t⟩
   .obtain⟨a,b,rfl⟩:=aZ t;exact⟨_,_,_,rfl⟩
   exact⟨_,_,_,t⟩
  obtain⟨u,f⟩:=g.put (iQ a6) (.slice b9 (Z W) c0) (.slice a c b) (iQ a5) (.bool X);exact⟨_,_,_,_,_,_,_,_,_,_,rfl,out,I,J,C,zE z f (zk _),zp (zp ⟨s,L,b0,a6,_,_,a5,X,W,ks,rfl,N.kept (by omega) (Mv.of_grown (S:=[41]) (B:=0) f (λc4 t=>by cases t;exact⟨zo _,_,_,g,by simp⟩)).kps (by decide) (by decide) (by decide) (by decide),b1⟩)⟩
 obtain⟨c5,c6,c7,c8,c9⟩:=g.cells;have d0:=g.frz;obtain⟨u,f⟩:=g.put (iQ m) (.slice i k j) (.slice a c b) (iQ o) (.bool p);obtain⟨b4,b5,b6,b7,b8⟩:=u.cells;have a7:=O a1;clear a1 C a0 a4 g z a3 P u f;go_wp2_with(fail);refine bodyPost_ret (v:=.tuple #[.agg #[iQ m,.slice i k j,.slice a c b,iQ o,.bool p],iQ y]) (w:=pB G w.heap.size (iQ m) (.slice i k j) (.slice a c b) (iQ o) (.bool p)) (by simp[results,Tryz.results9,go_sem,b4,b5,b6,b7,b8];try rfl) rfl ?_;exact a7.o
theorem aUe{R:Nat->Nat->Prop}(k:∀b,R b b)(p:∀b f,R b f->R f b)(m:∀b f j,R b f->R f j->R b j):∃o:Nat->Nat,∀a c,o a=o c↔R a c:=by
 refine⟨λa=>Classical.epsilon (R a),λa c=>⟨λg=>?_,λg=>?_⟩⟩
 .have q:R a (Classical.epsilon (R a)):=Classical.epsilon_spec ⟨a,k a⟩;have r:R c (Classical.epsilon (R c)):=Classical.epsilon_spec ⟨c,k c⟩;grind
 have:R a=R c:=funext λj=>propext ⟨λi=>m _ _ _ (p _ _ g) i,λi=>m _ _ _ g i⟩
 grind
theorem aCv(M:List Tg)(g i:Nat):∃f:Nat->Nat,∀b c,f b=f c↔cX M g i b c:=
 aUe (λj=>Cl.refl j) (λ_ _ a=>Cl.symm a) (λ_ _ _ a k=>Cl.trans a k)
def aAw(n:Nd):Prop:=aK n=zu/\bI n=0
theorem aUf{n:Nd}(W:aAw n)(t u:Int)(rest:List (Int×Lt))(r:∀a∈rest,∃c,a.2.2=[c]/\aAw c)(x:aY (bB (rest.map zq))<=500):fD [(t,n),(u,n)] 0 1 rest (bB (rest.map zq)) zw 0:=by
 have q:∀m∈[(t,n),(u,n)]++aL rest,aAw m.2:=by
  intro m hx;rcases List.mem_append.1 hx with hx|hx
  .simp at hx;rcases hx with rfl|rfl<;>exact W
  obtain⟨a,a0,C⟩:=List.mem_flatMap.1 hx;obtain⟨c,e,p⟩:=r a a0;rw[e]at C;simp at C;subst C;exact p
 obtain⟨M,i⟩:∃M,[(t,n),(u,n)]++aL rest=M:=⟨_,rfl⟩;have o:∀b,(aF (M.map zq)).ch b=[]:=by
  intro b;unfold aF;simp only;cases hi:(M.map zq)[b]? with
  |none=>rfl
  |some c=>
   simp only;have p:c∈M.map zq:=yw hi;obtain⟨m,hx,rfl⟩:=List.mem_map.1 p;rw[<-i]at hx;rw[(q m hx).2];rfl
 have s:∀b,cA M b=b:=by
  intro b;cases hi:M[b]? with
  |none=>exact aAa (List.getElem?_eq_none_iff.1 hi)
  |some m=>exact xK hi (q m (by rw[i];exact yw hi)).1
 have y:∀b k,cX M 0 1 b k->(aF (M.map zq)).lab b=(aF (M.map zq)).lab k:=by
  intro b k f;induction f with
  |refl=>rfl
  |base f=>
   rcases f with f|⟨rfl,rfl⟩
   .rw[s,s]at f;rw[f]
   unfold aF;rw[<-i];rfl
  |symm _ ih=>exact ih.symm
  |trans _ _ ih1 ih2=>exact ih1.trans ih2
  |down _ _ _ f=>rw[o]at f;simp at f
 obtain⟨L,I⟩:=aCv M 0 1;refine zp ⟨⟨λb k f _ _=>?_,λJ _=>⟨J,λk _ _ a3 P=>?_⟩⟩,L,rest.map (λa=>a.2.2),?_,?_,zp ⟨?_,?_,rfl,rfl⟩⟩
 .rw[i]at f ⊢;exact y b k f
 .rw[i,o]at P;cases P
 .rw[i];exact I
 .rw[i];have a1:∀(g:List (Int×Lt)) (j:List Tg),j++aL g=M->(∀a∈g,∃c,a.2.2=[c]/\aAw c)->aU (λJ l=>aX (aF (M.map zq)) (cX M 0 1) L [J] l) (bO (Z j) g) (g.map (λa=>a.2.2)):=by
   intro g;induction g with
   |nil=>intro _ _ _;exact aU.nil
   |cons a g ih=>
    intro j z Q;obtain⟨c,e,p⟩:=Q a (by simp);have X:aL (a::g)=(a.1,c)::aL g:=by simp[aL,e]
    rw[X]at z;have T:(M.map zq)[j.length]?=zy c:=by rw[<-z];simp
    refine aU.cons ?_ ?_
    .show aX _ _ _ _ a.2.2;rw[e];have N:(aF (M.map zq)).lab (Z j)=c:=by unfold aF;simp only[T,Option.getD_some]
     have:=aX.name (G:=aF (M.map zq)) (R:=cX M 0 1) (rep:=L) (i:=Z j) (j:=Z j) (r:=[]) (l:=[]) (Cl.refl _) (by unfold Gr.named;rw[N];exact p.1) (by rw[o];exact aX.nil);rwa[N]at this
    have:=ih (j++[(a.1,c)]) (by rw[<-z];simp) (λa2 S=>Q a2 (by simp[S]));simpa[e]using this
  exact a1 rest [(t,n),(u,n)] i r
 .have:dS rest (rest.map λa=>a.2.2)=rest.map zq:=by
   unfold dS;clear q i o s y I r x;induction rest with
   |nil=>rfl
   |cons a g ih=>simp at ih ⊢;exact ih
  rw[this];exact x
 have:dS rest (rest.map λa=>a.2.2)=rest.map zq:=by
  unfold dS;clear q i o s y I r x;induction rest with
  |nil=>rfl
  |cons a g ih=>simp at ih ⊢;exact ih
 rw[this]
def kM:List Tg:=aW 0 sT++aW 1 sU
theorem aUg:fD (aW 0 sT++aW 1 sU) 0 2 [] [] zw 0:=by
 have u:(aF (kM.map zq)).ch 0=[1]:=by kernel_rfl
 have x:(aF (kM.map zq)).ch 1=[]:=by kernel_rfl
 have y:(aF (kM.map zq)).ch 2=[3]:=by kernel_rfl
 have z:(aF (kM.map zq)).ch 3=[]:=by kernel_rfl
 have C:∀i,(aF (kM.map zq)).ch (i+4)=[]:=λi=>rfl
 have f:∀i b c:Nat,((aF (kM.map zq)).ch i)[b]?=zy c->(i=0\/i=2)/\(c=1\/c=3):=by
  intro i b c h;match i with
  |0=>
   rw[u]at h;cases b with
   |zero=>simp at h;omega
   |succ b=>simp at h
  |1=>rw[x]at h;simp at h
  |2=>
   rw[y]at h;cases b with
   |zero=>simp at h;omega
   |succ b=>simp at h
  |3=>rw[z]at h;simp at h
  |i+4=>rw[C]at h;simp at h
 have N:cA kM 0=0:=by kernel_rfl
 have P:cA kM 1=1:=by kernel_rfl
 have Q:cA kM 2=2:=by kernel_rfl
 have S:cA kM 3=3:=by kernel_rfl
 have r:∀i,cA kM i=i:=λi=>by
  match i with
  |0=>exact N
  |1=>exact P
  |2=>exact Q
  |3=>exact S
  |i+4=>rfl
 have q:∀i a,cX kM 0 2 i a->i=a\/(i<4/\a<4/\i % 2=a % 2):=by
  intro i a h;induction h with
  |refl=>exact zj rfl
  |base h=>
   rcases h with h|⟨rfl,rfl⟩
   .rw[r,r]at h;exact zj h
   exact zp (by omega)
  |symm _ ih=>omega
  |trans _ _ ih1 ih2=>omega
  |down _ _ _ h1 h2=>
   obtain⟨_,W⟩:=f _ _ _ h1;obtain⟨_,X⟩:=f _ _ _ h2;omega
 have t:¬(aF (kM.map zq)).named 3:=λh=>Bool.noConfusion (h.symm.trans (show aK ((aF (kM.map zq)).lab 3)=zw by kernel_rfl))
 have s:(aF (kM.map zq)).lab 0=(aF (kM.map zq)).lab 2:=by kernel_rfl
 have G:∀i,i=1\/i=3->bZ (aF (kM.map zq)) (cX kM 0 2) i:=λi o=>⟨i,λa g _ k j=>by
  obtain⟨b,p,e⟩:=zd j;have:=f a b k (by rw[zi p,e]);have:=q _ _ g;omega⟩
 obtain⟨T,L⟩:=aCv kM 0 2;have m:aW 0 sT++aW 1 sU++aL []=kM:=by simp[aL,kM]
 refine zp ⟨⟨λi a h o g=>?_,λc _=>⟨c,λa _ _ k j=>?_⟩⟩,T,[],?_,aU.nil,zp ⟨by simp[dS,aY];decide,rfl,rfl,rfl⟩⟩
 .rw[m]at h o g ⊢;rcases q _ _ h with rfl|h
  .rfl
  have I:i=0\/i=1\/i=2\/i=3:=by omega
  have J:a=0\/a=1\/a=2\/a=3:=by omega
  rcases I with rfl|rfl|rfl|rfl<;>rcases J with rfl|rfl|rfl|rfl<;>first|rfl|exact s|exact s.symm|exact absurd g t|exact absurd o t|omega
 .rw[m]at j ⊢;obtain⟨b,p,e⟩:=zd j;exact G k (f a b k (by rw[zi p,e])).2
 rw[m];exact L
theorem aKx:∀(rest:List (Int×Lt)) (n:Nat),(∀r∈rest,r.2.2≠[])->∀a∈bO n rest,a<n+Z (aL rest)
 |[],n,_,a,h=>by simp[bO]at h
 |r::rs,n,hne,a,h=>by
  have g:Z (aL (r::rs))=Z r.2.2+Z (aL rs):=by simp[aL]
  have f:0<Z r.2.2:=List.length_pos_iff.2 (hne r (by simp));rw[bO]at h;rcases List.mem_cons.1 h with rfl|h
  .omega
  have:=aKx rs _ (λc b=>hne c (by simp[b])) a h;omega
theorem aKy{c k:Type}{R:c->k->Prop}:∀(l:List c),(∀x∈l,∃b,R x b)->∃a,aU R l a
 |[],_=>⟨[],aU.nil⟩
 |x::l,h=>by
  obtain⟨b,g⟩:=h x (by simp);obtain⟨a,f⟩:=aKy l λj i=>h j (by simp[i])
  exact⟨b::a,aU.cons g f⟩
theorem aKz(M0:List Tg)(a b:Nat)(rest:List (Int×Lt))(p:∀r∈rest,r.2.2≠[]):∃j:List Lt×Bool×Int,fD M0 a b rest j.1 j.2.1 j.2.2:=by
 by_cases c:nW (M0++aL rest) a b
 .obtain⟨i,m⟩:=aCv (M0++aL rest) a b;obtain⟨g,k⟩:=aKy (R:=λf l=>aX (aF ((M0++aL rest).map zq)) (cX (M0++aL rest) a b) i [f] l) (bO (Z M0) rest) (λf q=>(c.2 f (by have:=aKx rest (Z M0) p f q;simpa using this)).exp);by_cases o:aY (bB (dS rest g))<=500
  .exact⟨(_,zw,0),zp ⟨c,i,g,m,k,zp ⟨o,rfl,rfl,rfl⟩⟩⟩
  exact⟨([],zu,4),zp ⟨c,i,g,m,k,zj ⟨by omega,rfl,rfl,rfl⟩⟩⟩
 exact⟨([],zu,0),zj ⟨c,rfl,rfl,rfl⟩⟩
theorem aL0{c:List (List Lt×Nat)}{k:Nat}(f:∀a∈c,∀l∈a.1,l.2≠[]):∀b∈bY k c,b.2.2≠[]:=by intro b j;obtain⟨a,i,g⟩:=xM _ _ b j;exact f a i _ g
theorem aUh{a:List Lt}(g:∀l∈a,l.2≠[])(b c:Nat):fD (aW 0 (a.getD b default).2++aW 0 (a.getD c default).2) 0 (a.getD b default).2.length (bY 0 [(a,c)]) (rO a b c).1 (rO a b c).2.1 (rO a b c).2.2:=
 Classical.epsilon_spec (aKz _ _ _ _ (aL0 λi f=>by simp at f;subst f;exact g))
theorem aUi{a:List Lt}(g:∀l∈a,l.2≠[])(i:∀l∈d,l.2≠[])(b c:Nat):fD (aW 0 (a.getD b default).2++aW 1 (d.getD c default).2) 0 (a.getD b default).2.length (bY 0 [(a,b),(d,c)]) (qA a b d c).1 (qA a b d c).2.1 (qA a b d c).2.2:=
 Classical.epsilon_spec (aKz _ _ _ _ (aL0 λj f=>by
  simp at f;rcases f with rfl|rfl
  .exact g
  exact i))
theorem aL1{i:List Lt->Bool}:∀(f:Nat) {g a:List Cd}{b:Cd},dW i f g=zy (b,a)->∀c∈g,c=b\/c∈a\/i c.c=zw
 |0,g,a,b,h,_,_=>by cases h
 |f+1,[],a,b,h,_,_=>by cases h
 |f+1,y::r,a,b,h,c,hz=>by
  unfold dW at h;simp only at h;split at h
  .rename_i j;rcases List.mem_cons.1 hz with rfl|hz
   .exact zp (zp j)
   exact aL1 f h c ((vY y r).mem_iff.2 hz)
  cases h;rcases List.mem_cons.1 hz with rfl|hz
  .exact zj rfl
  exact zp (zj ((vY _ r).mem_iff.2 hz))
theorem aL2{c:List Lt->Bool}:∀(f:Nat) {a:List Cd},Z a<=f->dW c f a=zt->∀b∈a,c b.c=zw
 |0,a,hl,_,b,hz=>by
  obtain rfl:a=[]:=List.length_eq_zero_iff.1 (by omega);simp at hz
 |f+1,[],_,_,b,hz=>by simp at hz
 |f+1,y::r,hl,h,b,hz=>by
  unfold dW at h;simp only at h;split at h
  .rename_i g;rcases List.mem_cons.1 hz with rfl|hz
   .exact g
   exact aL2 f (by rw[(vY y r).length_eq];simp at hl;omega) h b ((vY y r).mem_iff.2 hz)
  cases h
theorem aFw{g:List Lt->Bool}:∀(f:Nat) {c a:List Cd}{b:Cd},dW g f c=zy (b,a)->Z a+1<=Z c
 |0,c,a,b,h=>by cases h
 |f+1,[],a,b,h=>by cases h
 |f+1,y::r,a,b,h=>by
  unfold dW at h;simp only at h;split at h
  .have:=aFw f h;rw[(vY y r).length_eq]at this;simp;omega
  cases h;rw[(vY _ r).length_eq];simp
theorem bT.all:∀(F:List (aJ×Int)) {f c:List Cd}{n m:Nat}{g i:Bool},bT F f n g c m i->(∀a∈f,a∈c)/\(∀x∈F,(x.2≠0\/bN x.1.c=zu)\/dU x.1.c=zw\/∃a∈c,a.c=x.1.c)/\(i=zw↔g=zw\/∃x∈F,x.2≠0\/bN x.1.c=zu)
 |[],f,c,n,m,g,i,b=>by
  obtain⟨rfl,rfl,rfl⟩:=b;grind
 |x::F,f,c,n,m,g,i,b=>by
  unfold bT at b;split at b
  .rename_i s;obtain⟨j,k,q⟩:=bT.all F b;grind
  rename_i s;split at b
  .rename_i t;obtain⟨j,k,q⟩:=bT.all F b;grind
  obtain⟨o,p,b⟩:=b;obtain⟨j,k,q⟩:=bT.all F b;have r:∀a∈f++[gV x.1 o p n],a∈c:=λa hy=>j a ((aF1 _ _ _).mem_iff.2 hy)
  refine⟨λa hy=>r a (by simp[hy]),λa hy=>?_,?_⟩
  .rcases List.mem_cons.1 hy with rfl|hy
   .exact zp (zp ⟨gV a.1 o p n,r _ (by simp),rfl⟩)
   exact k a hy
  grind
theorem bT.from:∀(F:List (aJ×Int)) {g i:List Cd}{n m:Nat}{j k:Bool},bT F g n j i m k->∀y∈i,y∈g\/∃x∈F,x.2=0/\bN x.1.c=zw/\dU x.1.c=zu/\xS y x.1.r x.1.a x.1.b x.1.i x.1.j/\y.c=x.1.c
 |[],g,i,n,m,j,k,b,y,hy=>by
  obtain⟨rfl,rfl,rfl⟩:=b;exact zj hy
 |x::F,g,i,n,m,j,k,b,y,hy=>by
  unfold bT at b;split at b
  .rcases bT.from F b y hy with a|⟨f,a,c⟩
   .exact zj a
   exact zp ⟨f,zl _ a,c⟩
  rename_i o;have p:x.2=0:=Classical.byContradiction λe=>o (zj e)
  have q:bN x.1.c=true:=by
   cases hf:bN x.1.c
   .exact absurd (zp hf) o
   rfl
  split at b
  .rcases bT.from F b y hy with a|⟨f,a,c⟩
   .exact zj a
   exact zp ⟨f,zl _ a,c⟩
  rename_i r;obtain⟨s,t,b⟩:=b;rcases bT.from F b y hy with a|⟨f,a,c⟩
  .rcases List.mem_append.1 (aFb _ _ _ _ a)with h3|h3
   .exact zj h3
   simp at h3;subst h3;exact zp ⟨x,by simp,p,q,by simpa using r,⟨rfl,rfl,rfl,rfl,rfl⟩,rfl⟩
  exact zp ⟨f,zl _ a,c⟩
theorem aCw{a:List Lt}{b c:Nat}:(b,c)∈lO a d↔b<Z a/\c<Z d/\nN a b=nN d c:=by simp only[lO,nO,mW,yl,List.mem_map,List.mem_filter,List.mem_range];grind
theorem aL3(a d:List Lt):∀m,Z (nO a d m)<=m*Z d
 |0=>by simp[nO]
 |m+1=>by
  rw[aDs,z4];have b:=aL3 a d m;have c:Z (mW a d m (Z d))<=Z d:=by unfold mW;grind
  rw[Nat.add_mul];omega
theorem aL4{a:List Lt}(b:Z a<=8)(c:Z d<=8):Z (lO a d)<=64:=by refine za (aL3 a d _) ?_;exact Nat.mul_le_mul b c
theorem aFx{a:List Lt}(b:bD a=zw):∀l∈a,l.2≠[]:=λl c e=>by
 have:=(tN b).2 l c;rw[e]at this;exact absurd this (by decide)
theorem zF{a:List Lt}{b:Nat}(c:b<Z a):oJ a b=a[b].1:=by unfold oJ;rw[tG c]
theorem aL5{g:List Lt}{i:Nat}(j:bD g=zw){f:aJ×Int}(k:f∈nE g i):∃a b yes,f.1=⟨3,i,0,a,b,f.1.c⟩/\kL g (a:Nat) (b:Nat) f.1.c yes f.2/\(f.2=0->yes=zw):=by
 obtain⟨⟨a,b⟩,q,c⟩:=List.mem_filterMap.1 k;obtain⟨o,p,-⟩:=aCw.1 q;unfold oK at c;split at c
 .rename_i m;split at c
  .rename_i r;cases c;refine⟨a,b,(rO g a b).2.1,rfl,zp ⟨j,zp ⟨a,b,⟨o,p,rfl,rfl,m.1,?_⟩,aUh (aFx j) a b⟩⟩,λe=>?_⟩;all_goals grind[zF]
  cases c
 cases c
theorem aL6{g:List Lt}{i j:Nat}(k:bD g=zw)(m:bD d=zw){f:aJ×Int}(o:f∈gZ g i d j):∃a b yes,f.1=⟨2,i,j,a,b,f.1.c⟩/\jA g d (a:Nat) (b:Nat) f.1.c yes f.2/\(f.2=0->yes=zw):=by
 obtain⟨⟨a,b⟩,r,c⟩:=List.mem_filterMap.1 o;obtain⟨p,q,-⟩:=aCw.1 r;unfold nY at c;split at c
 .rename_i s;split at c
  .rename_i t;cases c;refine⟨a,b,(qA g a d b).2.1,rfl,zp ⟨k,m,zp ⟨a,b,⟨p,q,rfl,rfl,?_⟩,aUi (aFx k) (aFx m) a b⟩⟩,λe=>?_⟩;all_goals grind[oJ,zF]
  cases c
 cases c
def kU(P:List (List Lt))(b:List (aJ×U))(n:Nat)(a:aJ):Prop:=
 (a.r=1/\a.b=0/\a.i=0/\a.j=0/\P[a.a]?=zy a.c)\/
 (a.r=2/\a.a<n/\a.b<n/\jA (aO b a.a) (aO b a.b) a.i a.j a.c zw 0)\/
 (a.r=3/\a.b=0/\a.a<n/\kL (aO b a.a) a.i a.j a.c zw 0)
theorem aAx{b:List (aJ×U)}{a:Nat}{c:aJ×Int}:c∈eV b a os↔c∈nE (aO b a) a\/∃f∈os,c∈gZ (aO b a) a (aO b f) f:=by unfold eV;rw[zc,yl]
theorem aFy{b:List (aJ×U)}{c:Nat}(g:bD (aO b c)=zw)(i:∀f∈os,bD (aO b f)=zw):∀a∈eV b c os,nI a.1.c/\(a.2=0->bN a.1.c=zw->bD a.1.c=zw):=λa j=>by
 grind[kL.good,jA.good,aL5,aAx,aL6]
theorem aUj{g:List (List Lt)}{a:List (aJ×U)}{c:Nat}(k:bD (aO a c)=zw)(o:∀b∈os,bD (aO a b)=zw)(p:c<n)(q:∀b∈os,b<n):∀f∈eV a c os,f.2=0->kU g a n f.1:=λf j e=>by
 rcases aAx.1 j with i|⟨b,m,i⟩;all_goals grind[aL5,aL6,kL,jA,kU,aO,nE,eV,bD,gZ]
theorem aL7{a:List (aJ×U)}{b:Nat}(g:bD (aO a b)=zw):∀(os:List Nat),(∀c∈os,bD (aO a c)=zw)->Z (eV a b os)<=64+Z os*64:=by
 intro os k;have f:=(tN g).1;have i:Z (nE (aO a b) b)<=64:=za (z9 _ _) (aL4 f f);have j:Z (os.flatMap λc=>gZ (aO a b) b (aO a c) c)<=Z os*64:=by
  induction os with
  |nil=>simp
  |cons c os ih=>
   grind[aO,tN,aL4,gZ,z4,yp,z9,Nat.add_mul,za]
 unfold eV;rw[z4];omega
theorem xZ{a:List (aJ×U)}{c:aJ×U}{b:Nat}(f:b<Z a):aO (a++[c]) b=aO a b:=by grind[qB,List.getElem_append_left]
theorem aCx(a:List (aJ×U))(b:aJ×U):aO (a++[b]) (Z a)=b.1.c:=by rw[qB (by simp)];simp
theorem kU.snoc{P:List (List Lt)}{a:List (aJ×U)}{c:aJ}(f:kU P a n c)(p:aJ×U)(i:n<=Z a){b:Nat}(g:n<=b):kU P (a++[p]) b c:=by grind[xZ,kL,jA,kU,aO]
