import Derived.Test.YtmelidkanelpbaaGreatDoorGnL5H
open List renaming mem_map→zz,getElem_mem→zy,mem_filter→zx,getElem_of_mem→zt,mem_append→zs,any_eq_true→zr,getElem?_eq_getElem→zq,mem_filterMap→zp,length_eraseIdx_le→zo,getD_eq_getElem?_getD→zl,getElem_append_left→zk,mem_of_mem_eraseIdx→zj,filter_eq_nil_iff→zi,map_congr_left→zh,map_cons→zg
open Nat renaming le_refl→zu,mul_le_mul→zm
open Or renaming inr→zw,inl→zv
open Prod renaming snd→zn,ext→ze
namespace Go.Proofs.YtmelidkanelpbaaGreatDoor
open Go.RowKit Go.Shelf Go.WideMaps
set_option maxRecDepth 100000
variable{b:Bool}{P:List (List Lt)}{L:List Cd}{c d:List Lt}{ks:List Nat}{n:Nat}
theorem bI.bal:∀(e:List (aK×Int)) {L f:List Cd} {n g:Nat} {b i:Bool},bI e L n b f g i->f.length+n=L.length+g
 |[],L,f,n,g,b,i,a=>by
  obtain ⟨rfl,rfl,rfl⟩:=a;rfl
 |x::e,L,f,n,g,b,i,a=>by
  unfold bI at a;split at a
  ·exact bI.bal e a
  ·split at a
   ·exact bI.bal e a
   ·obtain ⟨j,k,a⟩:=a;have:=bI.bal e a;rw [aG7] at this;simp at this;omega
def aAn:Prop:=∀c d a:List Lt,bC c d=true->bC d a=true->bC c a=true
def rP(L:List Cd)(a:List (aK×Value))(ks:List Nat)(c:List Lt):Prop:=dP c=true\/(∃f∈L,f.c=c)\/∃e∈ks,bC (aE a e) c=true
def uN(L:List Cd)(e:List (aK×Value))(ks:List Nat)(b:Bool)(a:aK×Int):Prop:=((a.2≠0\/bL a.1.c=false)/\b=true)\/(¬(a.2≠0\/bL a.1.c=false)/\rP L e ks a.1.c)
structure gY(P:List (List Lt))(L:List Cd)(n:Nat)(T:List (aK×Value))(ks:List Nat)(b:Bool):Prop where
 ok:xK L n T ks
 wait:∀x∈L,dP x.c=false/\bL x.c=true/\∃s:aK,tU x s.r s.a s.b s.i s.j/\x.c=s.c/\lT P T T.length s
 step:∀k (h:k<T.length),lT P T k T[k].1
 good:∀k (h:k<T.length),T[k].1.c≠[]/\dP T[k].1.c=false/\bL T[k].1.c=true
 srt:ks.Pairwise (· < ·)
 cnt:n<=40+T.length*6528
 len:L.length<=n
 giv:∀c∈P,rP L T ks c
 fac:∀k∈ks,∀y∈lM (aE T k) k,uN L T ks b y
 res:∀k∈ks,∀m∈ks,m<=k->∀y∈gA (aE T k) k (aE T m) m,uN L T ks b y
theorem oN{e:List (aK×Value)}{a:Nat}:a∈bY e ks c↔(a∈ks/\bC c (aE e a)=false)\/a=e.length:=by unfold bY;rw [zs,zx];simp
theorem gY.clause{e:List (aK×Value)}(f:gY P L n e ks b){a:Nat}(i:a∈ks):aS (aE e a)=true:=by have g:=f.ok.k a i;rw [jS g];exact f.ok.t _ (zy g)
theorem rP.take{m:List Lt->Bool}{f:Nat}{j l:List Cd}{a:List (aK×Value)}{s:Cd}{e:aK}{r:Value}(t:aAn)(A:bC e.c e.c=true)(w:∀k∈ks,k<a.length)(z:s.c=e.c)(v:∀g,m g=true->∃k∈ks,bC (aE a k) g=true)(x:eH m f L=some (s,j))(u:∀y∈j,y∈l)(h:rP L a ks c):rP l (a++[(e,r)]) (bY a ks e.c) c:=by
 have q:∀g,(∃k∈ks,bC (aE a k) g=true)->∃k∈bY a ks e.c,bC (aE (a++[(e,r)]) k) g=true:=by
  rintro g ⟨k,p,o⟩;cases hb:bC e.c (aE a k) with
  |false=>exact ⟨k,oN.2 (zv ⟨p,hb⟩),by rw [lD (w k p)];exact o⟩
  |true=>exact ⟨a.length,oN.2 (zw rfl),by rw [uL];exact t _ _ _ hb o⟩
 rcases h with h|⟨y,B,i⟩|h
 ·exact zv h
 ·rcases aJ0 _ x y B with rfl|h1|h1
  ·refine zw (zw ⟨a.length,oN.2 (zw rfl),?_⟩);rw [uL,<-i,z];exact A
  ·exact zw (zv ⟨y,u y h1,i⟩)
  ·rw [<-i];exact zw (zw (q _ (v _ h1)))
 ·exact zw (zw (q _ h))
theorem rP.end{a:List (aK×Value)}(g:eH (λc=>ks.any λe=>bC (aE a e) c) L.length L=none)(h:rP L a ks c):dP c=true\/∃e∈ks,bC (aE a e) c=true:=by
 rcases h with h|⟨j,i,f⟩|h
 ·exact zv h
 ·have:=aJ1 _ (zu _) g j i;rw [zr] at this;rw [<-f];exact zw this
 ·exact zw h
theorem gY.take{E o:List Cd}{C:Nat}{a:List (aK×Value)}{v:Bool}{z:Cd}{e:aK}{j:Value}(V:aAn)(a0:∀c,aS c=true->bC c c=true)(f:gY P L n a ks b)(t:z.c=e.c)(a1:lT P a a.length e)(x:eH (λc=>ks.any λk=>bC (aE a k) c) L.length L=some (z,E))(r:e.c≠[])(b0:a.length<100)
  (u:bI (dV (a++[(e,j)]) a.length (bY a ks e.c)) E n b o C v):gY P o C (a++[(e,j)]) (bY a ks e.c) v:=by
 obtain ⟨M,W,b4⟩:=xJ _ x;have c0:=aDa _ x;have I:aS e.c=true:=by rw [<-t];exact f.ok.l z M
 obtain ⟨a3,a2,-⟩:=f.wait z M;have w:aS (aE (a++[(e,j)]) a.length)=true:=by rw [uL];exact I
 have B:∀k∈bY a ks e.c,aS (aE (a++[(e,j)]) k)=true:=λk g=>by
  rcases oN.1 g with ⟨h1,_⟩|rfl
  ·rw [lD (f.ok.k k h1)];exact f.clause h1
  ·exact w
 have b8:=aGl a ks e.c;have b7:=f.ok.kl;have b5:=aJb w (bY a ks e.c) B;have b6:(dV (a++[(e,j)]) a.length (bY a ks e.c)).length<=6528:=by have:(bY a ks e.c).length*64<=101*64:=zm (by omega) (zu _);omega
 have b3:=f.cnt;have b9:=f.len;have b1:a.length*6528<=100*6528:=zm (by omega) (zu _);have Z:xK o C (a++[(e,j)]) (bY a ks e.c):=f.ok.take e j t x (aDb w B) (by omega) (by omega) u;obtain ⟨O,Q,F⟩:=u.all;have J:∀{c:List Lt},rP L a ks c->rP o (a++[(e,j)]) (bY a ks e.c) c:=λr=>r.take V (a0 _ I) f.ok.k t (λD N=>by rw [zr] at N;exact N) x O
 have G:∀{y:aK×Int},uN L a ks b y->uN o (a++[(e,j)]) (bY a ks e.c) v y:=λX=>by
  rcases X with ⟨h1,l⟩|⟨h1,l⟩
  ·exact zv ⟨h1,F.2 (zv l)⟩
  ·exact zw ⟨h1,J l⟩
 have H:∀y∈dV (a++[(e,j)]) a.length (bY a ks e.c),uN o (a++[(e,j)]) (bY a ks e.c) v y:=λy i=>by
  by_cases q:y.2≠0\/bL y.1.c=false
  ·exact zv ⟨q,F.2 (zw ⟨y,i,q⟩)⟩
  ·rcases Q y i with h1|h1|h1
   ·exact absurd h1 q
   ·exact zw ⟨q,zv h1⟩
   ·exact zw ⟨q,zw (zv h1)⟩
 have c1:=u.len;have b2:=u.bal;refine ⟨Z,λy i=>?_,λk g=>?_,λk g=>?_,?_,?_,?_,λc r=>J (f.giv c r),λk g y i=>?_,λk g m s Y y i=>?_⟩
 ·rcases u.from _ y i with h1|⟨D,h1,l,R,S,T,A⟩
  ·obtain ⟨a5,a6,a4,a7,a8,a9⟩:=f.wait y (W y h1);exact ⟨a5,a6,a4,a7,a8,a9.snoc _ (zu _) (by simp)⟩
  ·refine ⟨by rw [A];exact S,by rw [A];exact R,D.1,T,A,?_⟩;exact aTo w B (by simp) (λk g=>by
    rcases oN.1 g with ⟨U,_⟩|rfl
    ·have:=f.ok.k k U;simp;omega
    ·simp) D h1 l
 ·by_cases p:k<a.length
  ·rw [zk p];exact (f.step k p).snoc _ (Nat.le_of_lt p) (zu _)
  ·obtain rfl:k=a.length:=by simp at g;omega
   simpa using a1.snoc (e,j) (zu _) (zu _)
 ·by_cases p:k<a.length
  ·rw [zk p];exact f.good k p
  ·obtain rfl:k=a.length:=by simp at g;omega
   simp only [List.getElem_concat_length];exact ⟨r,by rw [<-t];exact a3,by rw [<-t];exact a2⟩
 ·unfold bY;rw [List.pairwise_append];exact ⟨f.srt.filter _,by simp,λk g m s=>by
   simp at s;subst s;exact f.ok.k k (zx.1 g).1⟩
 ·rw [List.length_append,List.length_singleton,Nat.add_mul];omega
 ·omega
 ·rcases oN.1 g with ⟨h1,_⟩|rfl
  ·rw [lD (f.ok.k k h1)] at i;exact G (f.fac k h1 y i)
  ·exact H y (uK.2 (zv i))
 ·rcases oN.1 g with ⟨h1,_⟩|rfl
  ·rcases oN.1 s with ⟨l,_⟩|rfl
   ·rw [lD (f.ok.k k h1),lD (f.ok.k m l)] at i;exact G (f.res k h1 m l Y y i)
   ·have:=f.ok.k k h1;omega
  ·exact H y (uK.2 (zw ⟨m,s,i⟩))
theorem aDj(a:aS c=true):bL c=true:=by unfold aS at a;simp only [Bool.and_eq_true] at a;exact a.1.1
theorem gY.start(p:∀c∈P,aS c=true)(C:P.length<=40)(l:bI (gL P) [] 0 false L n false):gY P L n [] [] false:=by
 have y:∀o∈gL P,∃a,∃h:a<P.length,o=(⟨1,a,0,0,0,P[a]⟩,0):=λo m=>by
  simp only [gL,List.mem_mapIdx] at m;obtain ⟨j,f,rfl⟩:=m;exact ⟨j,f,rfl⟩
 have B:(gL P).length=P.length:=by simp [gL]
 have z:=l.len;have w:=l.bal;simp at z w;have r:∀g∈L,∃a,∃h:a<P.length,dP g.c=false/\tU g 1 a 0 0 0/\g.c=P[a]:=λg i=>by
  rcases l.from _ g i with h|⟨o,m,_,_,u,v,q⟩
  ·simp at h
  ·obtain ⟨a,e,rfl⟩:=y o m;exact ⟨a,e,by rw [q];exact u,v,q⟩
 refine ⟨⟨λg i=>?_,by simp,by simp,by simp,by omega,by omega⟩,λg i=>?_,λj f=>by simp at f,λj f=>by simp at f,by simp,by simp;omega,by omega,λc x=>?_,λj f=>by simp at f,λj f=>by simp at f⟩
 ·obtain ⟨a,e,_,_,k⟩:=r g i;rw [k];exact p _ (zy e)
 ·obtain ⟨a,e,s,t,k⟩:=r g i;refine ⟨s,by rw [k];exact aDj (p _ (zy e)),⟨1,a,0,0,0,P[a]⟩,t,k,zv ⟨rfl,rfl,rfl,rfl,zq e⟩⟩
 ·obtain ⟨a,e,rfl⟩:=zt x;have A:((⟨1,a,0,0,0,P[a]⟩,0):aK×Int)∈gL P:=by
   simp only [gL,List.mem_mapIdx];exact ⟨a,e,rfl⟩
  rcases l.all.2.1 _ A with (h|h)|h|h
  ·exact absurd rfl h
  ·rw [show bL _=true from aDj (p _ (zy e))] at h;cases h
  ·exact zv h
  ·exact zw (zv h)
theorem aUu{q:Nat}{s:Nat->List (aK×Value)->List Nat->Bool->Prop}{J:List (aK×Value)->List Nat->Prop}(Q:∀L n a ks b f k,gY P L n a ks b->J a ks->aS f.c=true->(∀e∈ks,bC (aE a e) f.c=false)->J (a++[(f,k)]) (bY a ks f.c))(z:∀c d,aS c=true->aS d=true->kH c d)(O:aAn)(T:∀c,aS c=true->bC c c=true)(a3:q<=100)
  (F:∀L n a ks,gY P L n a ks false->J a ks->a.length<=q->eH (λc=>ks.any λe=>bC (aE a e) c) L.length L=none->s 2 a ks false)
  (D:∀L n a ks,gY P L n a ks true->J a ks->a.length<=q->eH (λc=>ks.any λe=>bC (aE a e) c) L.length L=none->cM q s L n a ks true)
  (H:∀L n a ks b f k,gY P L n a ks b->J a ks->a.length<=q->lT P a a.length f->f.c=[]->s 1 (a++[(f,k)]) ks b)
  (S:∀L n a ks b,gY P L n a ks b->J a ks->a.length=q->(∃i∈L,i.c≠[]/\∀e∈ks,bC (aE a e) i.c=false)->s 3 a ks b):∀(v:Nat) (L:List Cd) (n:Nat) (a:List (aK×Value)) (ks:List Nat) (b:Bool),gY P L n a ks b->J a ks->a.length+v=q->cM q s L n a ks b:=by
 intro v;induction v with
 |zero=>
  intro L n a ks b g m R;have r:∀i∈L,∀e∈ks,kH (aE a e) i.c:=λi o e j=>z _ _ (g.clause j) (g.ok.l i o)
  cases hn:eH (λc=>ks.any λe=>bC (aE a e) c) L.length L with
  |none=>
   cases b with
   |false=>exact cM.sat r hn (F L n a ks g m (by omega) hn)
   |true=>exact D L n a ks g m (by omega) hn
  |some y=>
   obtain ⟨i,I⟩:=y;obtain ⟨o,-,t⟩:=xJ _ hn;obtain ⟨-,-,f,w,p,x⟩:=g.wait i o;by_cases l:f.c=[]
   ·exact cM.unsat f ⟨w,p⟩ r hn l (H L n a ks b f _ g m (by omega) x l)
   ·refine cM.out r hn (by rw [p];exact l) (by omega) (S L n a ks b g m (by omega) ⟨i,o,by rw [p];exact l,λe j=>?_⟩);cases hb:bC (aE a e) i.c with
    |false=>rfl
    |true=>
     have:(ks.any λe=>bC (aE a e) i.c)=true:=zr.2 ⟨e,j,hb⟩;rw [this] at t;cases t
 |succ v ih=>
  intro L n a ks b g m R;have r:∀i∈L,∀e∈ks,kH (aE a e) i.c:=λi o e j=>z _ _ (g.clause j) (g.ok.l i o)
  cases hn:eH (λc=>ks.any λe=>bC (aE a e) c) L.length L with
  |none=>
   cases b with
   |false=>exact cM.sat r hn (F L n a ks g m (by omega) hn)
   |true=>exact D L n a ks g m (by omega) hn
  |some y=>
   obtain ⟨i,I⟩:=y;obtain ⟨o,V,t⟩:=xJ _ hn;obtain ⟨-,-,f,w,p,x⟩:=g.wait i o;by_cases l:f.c=[]
   ·exact cM.unsat f ⟨w,p⟩ r hn l (H L n a ks b f _ g m (by omega) x l)
   ·have B:aS f.c=true:=by rw [<-p];exact g.ok.l i o
    obtain ⟨k,u⟩ : ∃k,Value.slice i.ad i.ln i.cp=k:=⟨_,rfl⟩;have A:aS (aE (a++[(f,k)]) a.length)=true:=by rw [uL];exact B
    have E:∀e∈bY a ks f.c,aS (aE (a++[(f,k)]) e)=true:=λe j=>by
     rcases oN.1 j with ⟨C,_⟩|rfl
     ·rw [lD (g.ok.k e C)];exact g.clause C
     ·exact A
    have a1:=aGl a ks f.c;have a0:=g.ok.kl;have Y:=aJb A (bY a ks f.c) E;have Z:(dV (a++[(f,k)]) a.length (bY a ks f.c)).length<=6528:=by have:(bY a ks f.c).length*64<=101*64:=zm (by omega) (zu _);omega
    have X:=g.cnt;have a2:=g.len;have a4:=aDa _ hn;have W:a.length*6528<=100*6528:=zm (by omega) (zu _);refine cM.take f ⟨w,p⟩ r hn l (by omega) (λe j=>z _ _ B (g.clause j)) ?_ ?_ ?_ ?_
    ·rw [u];exact aDb A E
    ·rw [u];omega
    ·rw [u];omega
    ·intro M U N G;rw [u] at G ⊢;refine ih M U _ _ N (g.take O T p x hn l (by omega) G) (Q L n a ks b f k g m B λe j=>?_) (by simp;omega);cases hb:bC (aE a e) f.c with
     |false=>rfl
     |true=>
      have:(ks.any λe=>bC (aE a e) i.c)=true:=zr.2 ⟨e,j,by rw [p];exact hb⟩;rw [this] at t;cases t
section
def nN(a:List Nd):Prop:=∀e∈a,aL e=false
theorem aAo{a:List Nd}(e:nN a)(i:Int->Nd):bD i a=a:=by
 unfold bD;conv=>rhs;rw [<-List.map_id a]
 exact zh λg f=>by rw [aI (by rw [e g f];simp)];rfl
theorem aUv(e:List Nd):bD (λg=>(⟨#[]⟩,g)) e=e:=by
 unfold bD;conv=>rhs;rw [<-List.map_id e]
 refine zh λf _=>?_
 by_cases a:aL f=true
 ·rw [aH a];exact ze (wZ a).symm rfl
 ·rw [aI a];rfl
theorem aUw{g:Int->Int->Prop}{e b:List Nd}(i:aP (fL g) e b):nN e->e=b:=by
 induction i with
 |nil=>intro _;rfl
 |cons a _ ih=>
  intro f;rcases a with ⟨a,_⟩|⟨_,a⟩
  ·rw [f _ (by simp)] at a;cases a
  ·rw [a,ih λk j=>f k (by simp [j])]
theorem aUx{g:Int->Int->Prop}{a b:List Lt}(i:aP (jF g) a b):(∀e∈a,nN e.2)->a=b:=by
 induction i with
 |nil=>intro _;rfl
 |cons k _ ih=>
  intro f;obtain ⟨l,m⟩:=k;rw [ze l (aUw m (f _ (by simp))),ih λe j=>f e (by simp [j])]
theorem aJo(e:∀a∈c,nN a.2):bT c=aV c:=aUx (sS c).2 λa f=>e a ((jW c).2.2 a f)
theorem aJp(a:∀e∈c,nN e.2):(∀f∈aV c,f∈c)/\(aV c).Nodup:=by rw [<-aJo a];exact ⟨(jW c).2.2,aGx c [] (by simp)⟩
theorem aUy:∀{a:List (Int×Lt)} {f:List (List Nd)},aP (λ(g:Int×Lt) l=>l=g.2.2) a f->bS a f=a.map zn:=by
 intro a f e;induction e with
 |nil=>rfl
 |cons e _ ih=>
  subst e;show _::bS _ _=_;rw [ih];rfl
theorem aUz{t x:List Nd}{q r:Int}{f:List (Int×Lt)}(F:D1 t)(G:D1 x)(g:∀a∈f,D1 a.2.2/\nN a.2.2)(Q:aR (f.map zn)<=500){s:List Lt}{M:Bool}{v:Int}(e:dU (aN q t++aN r x) 0 t.length f s M v):v=0/\s.Nodup/\∀j∈s,∃a∈f,j=a.2:=by
 unfold dU at e;rcases e with ⟨_,rfl,_,rfl⟩|⟨⟨B,_⟩,R,I,E,D,e⟩
 ·exact ⟨rfl,by simp,λj o=>by simp at o⟩
 ·obtain ⟨N,_,_,J⟩:=aIs (τ:=λu=>(⟨#[]⟩,u)) F G (λa e=>(g a e).1) rfl B E D;have z:bS f I=f.map zn:=aUy (by
   have H:∀{l:List (Int×Lt)} {p:List (List Nd)},aP (λ(a:Int×Lt) i=>bD (λu=>(⟨#[]⟩,u)) i=bD (N a.1) a.2.2) l p->(∀a∈l,nN a.2.2)->aP (λ(a:Int×Lt) i=>i=a.2.2) l p:=by
    intro l p e;induction e with
    |nil=>intro _;exact aP.nil
    |cons k _ ih=>
     intro w;refine aP.cons ?_ (ih λa g=>w a (by simp [g]));rw [aUv,aAo (w _ (by simp))] at k;exact k
   exact H J λa e=>(g a e).2)
  rw [z] at e;have O:aR (aV (f.map zn))<=500:=by
   have:aR (aV (f.map zn))<=aR (f.map zn):=by obtain ⟨_,y,_⟩:=jW (f.map zn);unfold aV;rw [aCy];exact y
   omega
  rcases e with ⟨e,_⟩|⟨_,rfl,_,rfl⟩
  ·omega
  ·obtain ⟨q,r⟩:=aJp (c:=f.map zn) (λi C=>by
    obtain ⟨a,m,rfl⟩:=zz.1 C;exact (g a m).2)
   refine ⟨rfl,r,λj o=>?_⟩;obtain ⟨a,m,A⟩:=zz.1 (q j o);exact ⟨a,m,A.symm⟩
section
variable {A:List (List Nd)}
def fQ(A:List (List Nd))(c:List Lt):Prop:=∀a∈c,a.2∈A
def oO(A:List (List Nd)):Prop:=∀a∈A,D1 a/\nN a/\a.length<=2
theorem aJq(e:∀a∈c,a.2.length<=2):aR c<=2*c.length:=by
 unfold aR;induction c with
 |nil=>simp
 |cons a r ih=>
  have i:=e a (by simp);have j:=ih λg f=>e g (by simp [f])
  simp only [zg,List.sum_cons,List.length_cons];omega
theorem aDk{a:Lt}(e:a∈c.eraseIdx n):a∈c:=(List.eraseIdx_sublist c n).mem e
theorem aDl(a:aS c=true):c.length<=8:=(kV a).len
theorem aV0(i:oO A)(m:A.length<=4){c:List Lt}(g:fQ A c)(j:c.Nodup):bL c=true:=by
 have k:c.length<=8:=by
  have:=j.length_le_of_subset (l₂:=A.map (λf=>(false,f))++A.map λf=>(true,f)) (λa e=>by
   rw [zs,zz,zz];cases hb:a.1 with
   |false=>exact zv ⟨a.2,g a e,ze hb.symm rfl⟩
   |true=>exact zw ⟨a.2,g a e,ze hb.symm rfl⟩)
  simp at this;omega
 have l:=aJq (c:=c) λa e=>(i _ (g a e)).2.2
 unfold bL;simp;omega
theorem qP(g:oO A){c:List Lt}(f:fQ A c){e:Nat}(a:e<c.length):D1 (c.getD e default).2:=by rw [zl,zq a];exact (g _ (f _ (zy a))).1
theorem aAp(f:oO A)(v:A.length<=4){l r:List Nd}{B C:Int}{j:List (Int×Lt)}(y:D1 l)(z:D1 r)(g:∀a∈j,a.2.2∈A)(p:j.length<=16){i:List Lt}{D:Bool}{m:Int}(t:dU (aN B l++aN C r) 0 l.length j i D m):m=0/\fQ A i/\bL i=true:=by
 have u:=aJq (c:=j.map zn) (λq k=>by
  obtain ⟨a,x,rfl⟩:=zz.1 k;exact (f _ (g a x)).2.2)
 rw [List.length_map] at u;obtain ⟨s,w,k⟩:=aUz y z (λa e=>⟨(f _ (g a e)).1,(f _ (g a e)).2.1⟩) (by omega) t;have o:fQ A i:=λq p=>by
  obtain ⟨a,e,rfl⟩:=k q p;exact g a e
 exact ⟨s,o,aV0 f v o w⟩
theorem aDm(i:aS c=true)(f:fQ A c)(b:Nat):(∀e∈aZ 0 [(c,b)],e.2.2∈A)/\(aZ 0 [(c,b)]).length<=16:=by
 constructor
 ·intro e a;simp only [aZ,List.append_nil,zz] at a;obtain ⟨j,g,rfl⟩:=a;exact f _ (aDk g)
 ·have:=zo c b;have:=aDl i;simp [aZ];omega
theorem aJr(k:aS c=true)(l:aS d=true)(i:fQ A c)(j:fQ A d)(a b:Nat):(∀g∈aZ 0 [(c,a),(d,b)],g.2.2∈A)/\(aZ 0 [(c,a),(d,b)]).length<=16:=by
 constructor
 ·intro g f;simp only [aZ,List.append_nil,zs,zz] at f;rcases f with ⟨m,e,rfl⟩|⟨m,e,rfl⟩
  ·exact i _ (aDk e)
  ·exact j _ (aDk e)
 ·have:=zo c a;have:=zo d b;have:=aDl k;have:=aDl l;simp [aZ];omega
theorem aV1(g:oO A)(k:A.length<=4){c:List Lt}(j:aS c=true)(f:fQ A c){q r:Int}{i:List Lt}{u:Bool}{e:Int}(p:uQ c q r i u e)(o:e≠6):e=0/\fQ A i/\bL i=true:=by
 rcases p with ⟨a,_⟩|⟨_,⟨_,_,_,a⟩|⟨v,b,⟨l,m,_⟩,a⟩⟩
 ·rw [j] at a;cases a
 ·exact absurd a o
 ·obtain ⟨s,t⟩:=aDm j f b;exact aAp g k (qP g f l) (qP g f m) s t a
theorem aV2(f:oO A)(o:A.length<=4){c d:List Lt}(k:aS c=true)(l:aS d=true)(i:fQ A c)(j:fQ A d){t u:Int}{g:List Lt}{x:Bool}{e:Int}(s:jX c d t u g x e)(r:e≠6):e=0/\fQ A g/\bL g=true:=by
 rcases s with ⟨a,_⟩|⟨_,_,⟨_,_,_,a⟩|⟨m,b,⟨p,q,_⟩,a⟩⟩
 ·exact absurd ⟨k,l⟩ a
 ·exact absurd a r
 ·obtain ⟨v,w⟩:=aJr k l i j m b;exact aAp f o (qP f i p) (qP f j q) v w a
theorem aV3(f:oO A)(l:A.length<=4){c:List Lt}{k:Nat}(i:aS c=true)(e:fQ A c){g:aK×Int}(q:g∈lM c k):g.2=0/\bL g.1.c=true:=by
 obtain ⟨⟨r,j⟩,p,a⟩:=zp.1 q;obtain ⟨m,o,-⟩:=vY.1 p;obtain ⟨s,t⟩:=aDm i e j;have:=aAp f l (qP f e m) (qP f e o) s t (aD8 (rM i) r j);unfold lL at a;split at a
 ·split at a
  ·cases a;exact ⟨this.1,this.2.2⟩
  ·cases a
 ·cases a
theorem aV4(e:oO A)(p:A.length<=4){c d:List Lt}{o b:Nat}(j:aS c=true)(k:aS d=true)(g:fQ A c)(i:fQ A d){f:aK×Int}(t:f∈gA c o d b):f.2=0/\bL f.1.c=true:=by
 obtain ⟨⟨l,m⟩,s,a⟩:=zp.1 t;obtain ⟨q,r,-⟩:=vY.1 s;obtain ⟨u,v⟩:=aJr j k g i l m;have:=aAp e p (qP e g q) (qP e i r) u v (aD9 (rM j) (rM k) l m);unfold mF at a;split at a
 ·split at a
  ·cases a;exact ⟨this.1,this.2.2⟩
  ·cases a
 ·cases a
theorem aV5(k:oO A)(j:A.length<=4){P:List (List Lt)}{e:List (aK×Value)}(p:∀c∈P,fQ A c)(q:∀a (f:a<e.length),lT P e a e[a].1)(i:∀a,a<e.length->aS (aE e a)=true):∀a,a<e.length->fQ A (aE e a):=by
 intro a;induction a using Nat.strongRecOn with
 |_ a ih=>
  intro l;have m:aE e a=e[a].1.c:=jS l;rw [m];rcases q a l with ⟨_,_,_,_,f⟩|⟨_,g,o,f⟩|⟨_,_,g,f⟩
  ·exact p _ (List.mem_of_getElem? f)
  ·exact (aV2 k j (i _ (by omega)) (i _ (by omega)) (ih _ g (by omega)) (ih _ o (by omega)) f (by decide)).2.1
  ·exact (aV1 k j (i _ (by omega)) (ih _ g (by omega)) f (by decide)).2.1
end
theorem aJs(a:aS c=true)(f:∀g∈c,nN g.2):c.Nodup:=by
 have e:c=aV c:=by unfold aS at a;simp only [Bool.and_eq_true,decide_eq_true_eq] at a;exact a.2
 rw [e];exact (aJp f).2
theorem aV6(f:aS c=true)(g:∀a∈c,nN a.2)(e:∀a∈c,a∈d):bC c d=true:=by refine yD.2 ⟨(aJs f g).length_le_of_subset e,?_⟩;obtain ⟨m,j,k,l⟩:=aOr f;exact ⟨m,j,k,λa i=>e _ (l a i)⟩
theorem aV7(o:dP c=false){k:List Nd}(p:(false,k)∈c)(q:(true,k)∈c):False:=by
 have l:∀e a (i:e<c.length) (f:a<c.length),e<a->c[e]=(!c[a].1,c[a].2)->False:=by
  intro e a i f r m;have:dP c=true:=by unfold dP pA;rw [zr];refine ⟨a,List.mem_range.2 f,(vN _ _).2 ?_⟩;rw [zl,zq f,Option.getD_some,<-m];exact List.mem_take_iff_getElem.2 ⟨e,by omega,rfl⟩
  rw [o] at this;cases this
 obtain ⟨e,i,j⟩:=zt p;obtain ⟨a,f,g⟩:=zt q;rcases Nat.lt_trichotomy e a with hl|hl|hl
 ·exact l e a i f hl (by rw [j,g];rfl)
 ·subst hl;rw [j] at g;cases g
 ·exact l a e f i hl (by rw [j,g];rfl)
open Classical in
noncomputable def rQ(c:List Lt)(a:List Nd):Nat:=if (false,a)∈c then 1 else if (true,a)∈c then 2 else 0
theorem oP(c:List Lt)(a:List Nd):rQ c a<3:=by
 unfold rQ;split
 ·omega
 ·split<;>omega
theorem aV8(i:dP c=false){e:List Nd}(a:rQ c e=rQ d e){b:Bool}(f:(b,e)∈c):(b,e)∈d:=by
 unfold rQ at a;cases b with
 |false=>
  rw [aH f] at a;split at a
  ·assumption
  ·split at a<;>omega
 |true=>
  rw [aI (λg=>aV7 i g f),aH f] at a;split at a
  ·omega
  ·split at a
   ·assumption
   ·omega
noncomputable def wB(a e f g:List Nd)(c:List Lt):Nat:=rQ c a+3*rQ c e+9*rQ c f+27*rQ c g
theorem aV9(a e f g:List Nd)(c:List Lt):wB a e f g c<81:=by have i:=oP c a;have j:=oP c e;have k:=oP c f;have l:=oP c g;unfold wB;omega
theorem aVa{a e f g:List Nd}(o:dP c=false)(m:fQ [a,e,f,g] c)(l:wB a e f g c=wB a e f g d):∀i∈c,i∈d:=λi j=>by
 have p:=oP c a;have q:=oP c e;have r:=oP c f;have s:=oP c g;have t:=oP d a;have u:=oP d e;have v:=oP d f;have w:=oP d g;unfold wB at l;have k:(i.1,i.2)∈c:=j;have hm:=m i j;simp only [List.mem_cons,List.not_mem_nil,or_false] at hm;rcases hm with hm|hm|hm|hm;all_goals
  rw [hm] at k;have:=aV8 o (d:=d) (by omega) k;rw [<-hm] at this;exact this
theorem aVb{j k l m:List Nd}(q:∀o∈[j,k,l,m],nN o){n:Nat}{f:Nat->List Lt}(g:∀a,a<n->aS (f a)=true/\dP (f a)=false/\fQ [j,k,l,m] (f a))(r:∀e a,e<a->a<n->bC (f e) (f a)=false):n<=81:=by
 have x:((List.range n).map λa=>wB j k l m (f a)).Nodup:=by
  rw [List.nodup_iff_pairwise_ne,List.pairwise_map];refine List.Pairwise.imp_of_mem ?_ List.pairwise_lt_range;intro e a s t w p;have u:a<n:=by simpa using t
  have i:e<n:=by simpa using s
  have:=aV6 (g e i).1 (λz v=>q _ ((g e i).2.2 z v)) (aVa (g e i).2.1 (g e i).2.2 p);rw [r e a w u] at this;cases this
 have:=x.length_le_of_subset (l₂:=List.range 81) (λA y=>by
  obtain ⟨a,_,rfl⟩:=zz.1 y;rw [List.mem_range];exact aV9 _ _ _ _ _)
 simpa using this
end
section
variable {α:Type}[DecidableEq α]
def aJt(a c:List (Bool×α)):Prop:=∀e∈a,e∈c
def aJu(c:List (Bool×α)):Prop:=∃a,(true,a)∈c/\(false,a)∈c
def nO(c d:List (Bool×α))(e:α):List (Bool×α):=c.filter (λa=>decide (a≠(false,e)))++d.filter (λa=>decide (a≠(true,e)))
def aAq(e:List (Bool×α)->Prop):Prop:=∀c d a,e c->e d->(false,a)∈c->(true,a)∈d->aJu (nO c d a)\/∃f,e f/\aJt f (nO c d a)
def uO(e:List (Bool×α)->Prop)(b:Bool)(a:α)(f:List (Bool×α)):Prop:=∃c,e c/\(!b,a)∉c/\f=c.filter λg=>decide (g≠(b,a))
theorem aJv{g:List (Bool×α)->Prop}{f:α}{k:List α}(l:∀c,g c->∀a∈c,a.2∈f::k):∀c,uO g b f c->∀a∈c,a.2∈k/\a.2≠f:=by
 rintro q ⟨c,m,r,rfl⟩ a i;rw [zx,decide_eq_true_eq] at i;have j:a.2≠f:=by intro e;obtain ⟨o,p⟩:=a;simp only at e;subst e;cases o<;>cases b<;>simp_all
 rcases List.mem_cons.1 (l c m a i.1) with e|e
 ·exact absurd e j
 ·exact ⟨e,j⟩
theorem aVc{m:List (Bool×α)->Prop}{f:α}(t:aAq m):aAq (uO m b f):=by
 rintro z A g ⟨c,u,v,rfl⟩ ⟨d,w,x,rfl⟩ i j;rw [zx,decide_eq_true_eq] at i j;have B:g≠f:=by
  rintro rfl;cases b
  ·exact i.2 rfl
  ·exact j.2 rfl
 have k:∀a,a∈nO c d g->a≠(b,f)->a∈nO (c.filter λa=>decide (a≠(b,f))) (d.filter λa=>decide (a≠(b,f))) g:=by
  intro a hl q;unfold nO at hl ⊢;simp only [zs,zx,decide_eq_true_eq] at hl ⊢;rcases hl with hl|hl
  ·exact zv ⟨⟨hl.1,q⟩,hl.2⟩
  ·exact zw ⟨⟨hl.1,q⟩,hl.2⟩
 have l:(!b,f)∉nO c d g:=by
  intro hm;unfold nO at hm;simp only [zs,zx] at hm;rcases hm with hm|hm
  ·exact v hm.1
  ·exact x hm.1
 rcases t c d g u w i.1 j.1 with ⟨s,o,p⟩|⟨e,y,r⟩
 ·refine zv ⟨s,k _ o ?_,k _ p ?_⟩
  ·intro e;rw [Prod.mk.injEq] at e;obtain ⟨rfl,rfl⟩:=e;exact l p
  ·intro e;rw [Prod.mk.injEq] at e;obtain ⟨rfl,rfl⟩:=e;exact l o
 ·refine zw ⟨_,⟨e,y,λhm=>l (r _ hm),rfl⟩,λa hl=>?_⟩;rw [zx,decide_eq_true_eq] at hl;exact k a (r a hl.1) hl.2
theorem aVd:∀(m:List α) (e:List (Bool×α)->Prop),(∀c,e c->∀a∈c,a.2∈m)->aAq e->¬e []->∃j:α->Bool,∀c,e c->∃a∈c,j a.2≠a.1:=by
 intro m;induction m with
 |nil=>
  intro e k _ i;refine ⟨λ_=>true,λc f=>?_⟩;cases c with
  |nil=>exact absurd f i
  |cons a c=>exact absurd (k _ f a (by simp)) (by simp)
 |cons p r ih=>
  intro e k u i;have C:∀b,¬uO e b p []->∃j:α->Bool,∀c,e c->∃a∈c,j a.2≠a.1:=by
   intro b D;obtain ⟨j,M⟩:=ih (uO e b p) (λc f a g=>(aJv k c f a g).1) (aVc u) D;refine ⟨λl=>if l=p then b else j l,λc f=>?_⟩;by_cases y:(!b,p)∈c
   ·exact ⟨_,y,by simp⟩
   ·have v:uO e b p (c.filter λa=>decide (a≠(b,p))):=⟨c,f,y,rfl⟩;obtain ⟨a,g,N⟩:=M _ v;have J:=(aJv k _ v a g).2;refine ⟨a,(zx.1 g).1,?_⟩;simp only;rw [aI J];exact N
  by_cases B:uO e true p []
  ·by_cases x:uO e false p []
   ·exfalso;obtain ⟨c,f,_,s⟩:=B;obtain ⟨d,w,_,t⟩:=x;have E:∀a∈c,a=(true,p):=by
     intro a g;have:=zi.1 s.symm a g;simpa using this
    have G:∀a∈d,a=(false,p):=by intro a g;have:=zi.1 t.symm a g;simpa using this
    have F:(true,p)∈c:=by
     cases c with
     |nil=>exact absurd f i
     |cons a c=>rw [<-E a (by simp)];simp
    have H:(false,p)∈d:=by
     cases d with
     |nil=>exact absurd w i
     |cons a d=>rw [<-G a (by simp)];simp
    have z:nO d c p=[]:=by unfold nO;rw [<-s,<-t];rfl
    rcases u d c p w f H F with ⟨l,o,_⟩|⟨q,I,A⟩
    ·rw [z] at o;simp at o
    ·rw [z] at A;cases q with
     |nil=>exact i I
     |cons a q=>exact absurd (A a (by simp)) (by simp)
   ·exact C false x
  ·exact C true B
end
section
variable {D:Nd->Prop}{T:List (aK×Value)}{ks:List Nat}
theorem aJw{c:List Lt}:∀(k:Nat),k<=c.length->pA c k=true->∃e a,((e,a):Lt)∈c/\((!e,a):Lt)∈c
 |0,_,h=>by simp [pA] at h
 |k+1,hk,h=>by
  rw [aN4 c k (by omega),Bool.or_eq_true] at h;rcases h with h|h
  ·exact aJw k (by omega) h
  ·exact ⟨c[k].1,c[k].2,zy (by omega),List.mem_of_mem_take ((vN _ _).1 h)⟩
theorem aVe(f:dP c=true):∃e a,((e,a):Lt)∈c/\((!e,a):Lt)∈c:=aJw c.length (zu _) f
def fK(e:Int->Nd)(c:List Lt):List (Bool×List Nd):=c.map λa=>(a.1,bD e a.2)
def rR(T:List (aK×Value))(ks:List Nat)(c:List Lt):Prop:=dP c=true\/∃a∈ks,bC (aE T a) c=true
structure wC(D:Nd->Prop)(T:List (aK×Value))(ks:List Nat):Prop where
 cl:∀k∈ks,aS (aE T k)=true/\cX D (aE T k)/\aE T k≠[]
 fac:∀k∈ks,∀y∈lM (aE T k) k,y.2=0/\rR T ks y.1.c
 res:∀k∈ks,∀m∈ks,m<=k->∀y∈gA (aE T k) k (aE T m) m,y.2=0/\rR T ks y.1.c
def tC(e:List (Bool×List Nd)):Prop:=∃a,(true,a)∈e/\(false,a)∈e
theorem tC.sub{a e:List (Bool×List Nd)}(i:tC a)(f:∀l∈a,l∈e):tC e:=by obtain ⟨g,j,k⟩:=i;exact ⟨g,f _ j,f _ k⟩
theorem aVf(j:dP c=true)(a:Int->Nd):tC (fK a c):=by
 obtain ⟨e,f,k,l⟩:=aVe j;have g:(e,bD a f)∈fK a c:=zz.2 ⟨_,k,rfl⟩;have i:(!e,bD a f)∈fK a c:=zz.2 ⟨_,l,rfl⟩;cases e with
 |true=>exact ⟨_,g,i⟩
 |false=>exact ⟨_,i,g⟩
theorem aJx{e f:List Nd}{l m:Int->Nd}(j:fD D e)(k:fD D f)(a:bD l e=bD m f):e[0]?=f[0]?:=by obtain ⟨o,p,rfl,g,_⟩:=j;obtain ⟨b,q,rfl,i,_⟩:=k;unfold bD at a;rw [zg,zg,aI (by simp [g]),aI (by simp [i])] at a;injection a with a _;simp [a]
theorem aAr{a:Nat}(e:a<c.length):iW c a=c[a].2[0]?:=by simp [iW,e]
theorem rR.ins(l:wC D T ks)(a:rR T ks c)(m:cX D c){g:Int->Nd}(q:∀i,eT D (g i)):tC (fK g c)\/∃e∈ks,(aE T e).length<=c.length/\∃f:Int->Nd,(∀i,eT D (f i))/\∀k∈fK f (aE T e),k∈fK g c:=by
 rcases a with a|⟨e,j,a⟩
 ·exact zv (aVf a g)
 ·obtain ⟨f,v,w⟩:=aTy a (l.cl e j).2.1 m q;refine zw ⟨e,j,(yD.1 a).1,f,v,λk o=>?_⟩;obtain ⟨x,p,rfl⟩:=zz.1 o;obtain ⟨r,s,t,u⟩:=w x p;exact zz.2 ⟨r,s,by rw [t,u]⟩
theorem aVg{f:List Tg}{g b:Nat}{e:List (Int×Lt)}{a:List Lt}{k:Bool}{i:Int}(j:dU f g b e a k i):a.length<=e.length:=by
 rcases j with ⟨_,rfl,_⟩|⟨_,m,l,_,_,⟨_,rfl,_⟩|⟨_,rfl,_⟩⟩
 ·simp
 ·simp
 ·exact Nat.le_trans (aJ4 _) aJ3
theorem aJy(s:wC D T ks)(t:Bool×List Nd):∀(n a:Nat),a∈ks->(aE T a).length<=n->∀m:Int->Nd,(∀p,eT D (m p))->tC (fK m (aE T a))\/∃l∈ks,∃r:Int->Nd,(∀p,eT D (r p))/\(∀g∈fK r (aE T l),g∈fK m (aE T a))/\∀f e (k:f<(aE T l).length) (j:e<(aE T l).length),f<e->((aE T l)[f].1,bD r (aE T l)[f].2)=t->((aE T l)[e].1,bD r (aE T l)[e].2)=t->False:=by
 intro n;induction n with
 |zero=>
  intro a q H;exact absurd (List.length_eq_zero_iff.1 (Nat.le_zero.1 H)) (s.cl a q).2.2
 |succ n ih=>
  intro a q H m N;obtain ⟨V,B,_⟩:=s.cl a q;by_cases J:∃f e,∃(k:f<(aE T a).length) (j:e<(aE T a).length),f<e/\((aE T a)[f].1,bD m (aE T a)[f].2)=t/\((aE T a)[e].1,bD m (aE T a)[e].2)=t
  ·obtain ⟨f,e,k,j,C,z,A⟩:=J;have R:=z.trans A.symm;injection R with e4 e5;have F:=B _ (zy k);have G:=B _ (zy j);have I:∀w∈aZ 0 [(aE T a,e)],fD D w.2.2:=cX.rest λb5 v=>by
    simp at v;subst v;exact B
   have u:=aD8 (rM V) f e;rw [fZ k,fZ j] at u;have v:(f,e)∈fH (aE T a) (aE T a):=vY.2 ⟨k,j,by rw [aAr k,aAr j];exact aJx F G e5⟩;have a1:f<e/\gJ (aE T a) f=gJ (aE T a) e:=⟨C,by rw [tA k,tA j];exact e4⟩;have M:(kF (aE T a) f e).2.1=true\/(kF (aE T a) f e).2.2≠0->((⟨3,a,0,f,e,(kF (aE T a) f e).1⟩,(kF (aE T a) f e).2.2):aK×Int)∈lM (aE T a) a:=λi=>zp.2 ⟨(f,e),v,by unfold lL;rw [aH a1,aH i]⟩
   rcases aHd (θ:=λ_=>m) F.d1 G.d1 (λw i=>(I w i).d1) e5 u with i|⟨S,O,a9,b6,b0⟩
   ·exact absurd (s.fac a q _ (M (zw i))).1 i
   ·have W:rR T ks (kF (aE T a) f e).1:=(s.fac a q _ (M (zv S))).2;have U:cX D (kF (aE T a) f e).1:=vZ F G I u;have a2:∀p,eT D (O p):=λp=>by
     obtain ⟨_,n,Q⟩:=a9 p;rw [Q];exact N n
    have E:∀g∈fK O (kF (aE T a) f e).1,g∈fK m (aE T a):=λg o=>by
     obtain ⟨a4,a0,rfl⟩:=zz.1 o;obtain ⟨w,x,y,a8⟩:=b0 a4 a0;rw [aDc] at x;obtain ⟨b1,b2,rfl⟩:=zz.1 x;exact zz.2 ⟨b1,zj b2,by rw [y,a8]⟩
    rcases W.ins s U a2 with i|⟨l,X,b4,r,x,y⟩
    ·exact zv (i.sub E)
    ·have Z:=aVg u;rw [aDc,List.length_map,List.length_eraseIdx,aH j] at Z;rcases ih l X (by omega) r x with i|⟨a3,Y,b3,a5,a6,a7⟩
     ·exact zv (i.sub λg o=>E g (y g o))
     ·exact zw ⟨a3,Y,b3,a5,λg o=>E g (y g (a6 g o)),a7⟩
  ·exact zw ⟨a,q,m,N,λg o=>o,λf e k j C z A=>J ⟨f,e,k,j,C,z,A⟩⟩
theorem aJz(m:wC D T ks){a e:Nat}(x:a∈ks)(z:e∈ks)(N:e<=a){u v:Int->Nd}(a7:∀j,eT D (u j))(a8:∀j,eT D (v j)){f g:Nat}(o:f<(aE T a).length)(p:g<(aE T e).length)(J:bD u (aE T a)[f].2=bD v (aE T e)[g].2)(a4:(aE T a)[f].1≠(aE T e)[g].1){l:List (Bool×List Nd)}(M:(∀i∈fK u ((aE T a).eraseIdx f),i∈l)/\∀i∈fK v ((aE T e).eraseIdx g),i∈l):tC l\/∃C∈ks,∃t:Int->Nd,(∀j,eT D (t j))/\∀i∈fK t (aE T C),i∈l:=by
 obtain ⟨Z,H,_⟩:=m.cl a x;obtain ⟨a0,I,_⟩:=m.cl e z;have A:=H _ (zy o);have B:=I _ (zy p);have Q:∀r∈aZ 0 [(aE T a,f),(aE T e,g)],fD D r.2.2:=cX.rest λb2 q=>by
  simp at q;rcases q with rfl|rfl
  ·exact H
  ·exact I
 have w:=aD9 (rM Z) (rM a0) f g;rw [fZ o,fZ p] at w;have q:(f,g)∈fH (aE T a) (aE T e):=vY.2 ⟨o,p,by rw [aAr o,aAr p];exact aJx A B J⟩;have a5:gJ (aE T a) f≠gJ (aE T e) g:=by rw [tA o,tA p];exact a4
 have S:(kG (aE T a) f (aE T e) g).2.1=true\/(kG (aE T a) f (aE T e) g).2.2≠0->((⟨2,a,e,f,g,(kG (aE T a) f (aE T e) g).1⟩,(kG (aE T a) f (aE T e) g).2.2):aK×Int)∈gA (aE T a) a (aE T e) e:=λk=>zp.2 ⟨(f,g),q,by unfold mF;rw [aH a5,aH k]⟩
 rcases aHd (θ:=λE=>if E=0 then u else v) A.d1 B.d1 (λr k=>(Q r k).d1) (by simpa using J) w with k|⟨X,V,b0,b3,b1⟩
 ·exact absurd (m.res a x e z N _ (S (zw k))).1 k
 ·have a1:rR T ks (kG (aE T a) f (aE T e) g).1:=(m.res a x e z N _ (S (zv X))).2;have Y:cX D (kG (aE T a) f (aE T e) g).1:=vZ A B Q w;have a6:∀j,eT D (V j):=λj=>by
   obtain ⟨E,n,W⟩:=b0 j;rw [W];by_cases O:E=0
   ·simp only [O,if_true];exact a7 n
   ·simp only [aI O];exact a8 n
  have R:∀i∈fK V (kG (aE T a) f (aE T e) g).1,i∈l:=λi y=>by
   obtain ⟨a9,a3,rfl⟩:=zz.1 y;obtain ⟨r,r1,s,U⟩:=b1 a9 a3;rw [aJd] at r1;rcases zs.1 r1 with r1|r1
   ·obtain ⟨F,G,rfl⟩:=zz.1 r1;refine M.1 _ (zz.2 ⟨F,G,?_⟩);rw [s,U];simp
   ·obtain ⟨F,G,rfl⟩:=zz.1 r1;refine M.2 _ (zz.2 ⟨F,G,?_⟩);rw [s,U];simp
  rcases a1.ins m Y a6 with k|⟨C,a2,_,t,r1,s⟩
  ·exact zv (k.sub R)
  ·exact zw ⟨C,a2,t,r1,λi y=>R i (s i y)⟩
variable {D:Nd->Prop}{T:List (aK×Value)}{ks:List Nat}
def aDn(D:Nd->Prop)(T:List (aK×Value))(ks:List Nat)(e:List (Bool×List Nd)):Prop:=∃f∈ks,∃a:Int->Nd,(∀g,eT D (a g))/\e=fK a (aE T f)
theorem wD{c d:List (Bool×List Nd)}{e:List Nd}{a:Bool×List Nd}(f:a∈c)(g:a≠(false,e)):a∈nO c d e:=List.mem_append_left _ (zx.2 ⟨f,by simpa using g⟩)
theorem wE{c d:List (Bool×List Nd)}{e:List Nd}{a:Bool×List Nd}(f:a∈d)(g:a≠(true,e)):a∈nO c d e:=List.mem_append_right _ (zx.2 ⟨f,by simpa using g⟩)
theorem aK0{f:Int->Nd}{a:Nat}{g:Bool×List Nd}(j:a<c.length)(m:(c[a].1,bD f c[a].2)=g)(o:∀a e (j:a<c.length) (k:e<c.length),a<e->(c[a].1,bD f c[a].2)=g->(c[e].1,bD f c[e].2)=g->False):∀l∈fK f (c.eraseIdx a),l∈fK f c/\l≠g:=λl s=>by
 obtain ⟨t,p,rfl⟩:=zz.1 s;obtain ⟨e,k,r,q⟩:=List.mem_eraseIdx_iff_getElem.1 p;refine ⟨zz.2 ⟨t,zj p,rfl⟩,λi=>?_⟩;rw [<-q] at i;rcases Nat.lt_or_gt_of_ne r with h|h
 ·exact o e a k j h i m
 ·exact o a e j k h m i
theorem aVh(v:wC D T ks):aAq (aDn D T ks):=by
 rintro c d g ⟨w,V,z,X,rfl⟩ ⟨x,W,A,Y,rfl⟩ a8 a9;have done:∀{u:List (Bool×List Nd)},(tC u\/∃J∈ks,∃y:Int->Nd,(∀a7,eT D (y a7))/\∀a∈fK y (aE T J),a∈u)->aJu u\/∃f,aDn D T ks f/\aJt f u:=λh=>by
  rcases h with h|⟨J,a1,y,a2,a3⟩
  ·exact zv h
  ·exact zw ⟨_,⟨J,a1,y,a2,rfl⟩,a3⟩
 rcases aJy v (false,g) _ w V (zu _) z X with ⟨i,s,t⟩|⟨m,E,M,H,Z,a4⟩
 ·by_cases p:i=g
  ·subst p;refine zw ⟨_,⟨x,W,A,Y,rfl⟩,λa e=>?_⟩;by_cases f:a=(true,i)
   ·rw [f];exact wD s (by simp)
   ·exact wE e f
  ·exact zv ⟨i,wD s (by simp),wD t (by simp [p])⟩
 ·rcases aJy v (true,g) _ x W (zu _) A Y with ⟨i,s,t⟩|⟨o,F,N,I,a0,a5⟩
  ·by_cases p:i=g
   ·subst p;refine zw ⟨_,⟨w,V,z,X,rfl⟩,λa e=>?_⟩;by_cases f:a=(false,i)
    ·rw [f];exact wE t (by simp)
    ·exact wD e f
   ·exact zv ⟨i,wE s (by simp [p]),wE t (by simp)⟩
  ·by_cases B:∃j,∃B:j<(aE T m).length,((aE T m)[j].1,bD M (aE T m)[j].2)=(false,g)
   ·by_cases C:∃k,∃C:k<(aE T o).length,((aE T o)[k].1,bD N (aE T o)[k].2)=(true,g)
    ·obtain ⟨j,q,Q⟩:=B;obtain ⟨k,r,R⟩:=C;have O:=aK0 q Q a4;have l:=aK0 r R a5;have S:∀a∈fK M ((aE T m).eraseIdx j),a∈nO (fK z (aE T w)) (fK A (aE T x)) g:=λa e=>wD (Z a (O a e).1) (O a e).2
     have U:∀a∈fK N ((aE T o).eraseIdx k),a∈nO (fK z (aE T w)) (fK A (aE T x)) g:=λa e=>wE (a0 a (l a e).1) (l a e).2
     injection Q with i1 i2;injection R with j1 j2;rcases Nat.le_total o m with h|h
     ·exact done (aJz v E F h H I q r (i2.trans j2.symm) (by rw [i1,j1];simp) ⟨S,U⟩)
     ·exact done (aJz v F E h I H r q (j2.trans i2.symm) (by rw [i1,j1];simp) ⟨U,S⟩)
    ·refine zw ⟨_,⟨o,F,N,I,rfl⟩,λa e=>wE (a0 a e) λf=>C ?_⟩;obtain ⟨a6,G,l⟩:=zz.1 e;obtain ⟨k,r,rfl⟩:=zt G;exact ⟨k,r,l.trans f⟩
   ·refine zw ⟨_,⟨m,E,M,H,rfl⟩,λa e=>wD (Z a e) λf=>B ?_⟩;obtain ⟨a6,G,l⟩:=zz.1 e;obtain ⟨j,q,rfl⟩:=zt G;exact ⟨j,q,l.trans f⟩
theorem aVi(k:wC D T ks)(p:List (List Nd))(y:∀f∈ks,∀e:Int->Nd,(∀J,eT D (e J))->∀a∈aE T f,bD e a.2∈p){P:List (List Lt)}(x:∀c∈P,cX D c/\rR T ks c):∃v:List Nd->Bool,∀c∈P,kJ D v c:=by
 obtain ⟨v,E⟩:=aVd p (aDn D T ks) (by
  rintro g ⟨f,i,e,j,rfl⟩ a B;obtain ⟨o,l,rfl⟩:=zz.1 B;exact y f i e j o l) (aVh k) (by
  rintro ⟨f,i,e,j,t⟩;exact (k.cl f i).2.2 (List.map_eq_nil_iff.1 t.symm))
 refine ⟨v,λc z e j=>?_⟩;obtain ⟨u,w⟩:=x c z;have m:∀g:Bool×List Nd,g∈fK e c->v g.2≠g.1->∃a∈c,v (bD e a.2)≠a.1:=λg A C=>by
  obtain ⟨o,l,rfl⟩:=zz.1 A;exact ⟨o,l,C⟩
 rcases w.ins k u j with ⟨q,r,s⟩|⟨f,i,_,M,H,I⟩
 ·cases hb:v q with
  |true=>exact m _ s (by simp [hb])
  |false=>exact m _ r (by simp [hb])
 ·obtain ⟨a,F,G⟩:=E _ ⟨f,i,M,H,rfl⟩;exact m a (I a F) G
end
def aDo(f:List (aK×Value))(ks:List Nat):Prop:=∀e∈ks,(∀a∈lM (aE f e) e,a.2=0/\(bL a.1.c=true\/dP a.1.c=true))/\∀g∈ks,g<=e->∀a∈gA (aE f e) e (aE f g) g,a.2=0/\(bL a.1.c=true\/dP a.1.c=true)
theorem uN.fine{f:List (aK×Value)}{a:aK×Int}(l:eH (λc=>ks.any λm=>bC (aE f m) c) L.length L=none)(j:uN L f ks b a)(k:b=true->a.2=0/\(bL a.1.c=true\/dP a.1.c=true)):a.2=0/\rR f ks a.1.c:=by
 rcases j with ⟨h1,g⟩|⟨h1,g⟩
 ·obtain ⟨e,h4⟩:=k g;rcases h1 with h1|h1
  ·exact absurd e h1
  ·rcases h4 with h4|h4
   ·rw [h1] at h4;cases h4
   ·exact ⟨e,zv h4⟩
 ·have e:a.2=0:=Classical.byContradiction λi=>h1 (zv i)
  exact ⟨e,g.end l⟩
theorem gY.shut{D:Nd->Prop}{g:List (aK×Value)}(f:gY P L n g ks b)(m:∀c∈P,cX D c)(l:eH (λc=>ks.any λa=>bC (aE g a) c) L.length L=none)(o:b=true->aDo g ks):wC D g ks/\∀c∈P,cX D c/\rR g ks c:=by have t:=aTw m f.step;refine ⟨⟨λa e=>⟨f.clause e,t a (f.ok.k a e),?_⟩,λa e j i=>(f.fac a e j i).fine l λk=>(o k a e).1 j i,λa e s r q j i=>(f.res a e s r q j i).fine l λk=>(o k a e).2 s r q j i⟩,λc p=>⟨m c p,(f.giv c p).end l⟩⟩;rw [jS (f.ok.k a e)];exact (f.good a (f.ok.k a e)).1
theorem gY.sat{D:Nd->Prop}{e:List (aK×Value)}(k:gY P L n e ks b)(m:∀c∈P,cX D c)(s:eH (λc=>ks.any λf=>bC (aE e f) c) L.length L=none)(p:b=true->aDo e ks)(i:List (List Nd))(o:∀c,cX D c->∀a:Int->Nd,(∀u,eT D (a u))->∀g∈c,bD a g.2∈i):∃v:List Nd->Bool,∀c∈P,kJ D v c:=by obtain ⟨j,l⟩:=k.shut m s p;exact aVi j i (λf q a t g r=>o _ (j.cl f q).2.1 a t g r) l
theorem gY.unsat{D:Nd->Prop}{e:List (aK×Value)}{j:aK}(l:gY P L n e ks b)(f:∀c∈P,cX D c)(p:lT P e e.length j)(m:j.c=[]){k:Nd}(q:eT D k):¬∃v:List Nd->Bool,∀c∈P,kJ D v c:=by rintro ⟨v,i⟩;have o:=aTu (D:=D) (v:=v) (λc a=>⟨f c a,i c a⟩) l.step;obtain ⟨r,g,_⟩:=(aJe (λc a=>⟨f c a,i c a⟩) o p).2 (λ_=>k) (λ_=>q);rw [m] at g;simp at g
