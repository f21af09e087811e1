import Derived.Test.YtmelidkanelpbaaGreatDoorGTextH
import Derived.Test.YtmelidkanelpbaaGreatDoorVRes1H
open List renaming append_assoc→zy,mem_append→zx,getElem?_map→zw,getElem?_append_right→zv,map_cons→zu,getElem?_append_left→zt,getElem?_eq_some_iff→zs,mem_cons→zr,getElem?_eq_getElem→zq,mem_of_getElem?→zp,nil_append→zo,getElem?_cons_succ→zn,getElem_mem→zm,cons_append→zl,foldl_cons→zk,getD_eq_getElem?_getD→zj,getElem?_eq_none_iff→zi,flatMap_cons→zh,length_cons→zg,getElem?_eq_none→zf,getElem_of_mem→ze,nodup_append→zd,mem_map→zc,getElem_map→za
open Option renaming getD_some→zb,some→z0,map_some→z1
open Prod renaming snd→zz
namespace Go.Proofs.YtmelidkanelpbaaGreatDoor
open Go.RowKit Go.Shelf Go.WideMaps
set_option maxRecDepth 100000
variable{s:ByteArray}{V:Int->Int->Prop}{rest:List (Int×Lt)}{l m:List Nd}{T:List Tk}{i:Nat}
theorem aQ7(s:ByteArray):∀b e f c d,eQ s b e f=some (c,d)->eM c=true:=by
 intro b;induction b with
 |zero=>intro e f c d a;simp [eQ] at a
 |succ b ih=>
  intro e f c d a;rw [eQ] at a;split at a
  ·split at a
   ·split at a
    ·rename_i g;simp only [z0.injEq,Prod.mk.injEq] at a;rw [<-a.1];exact g
    ·simp at a
   ·split at a
    ·split at a
     ·exact ih _ _ _ _ a
     ·simp at a
    ·split at a
     ·simp at a
     ·exact ih _ _ _ _ a
  ·simp at a
theorem aQ8(s:ByteArray):∀c a i,a<=i->i<qS s c a->eU (aF s i)=true:=by
 intro c;induction c with
 |zero=>intro a i e b;simp [qS] at b;omega
 |succ c ih=>
  intro a i e b;rw [qS] at b;split at b
  ·rename_i d;by_cases f:i=a
   ·subst f;exact d.2
   ·exact ih (a+1) i (by omega) b
  ·omega
theorem aQ9{a:Int}(b:eU a=true):a<128/\a≠10/\0<=a:=by unfold eU eP dR tJ at b;simp at b;omega
theorem aQa(a:ByteArray)(f:∀i,i<a.size->aF a i<128/\aF a i≠10)(q:a.size<=20):∀c b m,a.size-b<=c->b<=a.size->b=m->1<=a.size->gD a c b m=true:=by
 intro c;induction c with
 |zero=>
  intro b m g j k d;simp [gD];omega
 |succ c ih=>
  intro b m g j k d;rw [gD];split
  ·rename_i n;obtain ⟨p,r⟩:=f b n;have o:dE (aF a b)=1:=by unfold dE;rw [aH p]
   have e:bP a b=1:=by rw [sO a b (by omega),o]
   rw [aI (by rw [e];omega),e];exact ih (b+1) (m+1) (by omega) (by omega) (by omega) d
  ·simp;omega
theorem aQb{a b:Nat}(e:b<=s.size)(f:i<b-a):aF (s.extract a b) i=aF s (a+i):=by
 have c:i<(s.extract a b).size:=by rw [ByteArray.size_extract];omega
 have d:a+i<s.size:=by omega
 rw [nF _ _ c,nF _ _ d];congr 1
 exact ByteArray.getElem_extract c
theorem aQc{b g:Nat}{d:Tk}(k:b<s.size)(a:dK s b=.tok d g)(c:d.kind=110):eM d.txt=true:=by
 unfold dK at a;split at a
 ·rename_i n;split at a
  ·cases a
  ·rename_i t;simp only [Nx.tok.injEq] at a;rw [<-a.1];simp only;have j:=aCo n;have v:=yN k j;have u:b+1<=eC s (b+1):=aL7 s (b+1);have o:eC s b<=s.size:=aL8 (by omega);have q:(s.extract b (eC s b)).size=eC s b-b:=by rw [ByteArray.size_extract];omega
   refine aQa _ (λi e=>?_) (by omega) _ 0 0 (by omega) (by omega) rfl (by omega);rw [q] at e;rw [aQb o e];have:=aQ9 (aQ8 s _ b (b+i) (by omega) (by show b+i<eC s b;omega));omega
 ·split at a
  ·split at a
   ·rename_i w r p;simp only [Nx.tok.injEq] at a;rw [<-a.1];exact aQ7 s _ _ _ _ _ p
   ·cases a
  ·split at a
   ·split at a
    ·simp only [Nx.tok.injEq] at a;rw [<-a.1] at c;simp at c
    ·cases a
   ·split at a
    ·rename_i f;simp only [Nx.tok.injEq] at a;rw [<-a.1] at c;simp only at c;rw [c] at f;simp [mV] at f
    ·cases a
theorem aQd(s:ByteArray):∀a d,∀c∈(cD s a d).1,c.kind=110->eM c.txt=true:=by
 intro a;induction a with
 |zero=>intro d;simp [cD]
 |succ a ih=>
  intro d;rw [cD];split
  ·rename_i f;split
   ·exact ih _
   ·split
    ·exact ih _
    ·split
     ·rename_i c j b;intro g hu;rcases zr.1 hu with rfl|hu
      ·exact aQc f b
      ·exact ih _ g hu
     ·simp
  ·intro c b e;simp at b;rw [b] at e;simp at e
theorem aQe(s:ByteArray)(c d i:Nat)(a:(aJ (eE (cD s c d)) i).kind=110):eM (aJ (eE (cD s c d)) i).txt=true:=by
 have g:∀e∈eE (cD s c d),e.kind=110->eM e.txt=true:=by
  intro e ht;unfold eE at ht;rcases zx.1 ht with ht|ht
  ·exact aQd s _ _ e ht
  ·generalize (cD s c d).2=b at ht;cases b with
   |none=>simp at ht
   |some p=>
    simp at ht;rw [ht];intro a;simp at a
 unfold aJ at a ⊢;by_cases f:i<(eE (cD s c d)).length
 ·rw [zj,zq f,zb] at a ⊢;exact g _ (zm _) a
 ·rw [zj,zf (by omega)] at a;simp [uW] at a
structure PT(k:Nat)(st st':bE)(l l':List Nd)(Q:List Pl)(M:List Nd):Prop where
 pl:st'.pz=st.pz++Q
 nd:l'=l++M
 tm:mE M k
 nm:∀n∈M,aL n=false->eM n.1=true/\0<=n.2/\∃p∈Q,p.2.2.1=n.2
 vs:∀n∈M,aL n=true->0<=n.2
 ps:∀p∈Q,0<=p.2.2.2
theorem aQf(M:∀i,(aJ T i).kind=110->eM (aJ T i).txt=true):∀w,(∀q b l n k,cJ T w q b l=.ok (n,k)->∃o j,PT 1 b n l k o j/\(q=true->aL (j.headD (⟨#[]⟩,0))=false))/\
  (∀b l e n k B,dT T w b l e=.ok (n,k,B)->∃o j A,B=e+A/\PT A b n l k o j):=by
 intro w;induction w with
 |zero=>exact ⟨λq b l n k a=>by simp [cJ] at a,λb l e n k B a=>by simp [dT] at a⟩
 |succ w ih=>
  obtain ⟨S,H⟩:=ih;constructor
  ·intro q b l n k a;rw [cJ] at a;split at a
   ·rename_i C;simp only [Except.ok.injEq,Prod.mk.injEq] at a;obtain ⟨rfl,rfl⟩:=a;have p:=jN (pP (kC b.vars (aJ T b.i).txt));refine ⟨[],[(⟨#[]⟩,kC b.vars (aJ T b.i).txt)],⟨by simp,rfl,⟨by simp [eA,p],by simp [aO,p]⟩,λe hn c=>?_,λe hn _=>?_,λf d=>by simp at d⟩,λN=>?_⟩
    ·simp at hn;subst hn;rw [pP] at c;cases c
    ·simp at hn;subst hn;exact (aI1 _ _).1
    ·rw [N] at C;cases C.2
   ·split at a
    ·simp at a
    ·rename_i F;simp only [ne_eq,Decidable.not_not] at F;have D:=M _ F;have Q:=aI8 (aI9 D);have r:∀m:Int,aL ((aJ T b.i).txt,m)=false:=λm=>Q
     split at a
     ·split at a
      ·simp at a
      ·rename_i X W x R;simp only [Except.ok.injEq,Prod.mk.injEq] at a;obtain ⟨rfl,rfl⟩:=a;obtain ⟨o,j,A,C,d⟩:=H _ _ _ _ _ _ R;have G:=d.pl;have P:=d.nd;simp only at G;have O:x=A:=by omega
       subst O;have p:aY ((aJ T b.i).txt,(x:Int))=x:=by unfold aY;rw [r];simp
       refine ⟨((aJ T b.i).txt,q,(x:Int),((aJ T b.i).pos:Int))::o,((aJ T b.i).txt,(x:Int))::j,⟨?_,?_,⟨?_,?_⟩,λe hn c=>?_,λe hn c=>?_,λf hpm=>?_⟩,λ_=>r _⟩
       ·simp only;rw [G,aI3];simp
       ·rw [P,aI4];simp
       ·simp only [eA,p,Nat.zero_add];exact d.tm.1
       ·have:=d.tm.2;simp only [aO,p,Nat.zero_add,zg];omega
       ·rcases zr.1 hn with rfl|hn
        ·exact ⟨D,by simp,_,List.mem_cons_self,rfl⟩
        ·obtain ⟨u,v,f,y,z⟩:=d.nm e hn c;exact ⟨u,v,f,by simp [y],z⟩
       ·rcases zr.1 hn with rfl|hn
        ·rw [r] at c;cases c
        ·exact d.vs e hn c
       ·rcases zr.1 hpm with rfl|hpm
        ·simp
        ·exact d.ps f hpm
     ·simp only [Except.ok.injEq,Prod.mk.injEq] at a;obtain ⟨rfl,rfl⟩:=a;have p:aY ((aJ T b.i).txt,(0:Int))=0:=by unfold aY;rw [r];simp
      refine ⟨[((aJ T b.i).txt,q,0,((aJ T b.i).pos:Int))],[((aJ T b.i).txt,0)],⟨rfl,rfl,⟨by simp [eA,p],by simp [aO,p]⟩,λe hn _=>?_,λe hn c=>?_,λf d=>by simp at d;subst d;simp⟩,λ_=>r _⟩
      ·simp at hn;subst hn;exact ⟨D,Int.le_refl _,_,List.mem_singleton.2 rfl,rfl⟩
      ·simp at hn;subst hn;rw [r] at c;cases c
  ·intro b l e n k B a;rw [dT] at a;split at a
   ·simp at a
   ·rename_i X W d;obtain ⟨o,j,g,_⟩:=S _ _ _ _ _ d;have E:=g.pl;have I:=g.nd;simp only at E;split at a
    ·obtain ⟨L,J,U,Y,t⟩:=H _ _ _ _ _ _ a;refine ⟨o++L,j++J,1+U,by omega,by rw [t.pl,E,zy],by rw [t.nd,I,zy],aMi g.tm t.tm,λm hm c=>?_,λm hm c=>?_,λf d=>(zx.1 d).elim (g.ps f) (t.ps f)⟩
     ·rcases zx.1 hm with hm|hm
      ·obtain ⟨u,v,f,y,z⟩:=g.nm m hm c;exact ⟨u,v,f,by simp [y],z⟩
      ·obtain ⟨u,v,f,y,z⟩:=t.nm m hm c;exact ⟨u,v,f,by simp [y],z⟩
     ·rcases zx.1 hm with hm|hm
      ·exact g.vs m hm c
      ·exact t.vs m hm c
    ·split at a
     ·simp only [Except.ok.injEq,Prod.mk.injEq] at a;obtain ⟨rfl,rfl,rfl⟩:=a;exact ⟨o,j,1,rfl,E,I,g.tm,g.nm,g.vs,g.ps⟩
     ·simp at a
structure pK(Q:List Pl)(l:List Nd):Prop where
 tm:mE l 1
 nm:∀n∈l,aL n=false->eM n.1=true/\0<=n.2/\∃p∈Q,p.2.2.1=n.2
 vs:∀n∈l,aL n=true->0<=n.2
 hd:aL (l.headD (⟨#[]⟩,0))=false
theorem pK.more{c d:List Pl}(b:pK c l)(j:∀p∈c,p∈d):pK d l:=
 ⟨b.tm,λk f g=>by obtain ⟨a,e,p,n,o⟩:=b.nm k f g;exact ⟨a,e,p,j p n,o⟩,b.vs,b.hd⟩
theorem aQg(x:∀i,(aJ T i).kind=110->eM (aJ T i).txt=true):∀p k f n o,fV T p k f=.ok (n,o)->(∀b∈f,pK k.pz b.2)->(∃e,n.pz=k.pz++e/\∀c∈e,0<=c.2.2.2)/\∀b∈o,pK n.pz b.2:=by
 intro p;induction p with
 |zero=>intro k f n o a;simp [fV] at a
 |succ p ih=>
  intro k f n o a z;rw [fV] at a;split at a
  ·simp at a
  ·rename_i v q g;obtain ⟨e,L,d,A⟩:=(aQf x _).1 _ _ _ _ _ g;have j:=d.pl;have u:=d.nd;simp only at j;simp only [zo] at u;subst u;have y:pK v.pz q:=⟨d.tm,λD B C=>by obtain ⟨b,J,c,E,F⟩:=d.nm D B C;exact ⟨b,J,c,by rw [j];simp [E],F⟩,d.vs,A rfl⟩;have t:∀r:Bool,∀b∈f++[(r,q)],pK v.pz b.2:=by
    intro r b hx;rcases zx.1 hx with hx|hx
    ·exact (z b hx).more λc g=>by rw [j];simp [g]
    ·simp at hx;subst hx;exact y
   split at a
   ·obtain ⟨⟨w,G,I⟩,H⟩:=ih _ _ _ _ a (t _);exact ⟨⟨e++w,by rw [G];simp only;rw [j,zy],λc g=>(zx.1 g).elim (d.ps c) (I c)⟩,H⟩
   ·simp only [Except.ok.injEq,Prod.mk.injEq] at a;obtain ⟨rfl,rfl⟩:=a;exact ⟨⟨e,j,d.ps⟩,t _⟩
theorem aQh(k:∀i,(aJ T i).kind=110->eM (aJ T i).txt=true){e f:bE}{j:List Lt}(a:kP T e=.ok (f,j)):(∃b,f.pz=e.pz++b/\∀d∈b,0<=d.2.2.2)/\∀g∈j,pK f.pz g.2:=by
 unfold kP at a;cases hq:lG T e with
 |error d=>rw [hq] at a;simp at a
 |ok r=>
  obtain ⟨u,t⟩:=r;rw [hq] at a;simp only at a;split at a
  ·simp only [Except.ok.injEq,Prod.mk.injEq] at a;obtain ⟨rfl,rfl⟩:=a;unfold lG at hq;split at hq
   ·simp only [Except.ok.injEq,Prod.mk.injEq] at hq;obtain ⟨rfl,rfl⟩:=hq;exact ⟨⟨[],by simp,λd n=>by simp at n⟩,λg c=>by simp at c⟩
   ·obtain ⟨⟨b,o,q⟩,p⟩:=aQg k _ _ _ _ _ hq (λg c=>by simp at c);exact ⟨⟨b,o,q⟩,p⟩
  ·simp at a
theorem aQi(q:∀i,(aJ T i).kind=110->eM (aJ T i).txt=true):∀j d f e g,iC T j d f=.ok (e,g)->(∀a∈d.pz,0<=a.2.2.2)->(∀a∈f,∀c∈a.2,pK d.pz c.2)->(∀a∈e.pz,0<=a.2.2.2)/\∀a∈g,∀c∈a.2,pK e.pz c.2:=by
 intro j;induction j with
 |zero=>intro d f e g b;simp [iC] at b
 |succ j ih=>
  intro d f e g b k n;rw [iC] at b;split at b
  ·simp only [Except.ok.injEq,Prod.mk.injEq] at b;obtain ⟨rfl,rfl⟩:=b;exact ⟨k,n⟩
  ·split at b
   ·simp at b
   ·rename_i z x r;obtain ⟨⟨w,p,v⟩,u⟩:=aQh q r;refine ih _ _ _ _ b (λa hp=>by rw [p] at hp;exact (zx.1 hp).elim (k a) (v a)) λa hp c o=>?_
    rcases zx.1 hp with hp|hp
    ·exact (n a hp c o).more λy t=>by rw [p];simp [t]
    ·simp at hp;subst hp;exact u c o
theorem aGw:∀(l:List Nd) (a:List Nd×List Int),∃b,(l.foldl cI a).2=a.2++b
 |[],a=>⟨[],by simp⟩
 |n::l,a=>by
  obtain ⟨b,c⟩:=aGw l (cI a n);rw [zk,c];unfold cI;split
  ·split
   ·exact ⟨[n.2]++b,by simp⟩
   ·exact ⟨b,rfl⟩
  ·exact ⟨b,rfl⟩
theorem fA.more{s g:List Int}{a b:Int}(d:fA s a b):fA (s++g) a b:=by obtain ⟨e,c,f⟩:=d;exact ⟨e,by rw [zt (zs.1 c).1];exact c,f⟩
theorem aQj:∀(b c:List Lt) (a:List Lt×List Int),a.2.Nodup->aP (jF (fA a.2)) c a.1->(b.foldl dM a).2.Nodup/\aP (jF (fA (b.foldl dM a).2)) (c++b) (b.foldl dM a).1:=by
 intro b;induction b with
 |nil=>intro c a d e;simpa using ⟨d,e⟩
 |cons x b ih=>
  intro c a d e;rw [zk];have k:=bB1 x.2 [] ([],a.2) d aP.nil;obtain ⟨u,n⟩:=aGw x.2 ([],a.2);simp only at n;have p:(dM a x).2.Nodup/\aP (jF (fA (dM a x).2)) (c++[x]) (dM a x).1:=by
   refine ⟨k.1,aP.snoc (e.mono λf g o=>⟨o.1,o.2.mono λt m r=>aMl (λf g q=>?_) r⟩) ⟨rfl,?_⟩⟩
   ·show fA (dY x.2 a.2).2 f g;unfold dY;rw [n];exact q.more
   ·have j:=k.2;rw [zo] at j;exact j
  have:=ih (c++[x]) (dM a x) p.1 p.2;rwa [zy,List.singleton_append] at this
theorem sS(a:List Lt):(cW (bT a)).2.Nodup/\aP (jF (fA (cW (bT a)).2)) (bT a) (aV a):=aQj (bT a) [] ([],[]) (by simp) aP.nil
theorem aGx:∀(b a:List Lt),a.Nodup->(b.foldl eG a).Nodup:=by
 intro b;induction b with
 |nil=>intro a c;exact c
 |cons x b ih=>
  intro a c;rw [zk];refine ih _ ?_;unfold eG;split
  ·exact c
  ·rename_i f;rw [zd];refine ⟨c,by simp,λg e j d=>?_⟩;simp at d;subst d;rintro rfl;exact f ((vN _ _).2 e)
theorem aQk:∀(b a:List Lt),(a++b).Nodup->b.foldl eG a=a++b:=by
 intro b;induction b with
 |nil=>intro a _;simp
 |cons x b ih=>
  intro a c;rw [zk];have f:eG a x=a++[x]:=by unfold eG;rw [aI];intro e;have d:=(vN _ _).1 e;rw [zd] at c;exact c.2.2 x d x (by simp) rfl
  rw [f,ih (a++[x]) (by simpa using c)];simp
theorem aQl(a:List Lt):bT (bT a)=bT a:=by have:=aQk (bT a) [] (by simpa [bT] using aGx a [] (by simp));simpa [bT] using this
theorem aGy(a:List Lt):aV (aV a)=aV a:=by obtain ⟨b,c⟩:=sS a;have d:=aFl (fA.pairs b) c;rw [<-d];show (cW (bT (bT a))).1=(cW (bT a)).1;rw [aQl]
theorem aGz{a m:Nd}(d:fL V a m):aY a=aY m/\aL a=aL m:=by
 rcases d with ⟨b,c,_,_⟩|⟨_,rfl⟩
 ·exact ⟨by rw [jN b,jN c],by rw [b,c]⟩
 ·exact ⟨rfl,rfl⟩
theorem aH0(b:aP (fL V) l m):∀a,mE l a->mE m a:=by
 induction b with
 |nil=>intro a b;exact b
 |@cons n n' l m h1 h2 ih=>
  intro a c;cases a with
  |zero=>have:=c.2;simp at this
  |succ a=>
   have d:=ih (a+aY n) ⟨by have:=c.1;simpa [eA] using this,by have:=c.2;simp [aO] at this;omega⟩;rw [(aGz h1).1] at d;refine ⟨by simpa [eA] using d.1,?_⟩;have:=d.2;simp only [aO,zg];omega
theorem oI{d e:Type}{c:d->e->Prop}{l:List d}{m:List e}(f:aP c l m):∀a∈m,∃b∈l,c b a:=by
 induction f with
 |nil=>intro a hb;simp at hb
 |cons h1 _ ih=>
  intro a hb;rcases zr.1 hb with rfl|hb
  ·exact ⟨_,by simp,h1⟩
  ·obtain ⟨b,g,j⟩:=ih a hb;exact ⟨b,by simp [g],j⟩
theorem aH1{a b:List Lt}(c:aP (jF V) a b):aR a=aR b:=by
 induction c with
 |nil=>rfl
 |cons h1 _ ih=>
  have:=h1.2.length;simp [aR] at ih ⊢;omega
theorem aH2(b:aP (fL V) l m)(a:Nd):aL (l.headD a)=aL (m.headD a):=by
 cases b with
 |nil=>rfl
 |cons q _=>exact (aGz q).2
theorem aQm{a:List Lt}{j:List Pl}(q:∀c∈a,pK j c.2)(r:∀g∈j,g.2.2.1<=5)(b:bL (aV a)=true):aS (aV a)=true:=by
 obtain ⟨F,n⟩:=sS a;have G:aR (aV a)<=60:=by unfold bL at b;simp at b;exact b.2
 have I:(cW (bT a)).2.length<=60:=by have:=(pJ (bT a)).2;rw [aH1 n] at this;omega
 unfold aS;rw [b,aGy,Bool.true_and,Bool.and_eq_true,List.all_eq_true];refine ⟨λd o=>?_,by simp⟩;obtain ⟨c,A,_,f⟩:=oI n d o;have e:=q c ((jW a).2.2 c A);have y:∀m∈d.2,dC m=true:=by
  intro m v;obtain ⟨C,w,x⟩:=oI f m v;unfold dC;rcases x with ⟨_,p,_,J,B,L⟩|⟨k,rfl⟩
  ·rw [aH p];have:=(zs.1 B).1;simp;omega
  ·obtain ⟨D,M,g,E,N⟩:=e.nm C w k;have:=r g E;rw [aI (by simp [k])];simp [D];omega
 have z:=aFf _ 1 (aH0 f 1 e.tm) y;have H:=vO (aV a) d o;unfold gF iZ;have t:=e.hd;have u:aL (d.2.headD (⟨#[]⟩,0))=false:=by rw [<-aH2 f];exact t
 rw [z,u];simp;omega
theorem aH3{j:List (List Lt)}{o:Int}(a:oL s j o 0):∀f∈j,aS f=true:=by
 rcases a with ⟨_,_,_,a⟩|⟨_,a⟩
 ·cases a
 ·cases b:uX s with
  |error e=>rw [b] at a;have:=a.2.2;omega
  |ok n=>
   obtain ⟨x,y⟩:=n;rw [b] at a;obtain ⟨n,d,⟨_,_,_,a⟩|⟨A,a⟩⟩:=a
   ·omega
   ·rcases a with ⟨_,_,_,_,_,_,a⟩|⟨r,rfl,_,_⟩
    ·omega
    ·obtain ⟨p,q⟩:=aQi (aQe s _ _) _ _ _ _ _ b (λe b=>by simp at b) (λe b=>by simp at b);have v:∀i c,¬oT x.pz i c:=by
      rcases d with ⟨_,d⟩|⟨i,c,_,_,z⟩
      ·exact d
      ·have:=p _ (zm c);omega
     intro f t;obtain ⟨e,g,rfl⟩:=zc.1 t;obtain ⟨k,u,rfl⟩:=ze g;refine aQm (q _ g) (λB w=>?_) ?_
     ·obtain ⟨i,c,rfl⟩:=ze w;have:=v i c;unfold oT at this;rw [not_or] at this;omega
     ·have:=r k u;unfold qM at this;rw [not_or] at this;simpa using this.2
def bD(θ:Int->Nd)(l:List Nd):List Nd:=l.map λa=>if aL a=true then θ a.2 else a
theorem aA0{f e:Int->Nd}(b:aP (fL V) l m)(k:∀c d,V c d->f c=e d):bD f l=bD e m:=by
 unfold bD;induction b with
 |nil=>rfl
 |cons b _ ih=>
  rw [zu,zu,ih];congr 1
  rcases b with ⟨a,g,_,j⟩|⟨a,rfl⟩
  ·rw [aH a,aH g,k _ _ j]
  ·rw [aI (by simp [a]),aI (by simp [a])]
theorem aH4{e f:Type}{d:e->f->Prop}{l:List e}{m:List f}(c:aP d l m):∀a∈l,∃b∈m,d a b:=by
 induction c with
 |nil=>intro a ha;simp at ha
 |cons c _ ih=>
  intro a ha;rcases zr.1 ha with rfl|ha
  ·exact ⟨_,by simp,c⟩
  ·obtain ⟨b,g,j⟩:=ih a ha;exact ⟨b,by simp [g],j⟩
theorem aQn{s:List Int}(g:s.Nodup){b:Int}{i a:Int}(n:fA s b i)(o:fA s b a):i=a:=by obtain ⟨c,j,rfl⟩:=n;obtain ⟨d,k,rfl⟩:=o;obtain ⟨p,e⟩:=zs.1 j;obtain ⟨q,f⟩:=zs.1 k;have:c=d:=(List.getElem_inj g).1 (e.trans f.symm);rw [this]
theorem aQo{s:List Int}{b c i:Int}(g:fA s b i)(j:fA s c i):b=c:=by
 obtain ⟨d,f,k⟩:=g;obtain ⟨e,a,n⟩:=j;obtain rfl:d=e:=by omega
 rw [f] at a;exact z0.inj a
theorem aQp(d:List Lt)(c:Int->Nd):∃τ:Int->Nd,(∀b,∃a,τ b=c a)/\(∀l∈d,∃m∈aV d,m.1=l.1/\bD c m.2=bD τ l.2)/\∀m∈aV d,∃l∈d,m.1=l.1/\bD c m.2=bD τ l.2:=by
 obtain ⟨o,g⟩:=sS d;generalize (cW (bT d)).2=s at o g;obtain ⟨τ,q,n⟩ : ∃τ:Int->Nd,(∀b,∃a,τ b=c a)/\∀b a,fA s b a->τ b=c a:=by refine ⟨λb=>c (Classical.epsilon λa=>fA s b a),λb=>⟨_,rfl⟩,λb a k=>?_⟩;have:=Classical.epsilon_spec (p:=λa=>fA s b a) ⟨a,k⟩;show c _=c a;rw [aQn o this k]
 refine ⟨τ,q,λl j=>?_,λm j=>?_⟩
 ·obtain ⟨m,t,e,f⟩:=aH4 g l (aBu j);exact ⟨m,t,e.symm,(aA0 f n).symm⟩
 ·obtain ⟨l,r,e,f⟩:=oI g m j;exact ⟨l,(jW d).2.2 l r,e.symm,(aA0 f n).symm⟩
theorem aQq(e:List Lt)(d:Int->Nd):∃c:Int->Nd,(∀b,∃a,c b=d a)/\(∀l∈e,∃m∈aV e,m.1=l.1/\bD c m.2=bD d l.2)/\∀m∈aV e,∃l∈e,m.1=l.1/\bD c m.2=bD d l.2:=by
 obtain ⟨u,j⟩:=sS e;generalize (cW (bT e)).2=s at u j;obtain ⟨c,q,o⟩ : ∃c:Int->Nd,(∀b,∃a,c b=d a)/\∀a b,fA s a b->d a=c b:=by refine ⟨λb=>d (Classical.epsilon λa=>fA s a b),λb=>⟨_,rfl⟩,λa b n=>?_⟩;have:=Classical.epsilon_spec (p:=λa=>fA s a b) ⟨a,n⟩;show d a=d _;rw [aQo this n]
 refine ⟨c,q,λl k=>?_,λm k=>?_⟩
 ·obtain ⟨m,t,f,g⟩:=aH4 j l (aBu k);exact ⟨m,t,f.symm,(aA0 g o).symm⟩
 ·obtain ⟨l,r,f,g⟩:=oI j m k;exact ⟨l,(jW e).2.2 l r,f.symm,(aA0 g o).symm⟩
theorem aQr{a:Nat->Nat->Prop}(n:∀i,a i i)(o:∀i e,a i e->a e i)(g:∀i e j,a i e->a e j->a i j):∃p:Nat->Nat,∀b c,p b=p c↔a b c:=by
 refine ⟨λb=>Classical.epsilon (a b),λb c=>⟨λd=>?_,λd=>?_⟩⟩
 ·have k:a b (Classical.epsilon (a b)):=Classical.epsilon_spec ⟨b,n b⟩;have q:a c (Classical.epsilon (a c)):=Classical.epsilon_spec ⟨c,n c⟩;have d:Classical.epsilon (a b)=Classical.epsilon (a c):=d;rw [d] at k;exact g _ _ _ k (o _ _ q)
 ·have:a b=a c:=funext λj=>propext ⟨λf=>g _ _ _ (o _ _ d) f,λf=>g _ _ _ d f⟩
  show Classical.epsilon (a b)=Classical.epsilon (a c);rw [this]
theorem aH5(e:List Tg)(f g:Nat):∃d:Nat->Nat,∀b c,d b=d c↔cZ e f g b c:=
 aQr (λi=>Cl.refl i) (λ_ _ a=>Cl.symm a) (λ_ _ _ a j=>Cl.trans a j)
def rI(a:Nd):Prop:=aL a=false/\aY a=0
theorem aA1{f:Nd}(J:rI f)(u v:Int)(rest:List (Int×Lt))(r:∀a∈rest,∃m,a.2.2=[m]/\rI m)(w:aR (aV (rest.map zz))<=500):dU [(u,f),(v,f)] 0 1 rest (aV (rest.map zz)) true 0:=by
 have q:∀k∈[(u,f),(v,f)]++aW rest,rI k.2:=by
  intro k hx;rcases zx.1 hx with hx|hx
  ·simp at hx;rcases hx with rfl|rfl<;>exact J
  ·obtain ⟨a,M,z⟩:=List.mem_flatMap.1 hx;obtain ⟨m,n,p⟩:=r a M;rw [n] at z;simp at z;subst z;exact p
 obtain ⟨b,e⟩ : ∃b,[(u,f),(v,f)]++aW rest=b:=⟨_,rfl⟩;have o:∀i,(aG (b.map zz)).ch i=[]:=by
  intro i;unfold aG;simp only;cases hi:(b.map zz)[i]? with
  |none=>rfl
  |some m=>
   simp only;have p:m∈b.map zz:=zp hi;obtain ⟨k,hx,rfl⟩:=zc.1 p;rw [<-e] at hx;rw [(q k hx).2];rfl
 have t:∀i,bJ b i=i:=by
  intro i;cases hi:b[i]? with
  |none=>exact pY (zi.1 hi)
  |some k=>exact lI hi (q k (by rw [e];exact zp hi)).1
 have x:∀i j,cZ b 0 1 i j->(aG (b.map zz)).lab i=(aG (b.map zz)).lab j:=by
  intro i j c;induction c with
  |refl=>rfl
  |base c=>
   rcases c with c|⟨rfl,rfl⟩
   ·rw [t,t] at c;rw [c]
   ·unfold aG;rw [<-e];rfl
  |symm _ ih=>exact ih.symm
  |trans _ _ ih1 ih2=>exact ih1.trans ih2
  |down _ _ _ c=>rw [o] at c;simp at c
 obtain ⟨C,A⟩:=aH5 b 0 1;refine Or.inr ⟨⟨λi j c _ _=>?_,λB _=>⟨B,λj _ _ P E=>?_⟩⟩,C,rest.map (λa=>a.2.2),?_,?_,Or.inr ⟨?_,?_,rfl,rfl⟩⟩
 ·rw [e] at c ⊢;exact x i j c
 ·rw [e,o] at E;cases E
 ·rw [e];exact A
 ·rw [e];have N:∀(d:List (Int×Lt)) (g:List Tg),g++aW d=b->(∀a∈d,∃m,a.2.2=[m]/\rI m)->aP (λB l=>aX (aG (b.map zz)) (cZ b 0 1) C [B] l) (cS g.length d) (d.map (λa=>a.2.2)):=by
   intro d;induction d with
   |nil=>intro _ _ _;exact aP.nil
   |cons a d ih=>
    intro g y F;obtain ⟨m,n,p⟩:=F a (by simp);have L:aW (a::d)=(a.1,m)::aW d:=by simp [aW,n]
    rw [L] at y;have I:(b.map zz)[g.length]?=some m:=by rw [<-y];simp
    refine aP.cons ?_ ?_
    ·show aX _ _ _ _ a.2.2;rw [n];have D:(aG (b.map zz)).lab g.length=m:=by unfold aG;simp only [I,zb]
     have:=aX.name (G:=aG (b.map zz)) (R:=cZ b 0 1) (rep:=C) (i:=g.length) (j:=g.length) (r:=[]) (l:=[]) (Cl.refl _) (by unfold Gr.named;rw [D];exact p.1) (by rw [o];exact aX.nil);rwa [D] at this
    ·have:=ih (g++[(a.1,m)]) (by rw [<-y];simp) (λO H=>F O (by simp [H]));simpa [n] using this
  exact N rest [(u,f),(v,f)] e r
 ·have:bS rest (rest.map λa=>a.2.2)=rest.map zz:=by
   unfold bS;clear q e o t x A r w;induction rest with
   |nil=>rfl
   |cons a d ih=>simp at ih ⊢;exact ih
  rw [this];exact w
 ·have:bS rest (rest.map λa=>a.2.2)=rest.map zz:=by
   unfold bS;clear q e o t x A r w;induction rest with
   |nil=>rfl
   |cons a d ih=>simp at ih ⊢;exact ih
  rw [this]
section
variable {G:Gr}{R:Nat->Nat->Prop}{V:Nat->Nd}
def uD(G:Gr)(V:Nat->Nd)(i a:Nat):Prop:=V i=V a/\(G.ch i).map V=(G.ch a).map V
def gx(G:Gr)(V:Nat->Nd)(i:Nat):List Nd:=V i::(G.ch i).map V
theorem aQs{d:Nat->Nat->Prop}(f:∀i,∀c∈G.ch i,G.ch c=[])(g:∀i a,d i a->uD G V i a):∀i a,Cl G d i a->uD G V i a:=by
 intro i a b;induction b with
 |refl=>exact ⟨rfl,rfl⟩
 |base b=>exact g _ _ b
 |symm _ ih=>exact ⟨ih.1.symm,ih.2.symm⟩
 |trans _ _ ih1 ih2=>exact ⟨ih1.1.trans ih2.1,ih1.2.trans ih2.2⟩
 |@down i a k p c _ _ _ hp hq ih=>
  have e:=congrArg (λl=>l[k]?) ih.2;simp only [zw,hp,hq,z1] at e;refine ⟨z0.inj e,?_⟩;rw [f i p (zp hp),f a c (zp hq)]
theorem aQt(o:∀i,∀b∈G.ch i,G.ch b=[])(e:∀i,G.named i->V i=G.lab i)(f:∀i a,R i a->uD G V i a):jZ G R/\∀c,cE G R c:=by
 refine ⟨λi a j p q=>?_,λc=>⟨c,λa _ _ b r=>⟨b,λt k _ u g=>?_⟩⟩⟩
 ·rw [<-e i p,<-e a q];exact (f i a j).1
 ·have d:=(f _ _ k).2;rw [o a b r] at d;have n:(G.ch t).map V=[]:=d.symm;rw [List.map_eq_nil_iff.1 n] at g;simp at g
theorem aH6{e:Nat->Nat}{j:Int->Nd}(n:∀i,∀b∈G.ch i,G.ch b=[])(o:∀i,G.named i->V i=G.lab i)(p:∀i,¬G.named i->G.ch i=[])(u:∀i,R i i)(f:∀i a,R i a->uD G V i a)(v:∀i,(∀a,R i a->¬G.named a)->j (e i:Int)=V i){g:List Nat}{l:List Nd}(c:aX G R e g l):bD j l=g.flatMap (gx G V):=by
 induction c with
 |nil=>rfl
 |@var i r l h1 _ ih=>
  have d:aL ((⟨#[]⟩,(e i:Int)):Nd)=true:=by rw [pP]
  unfold bD at ih ⊢;rw [zu,ih,aH d,zh];unfold gx;rw [p i (h1 i (u i))];simp [v i h1]
 |@name i a r l h1 h2 _ ih=>
  have d:aL (G.lab a)=false:=h2;unfold bD at ih ⊢;rw [zu,ih,aI (by simp [d]),List.flatMap_append,zh];have k:(G.ch a).flatMap (gx G V)=(G.ch a).map V:=by
   have:∀(l:List Nat),(∀b∈l,G.ch b=[])->l.flatMap (gx G V)=l.map V:=by
    intro l;induction l with
    |nil=>intro _;rfl
    |cons b l ih=>
     intro c;rw [zh,zu,ih λw t=>c w (by simp [t])];unfold gx;rw [c b (by simp)];rfl
   exact this _ λb q=>n a b q
  rw [k,<-(f i a h1).2,<-o a h2,<-(f i a h1).1];rfl
end
def D1(l:List Nd):Prop:=∃a b,l=a::b/\aL a=false/\aY a=b.length/\∀c∈b,aY c=0
def jJ(b:List (Int×List Nd)):List Tg:=b.flatMap λa=>aN a.1 a.2
theorem aH7:∀(a c:List Nd) (b:Nat),(∀t∈a,aY t=0)->gZ (a++c) a.length b=List.range' b a.length
 |[],_,_,_=>rfl
 |t::a,c,b,h=>by
  rw [zl,zg,aXd _ _ _ (h t (by simp)),aH7 a c (b+1) λe d=>h e (by simp [d])];rfl
theorem aH8:∀(d:List (Int×List Nd)) (a:List Tg),(∀b∈d,D1 b.2)->∀i f,a.length<=i->(a++jJ d)[i]?=some f->aY f.2=0\/∃n p e c q,a++jJ d=n++aN p (e::c)++q/\n.length=i/\f=(p,e)/\aL e=false/\aY e=c.length/\∀y∈c,aY y=0
 |[],a,_,i,f,hi,ht=>by
  rw [show a++jJ []=a by simp [jJ],zf hi] at ht;cases ht
 |b::d,a,hD,i,f,hi,ht=>by
  obtain ⟨e,c,t,v,w,o⟩:=hD b (by simp);have j:jJ (b::d)=aN b.1 (e::c)++jJ d:=by rw [<-t];rfl
  by_cases u:i=a.length
  ·subst u;refine Or.inr ⟨a,b.1,e,c,jJ d,by rw [j,zy],rfl,?_,v,w,o⟩;rw [j] at ht;simp [aN] at ht;exact ht.symm
  ·by_cases z:i<a.length+1+c.length
   ·left;obtain ⟨g,rfl⟩ : ∃g,i=a.length+1+g:=⟨i-a.length-1,by omega⟩;have k:g<c.length:=by omega
    rw [j,zv (by omega),show a.length+1+g-a.length=g+1 by omega] at ht;simp only [aN,zu,zl,zn] at ht;rw [zt (by simpa using k),zw,zq k] at ht;simp at ht;rw [<-ht];exact o _ (zm k)
   ·rw [j,<-zy] at ht ⊢;rcases aH8 d (a++aN b.1 (e::c)) (λr x=>hD r (by simp [x])) i f (by simp [aN];omega) ht with h4|h4
    ·exact Or.inl h4
    ·exact Or.inr h4
section
variable {bs:List (Int×List Nd)}
theorem xX{a:List Tg}{b:Tg}(c:a[i]?=some b)(d:aY b.2=0):(aG (a.map zz)).ch i=[]:=by unfold aG;simp only [zw,c,z1,d,aX9]
theorem aH9{a:List Tg}(b:a[i]?=none):(aG (a.map zz)).ch i=[]:=by unfold aG;simp only [zw,b,Option.map_none]
theorem aCl{a d:List Tg}{e:Int}{c:Nd}{b:List Nd}(k:aY c=b.length)(j:∀n∈b,aY n=0):(aG ((a++aN e (c::b)++d).map zz)).ch a.length=List.range' (a.length+1) b.length:=by
 have f:(a++aN e (c::b)++d).map zz=a.map zz++(c::(b++d.map zz)):=by simp [aN];exact (List.map_congr_left (g:=id) λ_ _=>rfl).trans (List.map_id b)
 unfold aG;simp only [f];rw [zv (by simp),show a.length-(a.map zz).length=0 by simp];simp only [List.getElem?_cons_zero];rw [List.drop_append,show (a.map zz).length=a.length by simp,List.drop_eq_nil_of_le (by simp),show a.length+1-a.length=1 by omega,zo,List.drop_succ_cons,List.drop_zero,k,aH7 b _ _ j]
theorem aA2(p:∀k∈bs,D1 k.2):∀i,∀c∈(aG ((jJ bs).map zz)).ch i,(aG ((jJ bs).map zz)).ch c=[]:=by
 intro i c b;cases ht:(jJ bs)[i]? with
 |none=>rw [aH9 ht] at b;simp at b
 |some t=>
  rcases aH8 bs [] p i t (Nat.zero_le _) (by simpa using ht) with f|⟨A,o,f,j,C,d,n,-,-,r,g⟩
  ·rw [xX ht f] at b;simp at b
  ·rw [zo] at d;rw [d,<-n,aCl r g,List.mem_range'_1] at b;obtain ⟨a,rfl⟩ : ∃a,c=A.length+1+a:=⟨c-A.length-1,by omega⟩;have e:a<j.length:=by omega
   have q:(jJ bs)[A.length+1+a]?=some (o,j[a]):=by rw [d,zy,zv (by omega),show A.length+1+a-A.length=a+1 by omega];simp only [aN,zu,zl,zn];rw [zt (by simpa using e),zw,zq e];rfl
   exact xX q (g _ (zm e))
end
def kI(θ:Int->Int->Nd)(a:List Tg)(i:Nat):Nd:=match a[i]? with|some t=>if aL t.2=true then θ t.1 t.2.2 else t.2|none=>θ 0 0
section
variable {θ:Int->Int->Nd}{M:List Tg}
theorem uE{a:Tg}(b:M[i]?=some a):kI θ M i=if aL a.2=true then θ a.1 a.2.2 else a.2:=by unfold kI;rw [b]
theorem aHa(b:(aG (M.map zz)).named i):kI θ M i=(aG (M.map zz)).lab i:=by
 obtain ⟨n,a,c⟩:=nS b;rw [zw] at a;cases ht:M[i]? with
 |none=>rw [ht] at a;cases a
 |some t=>
  rw [ht] at a;obtain rfl:t.2=n:=by simpa using a
  rw [uE ht,aI (by simp [c])];unfold aG;simp [ht]
theorem aCm(b:¬(aG (M.map zz)).named i):(aG (M.map zz)).ch i=[]/\∃c n,kI θ M i=θ c n:=by
 cases ht:M[i]? with
 |none=>exact ⟨aH9 ht,0,0,by unfold kI;rw [ht]⟩
 |some t=>
  have a:aL t.2=true:=by
   cases a:aL t.2 with
   |true=>rfl
   |false=>exact absurd ((fM (L:=M.map zz) (i:=i) (n:=t.2) (by rw [zw,ht];rfl)).2 a) b
  exact ⟨xX ht (jN a),t.1,t.2.2,by rw [uE ht,aH a]⟩
theorem aCn{c:Nat}(a:bJ M i=bJ M c):uD (aG (M.map zz)) (kI θ M) i c:=by
 have e:∀{f:Nat},M[f]?=none->bJ M f=f:=λo=>pY (zi.1 o)
 cases hi:M[i]? with
 |none=>
  rw [e hi] at a;cases hj:M[c]? with
  |none=>
   rw [e hj] at a;subst a;exact ⟨rfl,rfl⟩
  |some s=>
   cases hv:aL s.2 with
   |true=>
    obtain ⟨_,_,r,b,_⟩:=kE hj hv;rw [<-a,hi] at b;cases b
   |false=>
    rw [lI hj hv] at a;subst a;exact ⟨rfl,rfl⟩
 |some t=>
  cases hv:aL t.2 with
  |true=>
   obtain ⟨_,_,r,b,j,k,n⟩:=kE hi hv;cases hj:M[c]? with
   |none=>
    rw [a,e hj,hj] at b;cases b
   |some s=>
    cases hw:aL s.2 with
    |true=>
     obtain ⟨_,_,u,d,g,p,q⟩:=kE hj hw;rw [<-a,b] at d;cases d;refine ⟨?_,by rw [xX hi (jN hv),xX hj (jN hw)]⟩;rw [uE hi,uE hj,aH hv,aH hw,<-k,<-n,p,q]
    |false=>
     rw [a,lI hj hw,hj] at b;cases b;rw [j] at hw;cases hw
  |false=>
   rw [lI hi hv] at a;cases hj:M[c]? with
   |none=>
    rw [e hj] at a;subst a;exact ⟨rfl,rfl⟩
   |some s=>
    cases hw:aL s.2 with
    |true=>
     obtain ⟨_,_,u,d,g,_⟩:=kE hj hw;rw [<-a,hi] at d;cases d;rw [hv] at g;cases g
    |false=>
     rw [lI hj hw] at a;subst a;exact ⟨rfl,rfl⟩
theorem aA3{A C:List Tg}{o:Int}(n:D1 l):gx (aG ((A++aN o l++C).map zz)) (kI θ (A++aN o l++C)) A.length=bD (θ o) l:=by
 obtain ⟨c,b,rfl,p,f,g⟩:=n;unfold gx bD;rw [aCl f g,zu];have e:(A++aN o (c::b)++C)[A.length]?=some (o,c):=by rw [zy,zv (Nat.le_refl _)];simp [aN]
 rw [uE e];congr 1
 refine List.ext_getElem (by simp) λa q k=>?_
 have d:a<b.length:=by simpa using k
 have j:(A++aN o (c::b)++C)[A.length+1+a]?=some (o,b[a]):=by rw [zy,zv (by omega),show A.length+1+a-A.length=a+1 by omega];simp only [aN,zu,zl,zn];rw [zt (by simpa using d),zw,zq d];rfl
 rw [za,za,List.getElem_range',Nat.one_mul,uE j]
end
theorem aQu(a b:List (Int×List Nd)):jJ (a++b)=jJ a++jJ b:=by simp [jJ]
theorem aQv(rest:List (Int×Lt)):aW rest=jJ (rest.map λa=>(a.1,a.2.2)):=by unfold aW jJ aN;rw [List.flatMap_map]
theorem aA4(b c:List Nd)(o1 o2:Int)(rest:List (Int×Lt)):aN o1 b++aN o2 c++aW rest=jJ ([(o1,b),(o2,c)]++rest.map λa=>(a.1,a.2.2)):=by rw [aQu,<-aQv];simp [jJ]
theorem aA5{c d:List Nd}{o1 o2:Int}(j:D1 c)(k:D1 d)(g:∀a∈rest,D1 a.2.2):∀b∈[(o1,c),(o2,d)]++rest.map λa=>(a.1,a.2.2),D1 b.2:=λb f=>by
 rcases zx.1 f with h|h
 ·simp at h;rcases h with rfl|rfl
  ·exact j
  ·exact k
 ·obtain ⟨a,e,rfl⟩:=zc.1 h;exact g a e
theorem aHb{a:List Tg}{e:Nat->Nat->Prop}{g:Nat->Nat}{k:Int->Nd}{j:Int->Int->Nd}(f:∀d l,aX (aG (a.map zz)) e g [d] l->bD k l=gx (aG (a.map zz)) (kI j a) d):∀(rest:List (Int×Lt)) (b:List Tg) (c:List (List Nd)),a=b++aW rest->(∀r∈rest,D1 r.2.2)->aP (λd l=>aX (aG (a.map zz)) e g [d] l) (cS b.length rest) c->aP (λr l=>bD k l=bD (j r.1) r.2.2) rest c
 |[],b,c,_,_,h=>by
  cases h;exact aP.nil
 |r::rs,b,c,hM,hD,h=>by
  rw [cS] at h;cases h with
  |cons h1 h2=>
   have n:aW (r::rs)=aN r.1 r.2.2++aW rs:=by simp [aW,aN]
   rw [n] at hM;refine aP.cons ?_ ?_
   ·rw [f _ _ h1,hM,<-zy];exact aA3 (hD r (by simp))
   ·refine aHb f rs (b++aN r.1 r.2.2) _ (by rw [hM,zy]) (λp o=>hD p (by simp [o])) ?_;rw [List.length_append,show (aN r.1 r.2.2).length=r.2.2.length by simp [aN]];exact h2
theorem aHc{j:Int->Nd}{g:Int->Int->Nd}{b:List (List Nd)}(c:aP (λ(a:Int×Lt) l=>bD j l=bD (g a.1) a.2.2) rest b):(∀a∈rest,∃m∈bS rest b,m.1=a.2.1/\bD j m.2=bD (g a.1) a.2.2)/\∀m∈bS rest b,∃a∈rest,m.1=a.2.1/\bD j m.2=bD (g a.1) a.2.2:=by
 induction c with
 |nil=>exact ⟨λa hr=>by simp at hr,λm hm=>by simp [bS] at hm⟩
 |@cons a l rs b c _ ih=>
  have k:bS (a::rs) (l::b)=(a.2.1,l)::bS rs b:=rfl;rw [k];refine ⟨λd hr=>?_,λm hm=>?_⟩
  ·rcases zr.1 hr with rfl|hr
   ·exact ⟨(d.2.1,l),by simp,rfl,c⟩
   ·obtain ⟨m,e,f⟩:=ih.1 d hr;exact ⟨m,by simp [e],f⟩
  ·rcases zr.1 hm with rfl|hm
   ·exact ⟨a,by simp,rfl,c⟩
   ·obtain ⟨d,e,f⟩:=ih.2 m hm;exact ⟨d,by simp [e],f⟩
theorem aHd{b j:List Nd}{o1 o2:Int}{θ:Int->Int->Nd}(I:D1 b)(J:D1 j)(H:∀d∈rest,D1 d.2.2)(W:bD (θ o1) b=bD (θ o2) j){E:List Lt}{M:Bool}{F:Int}(e:dU (aN o1 b++aN o2 j) 0 b.length rest E M F):F≠0\/(M=true/\∃t:Int->Nd,(∀f,∃o D,t f=θ o D)/\(∀d∈rest,∃m∈E,m.1=d.2.1/\bD t m.2=bD (θ d.1) d.2.2)/\∀m∈E,∃d∈rest,m.1=d.2.1/\bD t m.2=bD (θ d.1) d.2.2):=by
 obtain ⟨a,q⟩ : ∃a,aN o1 b++aN o2 j++aW rest=a:=⟨_,rfl⟩;have G:=aA4 b j o1 o2 rest;have R:=aA5 (o1:=o1) (o2:=o2) I J H;rw [q] at G;have w:∀i,∀a8∈(aG (a.map zz)).ch i,(aG (a.map zz)).ch a8=[]:=by rw [G];exact aA2 R
 have N:gx (aG (a.map zz)) (kI θ a) 0=bD (θ o1) b:=by have:=aA3 (θ:=θ) (A:=[]) (C:=aN o2 j++aW rest) (o:=o1) I;rw [zo,<-zy,q] at this;exact this
 have O:gx (aG (a.map zz)) (kI θ a) b.length=bD (θ o2) j:=by have:=aA3 (θ:=θ) (A:=aN o1 b) (C:=aW rest) (o:=o2) J;rw [q,show (aN o1 b).length=b.length by simp [aN]] at this;exact this
 have x:∀i c,cZ a 0 b.length i c->uD (aG (a.map zz)) (kI θ a) i c:=aQs w λi c e=>by
  rcases e with e|⟨rfl,rfl⟩
  ·exact aCn e
  ·have v:gx (aG (a.map zz)) (kI θ a) 0=gx (aG (a.map zz)) (kI θ a) b.length:=by rw [N,O,W]
   unfold gx at v;injection v with h3 h4;exact ⟨h3,h4⟩
 obtain ⟨U,S⟩:=aQt w (λi k=>aHa (θ:=θ) k) x;unfold dU at e;rw [q] at e;rcases e with ⟨P,_⟩|⟨_,p,L,a0,Y,v⟩
 ·exact absurd ⟨U,λr _=>S r⟩ P
 ·rcases v with ⟨_,_,_,rfl⟩|⟨_,rfl,rfl,rfl⟩
  ·exact Or.inl (by decide)
  ·refine Or.inr ⟨rfl,?_⟩;obtain ⟨u,b5,b6⟩ : ∃u:Int->Nd,(∀f,∃o D,u f=θ o D)/\∀i,(∀c,cZ a 0 b.length i c->¬(aG (a.map zz)).named c)->u (p i:Int)=kI θ a i:=by
    classical
    refine ⟨λf=>if g:∃i:Nat,(p i:Int)=f/\∀c,cZ a 0 b.length i c->¬(aG (a.map zz)).named c then kI θ a (Classical.choose g) else θ 0 0,λf=>?_,λi k=>?_⟩
    ·by_cases g:∃i:Nat,(p i:Int)=f/\∀c,cZ a 0 b.length i c->¬(aG (a.map zz)).named c
     ·simp only [dif_pos g];have:=Classical.choose_spec g;exact (aCm (θ:=θ) (this.2 _ (Cl.refl _))).2
     ·simp only [dif_neg g];exact ⟨0,0,rfl⟩
    ·have g:∃n:Nat,(p n:Int)=(p i:Int)/\∀c,cZ a 0 b.length n c->¬(aG (a.map zz)).named c:=⟨i,rfl,k⟩;simp only [dif_pos g];have:=Classical.choose_spec g;exact (x _ _ ((a0 _ _).1 (by have:=this.1;omega))).1
   have X:∀r l,aX (aG (a.map zz)) (cZ a 0 b.length) p [r] l->bD u l=gx (aG (a.map zz)) (kI θ a) r:=λr l e=>by
    have:=aH6 w (λi k=>aHa (θ:=θ) k) (λi k=>(aCm (θ:=θ) k).1) (λi=>Cl.refl i) x b6 e;simpa using this
   have Q:=aHb X rest (aN o1 b++aN o2 j) L q.symm H Y;obtain ⟨a3,a4⟩:=aHc Q;obtain ⟨t,b2,b3,b4⟩:=aQq (bS rest L) u;refine ⟨t,λf=>?_,λd a1=>?_,λm Z=>?_⟩
   ·obtain ⟨b7,a2⟩:=b2 f;rw [a2];exact b5 b7
   ·obtain ⟨m,a5,a6,a7⟩:=a3 d a1;obtain ⟨n,y,z,B⟩:=b3 m a5;exact ⟨n,y,z.trans a6,B.trans a7⟩
   ·obtain ⟨n,y,z,B⟩:=b4 m Z;obtain ⟨d,a9,b0,b1⟩:=a4 n y;exact ⟨d,a9,z.trans b0,B.trans b1⟩
