import Derived.Test.YtmelidkanelpbaaGreatDoorGUsesG
open List renaming append_assoc→zy,getElem?_eq_some_iff→zx,getElem?_append_right→zw,mem_append→zv,getElem?_append_left→zu,getElem?_map→zt,mem_cons→zs,map_cons→zr,length_cons→zq,mem_of_getElem?→zp,getElem?_eq_getElem→zo,foldl_cons→zn,nil_append→zm,getElem?_cons_succ→zl,getElem_mem→zk,cons_append→zj,getD_eq_getElem?_getD→zi,getElem?_eq_none_iff→zh,reverse_cons→zg,nodup_append→zf,flatMap_cons→ze,singleton_append→zd,getElem?_eq_none→zc,reverse_reverse→zb,getElem_of_mem→za,length_append→z0,mem_map→z1,getElem_inj→z4,getElem_map→z5
open Option renaming getD_some→z3,some→z6,map_some→z7
open Or renaming inr→z2,inl→z8
open Prod renaming snd→zz
namespace Go.Proofs.YtmelidkanelpbaaGreatDoor
open Go.RowKit Go.WideMaps Go.Shelf
set_option maxRecDepth 100000
variable{s:ByteArray}{V:Int->Int->Prop}{rest:List (Int×Lt)}{l m:List Nd}{T:List Tk}{i:Nat}
theorem wO.none{l:List Pl}{b:Int}(a:wO l b)(c:∀i a,¬oT l i a):b=-1:=by
 rcases a with ⟨rfl,_⟩|⟨i,d,a,_⟩
 ·rfl
 ·exact absurd a (c i d)
theorem aNu{f:List (List Lt)}{c d:Int}(a:nF s f c d)(v:s.size<=3000){g:bC}{b:List (Nat×List Lt)}(r:uQ s=.ok (g,b))(n:∀i a,¬oT g.pz i a)(p:∀i a,¬qJ b i a):f=b.map (λt=>aV t.2)/\c=0/\d=0:=by
 rcases a with ⟨e,_⟩|⟨_,a⟩
 ·omega
 ·rw [r] at a;obtain ⟨w,e,j⟩:=a;have:=e.none n;subst this;rcases j with ⟨u,_⟩|⟨_,k⟩
  ·omega
  ·rcases k with ⟨i,q,o,_⟩|⟨_,rfl,rfl,rfl⟩
   ·exact absurd o (p i q)
   ·exact ⟨rfl,rfl,rfl⟩
def pN:Nd:=(⟨#[112]⟩,0)
def cP:List Lt:=[(false,[pN])]
def cNp:List Lt:=[(true,[pN])]
theorem bCu{a:Nat->Nat->Prop}(n:∀i,a i i)(o:∀i e,a i e->a e i)(g:∀i e j,a i e->a e j->a i j):∃p:Nat->Nat,∀b c,p b=p c↔a b c:=by
 refine ⟨λb=>Classical.epsilon (a b),λb c=>⟨λd=>?_,λd=>?_⟩⟩
 ·have k:a b (Classical.epsilon (a b)):=Classical.epsilon_spec ⟨b,n b⟩;have q:a c (Classical.epsilon (a c)):=Classical.epsilon_spec ⟨c,n c⟩;have d:Classical.epsilon (a b)=Classical.epsilon (a c):=d;rw [d] at k;exact g _ _ _ k (o _ _ q)
 ·have:a b=a c:=funext λj=>propext ⟨λf=>g _ _ _ (o _ _ d) f,λf=>g _ _ _ d f⟩
  show Classical.epsilon (a b)=Classical.epsilon (a c);rw [this]
theorem aNv(e:List Tg)(f g:Nat):∃d:Nat->Nat,∀b c,d b=d c↔dE e f g b c:=
 bCu (λi=>Cl.refl i) (λ_ _ a=>Cl.symm a) (λ_ _ _ a j=>Cl.trans a j)
def sG(a:Nd):Prop:=aK a=false/\aX a=0
theorem aBx{f:Nd}(J:sG f)(u v:Int)(rest:List (Int×Lt))(r:∀a∈rest,∃m,a.2.2=[m]/\sG m)(w:aS (aV (rest.map zz))<=500):eH [(u,f),(v,f)] 0 1 rest (aV (rest.map zz)) true 0:=by
 have q:∀k∈[(u,f),(v,f)]++aU rest,sG k.2:=by
  intro k hx;rcases zv.1 hx with hx|hx
  ·simp at hx;rcases hx with rfl|rfl<;>exact J
  ·obtain ⟨a,M,z⟩:=List.mem_flatMap.1 hx;obtain ⟨m,n,p⟩:=r a M;rw [n] at z;simp at z;subst z;exact p
 obtain ⟨b,e⟩ : ∃b,[(u,f),(v,f)]++aU rest=b:=⟨_,rfl⟩;have o:∀i,(aG (b.map zz)).ch i=[]:=by
  intro i;unfold aG;simp only;cases hi:(b.map zz)[i]? with
  |none=>rfl
  |some m=>
   simp only;have p:m∈b.map zz:=zp hi;obtain ⟨k,hx,rfl⟩:=z1.1 p;rw [<-e] at hx;rw [(q k hx).2];rfl
 have t:∀i,bI b i=i:=by
  intro i;cases hi:b[i]? with
  |none=>exact pY (zh.1 hi)
  |some k=>exact lM hi (q k (by rw [e];exact zp hi)).1
 have x:∀i j,dE b 0 1 i j->(aG (b.map zz)).lab i=(aG (b.map zz)).lab j:=by
  intro i j c;induction c with
  |refl=>rfl
  |base c=>
   rcases c with c|⟨rfl,rfl⟩
   ·rw [t,t] at c;rw [c]
   ·unfold aG;rw [<-e];rfl
  |symm _ ih=>exact ih.symm
  |trans _ _ ih1 ih2=>exact ih1.trans ih2
  |down _ _ _ c=>rw [o] at c;simp at c
 obtain ⟨C,A⟩:=aNv b 0 1;refine z2 ⟨⟨λi j c _ _=>?_,λB _=>⟨B,λj _ _ P E=>?_⟩⟩,C,rest.map (λa=>a.2.2),?_,?_,z2 ⟨?_,?_,rfl,rfl⟩⟩
 ·rw [e] at c ⊢;exact x i j c
 ·rw [e,o] at E;cases E
 ·rw [e];exact A
 ·rw [e];have N:∀(d:List (Int×Lt)) (g:List Tg),g++aU d=b->(∀a∈d,∃m,a.2.2=[m]/\sG m)->aP (λB l=>aW (aG (b.map zz)) (dE b 0 1) C [B] l) (cU g.length d) (d.map (λa=>a.2.2)):=by
   intro d;induction d with
   |nil=>intro _ _ _;exact aP.nil
   |cons a d ih=>
    intro g y F;obtain ⟨m,n,p⟩:=F a (by simp);have L:aU (a::d)=(a.1,m)::aU d:=by simp [aU,n]
    rw [L] at y;have I:(b.map zz)[g.length]?=some m:=by rw [<-y];simp
    refine aP.cons ?_ ?_
    ·show aW _ _ _ _ a.2.2;rw [n];have D:(aG (b.map zz)).lab g.length=m:=by unfold aG;simp only [I,z3]
     have:=aW.name (G:=aG (b.map zz)) (R:=dE b 0 1) (rep:=C) (i:=g.length) (j:=g.length) (r:=[]) (l:=[]) (Cl.refl _) (by unfold Gr.named;rw [D];exact p.1) (by rw [o];exact aW.nil);rwa [D] at this
    ·have:=ih (g++[(a.1,m)]) (by rw [<-y];simp) (λO H=>F O (by simp [H]));simpa [n] using this
  exact N rest [(u,f),(v,f)] e r
 ·have:bX rest (rest.map λa=>a.2.2)=rest.map zz:=by
   unfold bX;clear q e o t x A r w;induction rest with
   |nil=>rfl
   |cons a d ih=>simp at ih ⊢;exact ih
  rw [this];exact w
 ·have:bX rest (rest.map λa=>a.2.2)=rest.map zz:=by
   unfold bX;clear q e o t x A r w;induction rest with
   |nil=>rfl
   |cons a d ih=>simp at ih ⊢;exact ih
  rw [this]
theorem aFw:∀(l:List Nd) (a:Nat),mB l a->(∀c∈l,cZ c=true)->aQ l a=true:=by
 intro l;induction l with
 |nil=>
  intro a b _;cases a with
  |zero=>rfl
  |succ a=>exact absurd b.1 (by simp [dZ])
 |cons c r ih=>
  intro a b d;cases a with
  |zero=>have:=b.2;simp at this
  |succ a=>
   rw [mS,d c (by simp),Bool.true_and];exact ih _ ⟨by have:=b.1;simpa [dZ] using this,by have:=b.2;simp [aO] at this;omega⟩ λm e=>d m (by simp [e])
theorem aNw{c:List Nd}{n:Nat->Nat->Prop}{g:Nat->Nat}{k:List Nat}(o:aW (aG c) n g k l):mB l k.length/\∀a∈l,aK a=false->a∈c:=by
 induction o with
 |nil=>exact ⟨⟨by simp,by simp⟩,by simp⟩
 |@var i r l _ _ ih=>
  have e:=jS (pW (g i:Int));refine ⟨⟨?_,?_⟩,?_⟩
  ·simp only [zq,dZ,e,Nat.add_zero];exact ih.1.1
  ·have:=ih.1.2;simp only [zq,aO,e,Nat.add_zero];omega
  ·intro a hn b;rcases zs.1 hn with rfl|hn
   ·rw [pW] at b;cases b
   ·exact ih.2 a hn b
 |@name i j r l _ h2 _ ih=>
  obtain ⟨a,d,u⟩:=nS h2;have p:((aG c).ch j).length=aX a:=by rw [lT d,yG]
  obtain ⟨⟨f,q⟩,t⟩:=ih;rw [z0,p,Nat.add_comm] at f q;rw [pO d];refine ⟨⟨?_,?_⟩,?_⟩
  ·simp only [zq,dZ];exact f
  ·simp only [zq,aO];omega
  ·intro m hm b;rcases zs.1 hm with rfl|hm
   ·exact zp d
   ·exact t m hm b
def eZ(s:List Int)(b c:Int):Prop:=∃a:Nat,s[a]?=some b/\c=(a:Int)
theorem aNx(s:List Int)(a:Int):(eT s a<0->a∉s)/\(0<=eT s a->eZ s a (eT s a)):=by
 unfold eT eZ;rw [<-zb s];generalize s.reverse=r;rw [zb];induction r with
 |nil=>simp [sK]
 |cons y r ih=>
  simp only [sK];by_cases b:y=a
  ·subst b;rw [aI rfl];refine ⟨λb=>by omega,λ_=>⟨r.length,?_,rfl⟩⟩;rw [zg,zw (by simp)];simp
  ·rw [aH b];refine ⟨λc h2=>?_,λc=>?_⟩
   ·rw [zg] at h2;rcases zv.1 h2 with h2|h2
    ·exact ih.1 c h2
    ·simp at h2;exact b h2.symm
   ·obtain ⟨e,d,f⟩:=ih.2 c;refine ⟨e,?_,f⟩;rw [zg,zu (zx.1 d).1];exact d
theorem aNy{c:Int->Int->Prop}(g:∀a b,V a b->c a b){d m:Nd}(k:fX V d m):fX c d m:=by
 rcases k with ⟨a,b,e,f⟩|k
 ·exact z8 ⟨a,b,e,g _ _ f⟩
 ·exact z2 k
theorem bCv:∀(l:List Nd) (b:List Nd) (a:List Nd×List Int),a.2.Nodup->aP (fX (eZ a.2)) b a.1->(l.foldl cI a).2.Nodup/\aP (fX (eZ (l.foldl cI a).2)) (b++l) (l.foldl cI a).1:=by
 intro l;induction l with
 |nil=>intro b a e f;simpa using ⟨e,f⟩
 |cons n l ih=>
  intro b a e f;rw [zn];have p:(cI a n).2.Nodup/\aP (fX (eZ (cI a n).2)) (b++[n]) (cI a n).1:=by
   unfold cI;cases hv:aK n with
   |false=>exact ⟨e,f.snoc (z2 ⟨hv,rfl⟩)⟩
   |true=>
    simp only [if_true];by_cases g:eT a.2 n.2<0
    ·rw [aI g];have t:=(aNx a.2 n.2).1 g;refine ⟨?_,?_⟩
     ·rw [zf];exact ⟨e,by simp,λc r d k=>by simp at k;subst k;exact λq=>t (q▸r)⟩
     ·have u:∀c d,eZ a.2 c d->eZ (a.2++[n.2]) c d:=by
       rintro c d ⟨j,o,v⟩;exact ⟨j,by rw [zu (zx.1 o).1];exact o,v⟩
      refine aP.snoc (f.mono λc d j=>aNy u j) (z8 ⟨hv,hv,rfl,a.2.length,?_,rfl⟩);rw [zw (Nat.le_refl _)];simp
    ·rw [aH g];exact ⟨e,f.snoc (z8 ⟨hv,hv,rfl,(aNx a.2 n.2).2 (by omega)⟩)⟩
  have:=ih (b++[n]) (cI a n) p.1 p.2;rwa [zy,zd] at this
theorem eZ.pairs{s:List Int}(b:s.Nodup):mV (eZ s):=by
 rintro g k j n ⟨c,e,rfl⟩ ⟨d,f,rfl⟩;obtain ⟨o,rfl⟩:=zx.1 e;obtain ⟨p,rfl⟩:=zx.1 f;constructor
 ·intro a;have:=(z4 b).1 a;omega
 ·intro a;have:c=d:=by omega
  subst this;rfl
theorem bCw(a b:Int->List Nd)(l:List Nd):subst b (subst a l)=subst (λc=>subst b (a c)) l:=by
 induction l with
 |nil=>rfl
 |cons n r ih=>
  rw [oB,oB,bAu,ih];cases hv:aK n with
  |true=>simp
  |false=>simp [subst,hv]
theorem bCx(s:ByteArray):∀b e f c d,fE s b e f=some (c,d)->eS c=true:=by
 intro b;induction b with
 |zero=>intro e f c d a;simp [fE] at a
 |succ b ih=>
  intro e f c d a;rw [fE] at a;split at a
  ·split at a
   ·split at a
    ·rename_i g;simp only [z6.injEq,Prod.mk.injEq] at a;rw [<-a.1];exact g
    ·simp at a
   ·split at a
    ·split at a
     ·exact ih _ _ _ _ a
     ·simp at a
    ·split at a
     ·simp at a
     ·exact ih _ _ _ _ a
  ·simp at a
theorem bCy(s:ByteArray):∀c a i,a<=i->i<qQ s c a->fD (aE s i)=true:=by
 intro c;induction c with
 |zero=>intro a i e b;simp [qQ] at b;omega
 |succ c ih=>
  intro a i e b;rw [qQ] at b;split at b
  ·rename_i d;by_cases f:i=a
   ·subst f;exact d.2
   ·exact ih (a+1) i (by omega) b
  ·omega
theorem bCz{a:Int}(b:fD a=true):a<128/\a≠10/\0<=a:=by unfold fD eK dO tE at b;simp at b;omega
theorem bD0(a:ByteArray)(f:∀i,i<a.size->aE a i<128/\aE a i≠10)(q:a.size<=20):∀c b m,a.size-b<=c->b<=a.size->b=m->1<=a.size->gD a c b m=true:=by
 intro c;induction c with
 |zero=>
  intro b m g j k d;simp [gD];omega
 |succ c ih=>
  intro b m g j k d;rw [gD];split
  ·rename_i n;obtain ⟨p,r⟩:=f b n;have o:dF (aE a b)=1:=by unfold dF;rw [aI p]
   have e:bO a b=1:=by rw [tS a b (by omega),o]
   rw [aH (by rw [e];omega),e];exact ih (b+1) (m+1) (by omega) (by omega) (by omega) d
  ·simp;omega
theorem bD1{a b:Nat}(e:b<=s.size)(f:i<b-a):aE (s.extract a b) i=aE s (a+i):=by
 have c:i<(s.extract a b).size:=by rw [ByteArray.size_extract];omega
 have d:a+i<s.size:=by omega
 rw [nD _ _ c,nD _ _ d];congr 1
 exact ByteArray.getElem_extract c
theorem bD2{b g:Nat}{d:Tk}(k:b<s.size)(a:dQ s b=.tok d g)(c:d.kind=110):eS d.txt=true:=by
 unfold dQ at a;split at a
 ·rename_i n;split at a
  ·cases a
  ·rename_i t;simp only [Nx.tok.injEq] at a;rw [<-a.1];simp only;have j:=aCu n;have v:=yO k j;have u:b+1<=eB s (b+1):=aKz s (b+1);have o:eB s b<=s.size:=aL0 (by omega);have q:(s.extract b (eB s b)).size=eB s b-b:=by rw [ByteArray.size_extract];omega
   refine bD0 _ (λi e=>?_) (by omega) _ 0 0 (by omega) (by omega) rfl (by omega);rw [q] at e;rw [bD1 o e];have:=bCz (bCy s _ b (b+i) (by omega) (by show b+i<eB s b;omega));omega
 ·split at a
  ·split at a
   ·rename_i w r p;simp only [Nx.tok.injEq] at a;rw [<-a.1];exact bCx s _ _ _ _ _ p
   ·cases a
  ·split at a
   ·split at a
    ·simp only [Nx.tok.injEq] at a;rw [<-a.1] at c;simp at c
    ·cases a
   ·split at a
    ·rename_i f;simp only [Nx.tok.injEq] at a;rw [<-a.1] at c;simp only at c;rw [c] at f;simp [mQ] at f
    ·cases a
theorem bD3(s:ByteArray):∀a d,∀c∈(cD s a d).1,c.kind=110->eS c.txt=true:=by
 intro a;induction a with
 |zero=>intro d;simp [cD]
 |succ a ih=>
  intro d;rw [cD];split
  ·rename_i f;split
   ·exact ih _
   ·split
    ·exact ih _
    ·split
     ·rename_i c j b;intro g hu;rcases zs.1 hu with rfl|hu
      ·exact bD2 f b
      ·exact ih _ g hu
     ·simp
  ·intro c b e;simp at b;rw [b] at e;simp at e
theorem bD4(s:ByteArray)(c d i:Nat)(a:(aJ (eE (cD s c d)) i).kind=110):eS (aJ (eE (cD s c d)) i).txt=true:=by
 have g:∀e∈eE (cD s c d),e.kind=110->eS e.txt=true:=by
  intro e ht;unfold eE at ht;rcases zv.1 ht with ht|ht
  ·exact bD3 s _ _ e ht
  ·generalize (cD s c d).2=b at ht;cases b with
   |none=>simp at ht
   |some p=>
    simp at ht;rw [ht];intro a;simp at a
 unfold aJ at a ⊢;by_cases f:i<(eE (cD s c d)).length
 ·rw [zi,zo f,z3] at a ⊢;exact g _ (zk _) a
 ·rw [zi,zc (by omega)] at a;simp [uP] at a
structure PT(k:Nat)(st st':bC)(l l':List Nd)(Q:List Pl)(M:List Nd):Prop where
 pl:st'.pz=st.pz++Q
 nd:l'=l++M
 tm:mB M k
 nm:∀n∈M,aK n=false->eS n.1=true/\0<=n.2/\∃p∈Q,p.2.2.1=n.2
 vs:∀n∈M,aK n=true->0<=n.2
 ps:∀p∈Q,0<=p.2.2.2
theorem bD5(M:∀i,(aJ T i).kind=110->eS (aJ T i).txt=true):∀w,(∀q b l n k,cJ T w q b l=.ok (n,k)->∃o j,PT 1 b n l k o j/\(q=true->aK (j.headD (⟨#[]⟩,0))=false))/\
  (∀b l e n k B,dS T w b l e=.ok (n,k,B)->∃o j A,B=e+A/\PT A b n l k o j):=by
 intro w;induction w with
 |zero=>exact ⟨λq b l n k a=>by simp [cJ] at a,λb l e n k B a=>by simp [dS] at a⟩
 |succ w ih=>
  obtain ⟨S,H⟩:=ih;constructor
  ·intro q b l n k a;rw [cJ] at a;split at a
   ·rename_i C;simp only [Except.ok.injEq,Prod.mk.injEq] at a;obtain ⟨rfl,rfl⟩:=a;have p:=jS (pW (jZ b.vars (aJ T b.i).txt));refine ⟨[],[(⟨#[]⟩,jZ b.vars (aJ T b.i).txt)],⟨by simp,rfl,⟨by simp [dZ,p],by simp [aO,p]⟩,λe hn c=>?_,λe hn _=>?_,λf d=>by simp at d⟩,λN=>?_⟩
    ·simp at hn;subst hn;rw [pW] at c;cases c
    ·simp at hn;subst hn;exact (aHs _ _).1
    ·rw [N] at C;cases C.2
   ·split at a
    ·simp at a
    ·rename_i F;simp only [ne_eq,Decidable.not_not] at F;have D:=M _ F;have Q:=aHz (aI0 D);have r:∀m:Int,aK ((aJ T b.i).txt,m)=false:=λm=>Q
     split at a
     ·split at a
      ·simp at a
      ·rename_i X W x R;simp only [Except.ok.injEq,Prod.mk.injEq] at a;obtain ⟨rfl,rfl⟩:=a;obtain ⟨o,j,A,C,d⟩:=H _ _ _ _ _ _ R;have G:=d.pl;have P:=d.nd;simp only at G;have O:x=A:=by omega
       subst O;have p:aX ((aJ T b.i).txt,(x:Int))=x:=by unfold aX;rw [r];simp
       refine ⟨((aJ T b.i).txt,q,(x:Int),((aJ T b.i).pos:Int))::o,((aJ T b.i).txt,(x:Int))::j,⟨?_,?_,⟨?_,?_⟩,λe hn c=>?_,λe hn c=>?_,λf hpm=>?_⟩,λ_=>r _⟩
       ·simp only;rw [G,aHu];simp
       ·rw [P,aHv];simp
       ·simp only [dZ,p,Nat.zero_add];exact d.tm.1
       ·have:=d.tm.2;simp only [aO,p,Nat.zero_add,zq];omega
       ·rcases zs.1 hn with rfl|hn
        ·exact ⟨D,by simp,_,List.mem_cons_self,rfl⟩
        ·obtain ⟨u,v,f,y,z⟩:=d.nm e hn c;exact ⟨u,v,f,by simp [y],z⟩
       ·rcases zs.1 hn with rfl|hn
        ·rw [r] at c;cases c
        ·exact d.vs e hn c
       ·rcases zs.1 hpm with rfl|hpm
        ·simp
        ·exact d.ps f hpm
     ·simp only [Except.ok.injEq,Prod.mk.injEq] at a;obtain ⟨rfl,rfl⟩:=a;have p:aX ((aJ T b.i).txt,(0:Int))=0:=by unfold aX;rw [r];simp
      refine ⟨[((aJ T b.i).txt,q,0,((aJ T b.i).pos:Int))],[((aJ T b.i).txt,0)],⟨rfl,rfl,⟨by simp [dZ,p],by simp [aO,p]⟩,λe hn _=>?_,λe hn c=>?_,λf d=>by simp at d;subst d;simp⟩,λ_=>r _⟩
      ·simp at hn;subst hn;exact ⟨D,Int.le_refl _,_,List.mem_singleton.2 rfl,rfl⟩
      ·simp at hn;subst hn;rw [r] at c;cases c
  ·intro b l e n k B a;rw [dS] at a;split at a
   ·simp at a
   ·rename_i X W d;obtain ⟨o,j,g,_⟩:=S _ _ _ _ _ d;have E:=g.pl;have I:=g.nd;simp only at E;split at a
    ·obtain ⟨L,J,U,Y,t⟩:=H _ _ _ _ _ _ a;refine ⟨o++L,j++J,1+U,by omega,by rw [t.pl,E,zy],by rw [t.nd,I,zy],aMs g.tm t.tm,λm hm c=>?_,λm hm c=>?_,λf d=>(zv.1 d).elim (g.ps f) (t.ps f)⟩
     ·rcases zv.1 hm with hm|hm
      ·obtain ⟨u,v,f,y,z⟩:=g.nm m hm c;exact ⟨u,v,f,by simp [y],z⟩
      ·obtain ⟨u,v,f,y,z⟩:=t.nm m hm c;exact ⟨u,v,f,by simp [y],z⟩
     ·rcases zv.1 hm with hm|hm
      ·exact g.vs m hm c
      ·exact t.vs m hm c
    ·split at a
     ·simp only [Except.ok.injEq,Prod.mk.injEq] at a;obtain ⟨rfl,rfl,rfl⟩:=a;exact ⟨o,j,1,rfl,E,I,g.tm,g.nm,g.vs,g.ps⟩
     ·simp at a
structure qG(Q:List Pl)(l:List Nd):Prop where
 tm:mB l 1
 nm:∀n∈l,aK n=false->eS n.1=true/\0<=n.2/\∃p∈Q,p.2.2.1=n.2
 vs:∀n∈l,aK n=true->0<=n.2
 hd:aK (l.headD (⟨#[]⟩,0))=false
theorem qG.more{c d:List Pl}(b:qG c l)(j:∀p∈c,p∈d):qG d l:=
 ⟨b.tm,λk f g=>by obtain ⟨a,e,p,n,o⟩:=b.nm k f g;exact ⟨a,e,p,j p n,o⟩,b.vs,b.hd⟩
theorem bD6(x:∀i,(aJ T i).kind=110->eS (aJ T i).txt=true):∀p k f n o,fS T p k f=.ok (n,o)->(∀b∈f,qG k.pz b.2)->(∃e,n.pz=k.pz++e/\∀c∈e,0<=c.2.2.2)/\∀b∈o,qG n.pz b.2:=by
 intro p;induction p with
 |zero=>intro k f n o a;simp [fS] at a
 |succ p ih=>
  intro k f n o a z;rw [fS] at a;split at a
  ·simp at a
  ·rename_i v q g;obtain ⟨e,L,d,A⟩:=(bD5 x _).1 _ _ _ _ _ g;have j:=d.pl;have u:=d.nd;simp only at j;simp only [zm] at u;subst u;have y:qG v.pz q:=⟨d.tm,λD B C=>by obtain ⟨b,J,c,E,F⟩:=d.nm D B C;exact ⟨b,J,c,by rw [j];simp [E],F⟩,d.vs,A rfl⟩;have t:∀r:Bool,∀b∈f++[(r,q)],qG v.pz b.2:=by
    intro r b hx;rcases zv.1 hx with hx|hx
    ·exact (z b hx).more λc g=>by rw [j];simp [g]
    ·simp at hx;subst hx;exact y
   split at a
   ·obtain ⟨⟨w,G,I⟩,H⟩:=ih _ _ _ _ a (t _);exact ⟨⟨e++w,by rw [G];simp only;rw [j,zy],λc g=>(zv.1 g).elim (d.ps c) (I c)⟩,H⟩
   ·simp only [Except.ok.injEq,Prod.mk.injEq] at a;obtain ⟨rfl,rfl⟩:=a;exact ⟨⟨e,j,d.ps⟩,t _⟩
theorem bD7(k:∀i,(aJ T i).kind=110->eS (aJ T i).txt=true){e f:bC}{j:List Lt}(a:kQ T e=.ok (f,j)):(∃b,f.pz=e.pz++b/\∀d∈b,0<=d.2.2.2)/\∀g∈j,qG f.pz g.2:=by
 unfold kQ at a;cases hq:lJ T e with
 |error d=>rw [hq] at a;simp at a
 |ok r=>
  obtain ⟨u,t⟩:=r;rw [hq] at a;simp only at a;split at a
  ·simp only [Except.ok.injEq,Prod.mk.injEq] at a;obtain ⟨rfl,rfl⟩:=a;unfold lJ at hq;split at hq
   ·simp only [Except.ok.injEq,Prod.mk.injEq] at hq;obtain ⟨rfl,rfl⟩:=hq;exact ⟨⟨[],by simp,λd n=>by simp at n⟩,λg c=>by simp at c⟩
   ·obtain ⟨⟨b,o,q⟩,p⟩:=bD6 k _ _ _ _ _ hq (λg c=>by simp at c);exact ⟨⟨b,o,q⟩,p⟩
  ·simp at a
theorem bD8(q:∀i,(aJ T i).kind=110->eS (aJ T i).txt=true):∀j d f e g,iD T j d f=.ok (e,g)->(∀a∈d.pz,0<=a.2.2.2)->(∀a∈f,∀c∈a.2,qG d.pz c.2)->(∀a∈e.pz,0<=a.2.2.2)/\∀a∈g,∀c∈a.2,qG e.pz c.2:=by
 intro j;induction j with
 |zero=>intro d f e g b;simp [iD] at b
 |succ j ih=>
  intro d f e g b k n;rw [iD] at b;split at b
  ·simp only [Except.ok.injEq,Prod.mk.injEq] at b;obtain ⟨rfl,rfl⟩:=b;exact ⟨k,n⟩
  ·split at b
   ·simp at b
   ·rename_i z x r;obtain ⟨⟨w,p,v⟩,u⟩:=bD7 q r;refine ih _ _ _ _ b (λa hp=>by rw [p] at hp;exact (zv.1 hp).elim (k a) (v a)) λa hp c o=>?_
    rcases zv.1 hp with hp|hp
    ·exact (n a hp c o).more λy t=>by rw [p];simp [t]
    ·simp at hp;subst hp;exact u c o
theorem aNz:∀(l:List Nd) (a:List Nd×List Int),∃b,(l.foldl cI a).2=a.2++b
 |[],a=>⟨[],by simp⟩
 |n::l,a=>by
  obtain ⟨b,c⟩:=aNz l (cI a n);rw [zn,c];unfold cI;split
  ·split
   ·exact ⟨[n.2]++b,by simp⟩
   ·exact ⟨b,rfl⟩
  ·exact ⟨b,rfl⟩
theorem eZ.more{s g:List Int}{a b:Int}(d:eZ s a b):eZ (s++g) a b:=by obtain ⟨e,c,f⟩:=d;exact ⟨e,by rw [zu (zx.1 c).1];exact c,f⟩
theorem bD9:∀(b c:List Lt) (a:List Lt×List Int),a.2.Nodup->aP (jT (eZ a.2)) c a.1->(b.foldl dL a).2.Nodup/\aP (jT (eZ (b.foldl dL a).2)) (c++b) (b.foldl dL a).1:=by
 intro b;induction b with
 |nil=>intro c a d e;simpa using ⟨d,e⟩
 |cons x b ih=>
  intro c a d e;rw [zn];have k:=bCv x.2 [] ([],a.2) d aP.nil;obtain ⟨u,n⟩:=aNz x.2 ([],a.2);simp only at n;have p:(dL a x).2.Nodup/\aP (jT (eZ (dL a x).2)) (c++[x]) (dL a x).1:=by
   refine ⟨k.1,aP.snoc (e.mono λf g o=>⟨o.1,o.2.mono λt m r=>aNy (λf g q=>?_) r⟩) ⟨rfl,?_⟩⟩
   ·show eZ (dW x.2 a.2).2 f g;unfold dW;rw [n];exact q.more
   ·have j:=k.2;rw [zm] at j;exact j
  have:=ih (c++[x]) (dL a x) p.1 p.2;rwa [zy,zd] at this
theorem vB(a:List Lt):(cW (bT a)).2.Nodup/\aP (jT (eZ (cW (bT a)).2)) (bT a) (aV a):=bD9 (bT a) [] ([],[]) (by simp) aP.nil
theorem bDa:∀(b a:List Lt),a.Nodup->(b.foldl eG a).Nodup:=by
 intro b;induction b with
 |nil=>intro a c;exact c
 |cons x b ih=>
  intro a c;rw [zn];refine ih _ ?_;unfold eG;split
  ·exact c
  ·rename_i f;rw [zf];refine ⟨c,by simp,λg e j d=>?_⟩;simp at d;subst d;rintro rfl;exact f ((xT _ _).2 e)
theorem bDb:∀(b a:List Lt),(a++b).Nodup->b.foldl eG a=a++b:=by
 intro b;induction b with
 |nil=>intro a _;simp
 |cons x b ih=>
  intro a c;rw [zn];have f:eG a x=a++[x]:=by unfold eG;rw [aH];intro e;have d:=(xT _ _).1 e;rw [zf] at c;exact c.2.2 x d x (by simp) rfl
  rw [f,ih (a++[x]) (by simpa using c)];simp
theorem bDc(a:List Lt):bT (bT a)=bT a:=by have:=bDb (bT a) [] (by simpa [bT] using bDa a [] (by simp));simpa [bT] using this
theorem aO0(a:List Lt):aV (aV a)=aV a:=by obtain ⟨b,c⟩:=vB a;have d:=aF2 (eZ.pairs b) c;rw [<-d];show (cW (bT (bT a))).1=(cW (bT a)).1;rw [bDc]
theorem aO1{a m:Nd}(d:fX V a m):aX a=aX m/\aK a=aK m:=by
 rcases d with ⟨b,c,_,_⟩|⟨_,rfl⟩
 ·exact ⟨by rw [jS b,jS c],by rw [b,c]⟩
 ·exact ⟨rfl,rfl⟩
theorem aO2(b:aP (fX V) l m):∀a,mB l a->mB m a:=by
 induction b with
 |nil=>intro a b;exact b
 |@cons n n' l m h1 h2 ih=>
  intro a c;cases a with
  |zero=>have:=c.2;simp at this
  |succ a=>
   have d:=ih (a+aX n) ⟨by have:=c.1;simpa [dZ] using this,by have:=c.2;simp [aO] at this;omega⟩;rw [(aO1 h1).1] at d;refine ⟨by simpa [dZ] using d.1,?_⟩;have:=d.2;simp only [aO,zq];omega
theorem pC{d e:Type}{c:d->e->Prop}{l:List d}{m:List e}(f:aP c l m):∀a∈m,∃b∈l,c b a:=by
 induction f with
 |nil=>intro a hb;simp at hb
 |cons h1 _ ih=>
  intro a hb;rcases zs.1 hb with rfl|hb
  ·exact ⟨_,by simp,h1⟩
  ·obtain ⟨b,g,j⟩:=ih a hb;exact ⟨b,by simp [g],j⟩
theorem aO3{a b:List Lt}(c:aP (jT V) a b):aS a=aS b:=by
 induction c with
 |nil=>rfl
 |cons h1 _ ih=>
  have:=h1.2.length;simp [aS] at ih ⊢;omega
theorem aO4(b:aP (fX V) l m)(a:Nd):aK (l.headD a)=aK (m.headD a):=by
 cases b with
 |nil=>rfl
 |cons q _=>exact (aO1 q).2
theorem bDd{a:List Lt}{j:List Pl}(q:∀c∈a,qG j c.2)(r:∀g∈j,g.2.2.1<=5)(b:bP (aV a)=true):aY (aV a)=true:=by
 obtain ⟨F,n⟩:=vB a;have G:aS (aV a)<=60:=by unfold bP at b;simp at b;exact b.2
 have I:(cW (bT a)).2.length<=60:=by have:=(pF (bT a)).2;rw [aO3 n] at this;omega
 unfold aY;rw [b,aO0,Bool.true_and,Bool.and_eq_true,List.all_eq_true];refine ⟨λd o=>?_,by simp⟩;obtain ⟨c,A,_,f⟩:=pC n d o;have e:=q c ((mH a).2.2 c A);have y:∀m∈d.2,cZ m=true:=by
  intro m v;obtain ⟨C,w,x⟩:=pC f m v;unfold cZ;rcases x with ⟨_,p,_,J,B,L⟩|⟨k,rfl⟩
  ·rw [aI p];have:=(zx.1 B).1;simp;omega
  ·obtain ⟨D,M,g,E,N⟩:=e.nm C w k;have:=r g E;rw [aH (by simp [k])];simp [D];omega
 have z:=aFw _ 1 (aO2 f 1 e.tm) y;have H:=vJ (aV a) d o;unfold gJ jA;have t:=e.hd;have u:aK (d.2.headD (⟨#[]⟩,0))=false:=by rw [<-aO4 f];exact t
 rw [z,u];simp;omega
theorem aO5{j:List (List Lt)}{n:Int}(a:nF s j n 0):∀f∈j,aY f=true:=by
 rcases a with ⟨_,_,_,a⟩|⟨_,a⟩
 ·cases a
 ·cases b:uQ s with
  |error e=>rw [b] at a;have:=a.2.2;omega
  |ok k=>
   obtain ⟨x,y⟩:=k;rw [b] at a;obtain ⟨k,d,⟨_,_,_,a⟩|⟨A,a⟩⟩:=a
   ·omega
   ·rcases a with ⟨_,_,_,_,_,_,a⟩|⟨q,rfl,_,_⟩
    ·omega
    ·obtain ⟨o,p⟩:=bD8 (bD4 s _ _) _ _ _ _ _ b (λe b=>by simp at b) (λe b=>by simp at b);have u:∀i c,¬oT x.pz i c:=by
      rcases d with ⟨_,d⟩|⟨i,c,_,_,z⟩
      ·exact d
      ·have:=o _ (zk c);omega
     intro f r;obtain ⟨e,g,rfl⟩:=z1.1 r;obtain ⟨w,t,rfl⟩:=za g;refine bDd (p _ g) (λB v=>?_) ?_
     ·obtain ⟨i,c,rfl⟩:=za v;have:=u i c;unfold oT at this;rw [not_or] at this;omega
     ·have:=q w t;unfold qJ at this;rw [not_or] at this;simpa using this.2
def bJ(θ:Int->Nd)(l:List Nd):List Nd:=l.map λa=>if aK a=true then θ a.2 else a
theorem aBy{f e:Int->Nd}(b:aP (fX V) l m)(k:∀c d,V c d->f c=e d):bJ f l=bJ e m:=by
 unfold bJ;induction b with
 |nil=>rfl
 |cons b _ ih=>
  rw [zr,zr,ih];congr 1
  rcases b with ⟨a,g,_,j⟩|⟨a,rfl⟩
  ·rw [aI a,aI g,k _ _ j]
  ·rw [aH (by simp [a]),aH (by simp [a])]
theorem aO6{e f:Type}{d:e->f->Prop}{l:List e}{m:List f}(c:aP d l m):∀a∈l,∃b∈m,d a b:=by
 induction c with
 |nil=>intro a ha;simp at ha
 |cons c _ ih=>
  intro a ha;rcases zs.1 ha with rfl|ha
  ·exact ⟨_,by simp,c⟩
  ·obtain ⟨b,g,j⟩:=ih a ha;exact ⟨b,by simp [g],j⟩
theorem bDe{s:List Int}(g:s.Nodup){b:Int}{i a:Int}(n:eZ s b i)(o:eZ s b a):i=a:=by obtain ⟨c,j,rfl⟩:=n;obtain ⟨d,k,rfl⟩:=o;obtain ⟨p,e⟩:=zx.1 j;obtain ⟨q,f⟩:=zx.1 k;have:c=d:=(z4 g).1 (e.trans f.symm);rw [this]
theorem bDf{s:List Int}{b c i:Int}(g:eZ s b i)(j:eZ s c i):b=c:=by
 obtain ⟨d,f,k⟩:=g;obtain ⟨e,a,n⟩:=j;obtain rfl:d=e:=by omega
 rw [f] at a;exact z6.inj a
theorem aO7(e:List Lt)(c:Int->Nd):∃d:Int->Nd,(∀b,∃a,d b=c a)/\(∀l∈e,∃m∈aV e,m.1=l.1/\bJ c m.2=bJ d l.2)/\∀m∈aV e,∃l∈e,m.1=l.1/\bJ c m.2=bJ d l.2:=by
 obtain ⟨q,j⟩:=vB e;generalize (cW (bT e)).2=s at q j;obtain ⟨d,r,o⟩ : ∃d:Int->Nd,(∀b,∃a,d b=c a)/\∀b a,eZ s b a->d b=c a:=by refine ⟨λb=>c (Classical.epsilon λa=>eZ s b a),λb=>⟨_,rfl⟩,λb a n=>?_⟩;have:=Classical.epsilon_spec (p:=λa=>eZ s b a) ⟨a,n⟩;show c _=c a;rw [bDe q this n]
 refine ⟨d,r,λl k=>?_,λm k=>?_⟩
 ·obtain ⟨m,u,f,g⟩:=aO6 j l (aFp k);exact ⟨m,u,f.symm,(aBy g o).symm⟩
 ·obtain ⟨l,t,f,g⟩:=pC j m k;exact ⟨l,(mH e).2.2 l t,f.symm,(aBy g o).symm⟩
theorem aO8(c:List Lt)(b:Int->Nd):∃a:Int->Nd,(∀y,∃x,a y=b x)/\(∀l∈c,∃m∈aV c,m.1=l.1/\bJ a m.2=bJ b l.2)/\∀m∈aV c,∃l∈c,m.1=l.1/\bJ a m.2=bJ b l.2:=by
 obtain ⟨r,f⟩:=vB c;generalize (cW (bT c)).2=s at r f;obtain ⟨a,n,k⟩ : ∃a:Int->Nd,(∀y,∃x,a y=b x)/\∀x y,eZ s x y->b x=a y:=by refine ⟨λy=>b (Classical.epsilon λx=>eZ s x y),λy=>⟨_,rfl⟩,λx y j=>?_⟩;have:=Classical.epsilon_spec (p:=λx=>eZ s x y) ⟨x,j⟩;show b x=b _;rw [bDf this j]
 refine ⟨a,n,λl g=>?_,λm g=>?_⟩
 ·obtain ⟨m,q,d,e⟩:=aO6 f l (aFp g);exact ⟨m,q,d.symm,(aBy e k).symm⟩
 ·obtain ⟨l,o,d,e⟩:=pC f m g;exact ⟨l,(mH c).2.2 l o,d.symm,(aBy e k).symm⟩
section
variable {G:Gr}{R:Nat->Nat->Prop}{V:Nat->Nd}
def vD(G:Gr)(V:Nat->Nd)(i a:Nat):Prop:=V i=V a/\(G.ch i).map V=(G.ch a).map V
def gx(G:Gr)(V:Nat->Nd)(i:Nat):List Nd:=V i::(G.ch i).map V
theorem bDg{d:Nat->Nat->Prop}(f:∀i,∀c∈G.ch i,G.ch c=[])(g:∀i a,d i a->vD G V i a):∀i a,Cl G d i a->vD G V i a:=by
 intro i a b;induction b with
 |refl=>exact ⟨rfl,rfl⟩
 |base b=>exact g _ _ b
 |symm _ ih=>exact ⟨ih.1.symm,ih.2.symm⟩
 |trans _ _ ih1 ih2=>exact ⟨ih1.1.trans ih2.1,ih1.2.trans ih2.2⟩
 |@down i a k p c _ _ _ hp hq ih=>
  have e:=congrArg (λl=>l[k]?) ih.2;simp only [zt,hp,hq,z7] at e;refine ⟨z6.inj e,?_⟩;rw [f i p (zp hp),f a c (zp hq)]
theorem bDh(o:∀i,∀b∈G.ch i,G.ch b=[])(e:∀i,G.named i->V i=G.lab i)(f:∀i a,R i a->vD G V i a):kV G R/\∀c,cE G R c:=by
 refine ⟨λi a j p q=>?_,λc=>⟨c,λa _ _ b r=>⟨b,λt k _ u g=>?_⟩⟩⟩
 ·rw [<-e i p,<-e a q];exact (f i a j).1
 ·have d:=(f _ _ k).2;rw [o a b r] at d;have n:(G.ch t).map V=[]:=d.symm;rw [List.map_eq_nil_iff.1 n] at g;simp at g
theorem aO9{e:Nat->Nat}{j:Int->Nd}(n:∀i,∀b∈G.ch i,G.ch b=[])(o:∀i,G.named i->V i=G.lab i)(p:∀i,¬G.named i->G.ch i=[])(u:∀i,R i i)(f:∀i a,R i a->vD G V i a)(v:∀i,(∀a,R i a->¬G.named a)->j (e i:Int)=V i){g:List Nat}{l:List Nd}(c:aW G R e g l):bJ j l=g.flatMap (gx G V):=by
 induction c with
 |nil=>rfl
 |@var i r l h1 _ ih=>
  have d:aK ((⟨#[]⟩,(e i:Int)):Nd)=true:=by rw [pW]
  unfold bJ at ih ⊢;rw [zr,ih,aI d,ze];unfold gx;rw [p i (h1 i (u i))];simp [v i h1]
 |@name i a r l h1 h2 _ ih=>
  have d:aK (G.lab a)=false:=h2;unfold bJ at ih ⊢;rw [zr,ih,aH (by simp [d]),List.flatMap_append,ze];have k:(G.ch a).flatMap (gx G V)=(G.ch a).map V:=by
   have:∀(l:List Nat),(∀b∈l,G.ch b=[])->l.flatMap (gx G V)=l.map V:=by
    intro l;induction l with
    |nil=>intro _;rfl
    |cons b l ih=>
     intro c;rw [ze,zr,ih λw t=>c w (by simp [t])];unfold gx;rw [c b (by simp)];rfl
   exact this _ λb q=>n a b q
  rw [k,<-(f i a h1).2,<-o a h2,<-(f i a h1).1];rfl
end
def D1(l:List Nd):Prop:=∃a b,l=a::b/\aK a=false/\aX a=b.length/\∀c∈b,aX c=0
def jW(b:List (Int×List Nd)):List Tg:=b.flatMap λa=>aN a.1 a.2
theorem aOa:∀(a c:List Nd) (b:Nat),(∀t∈a,aX t=0)->gZ (a++c) a.length b=List.range' b a.length
 |[],_,_,_=>rfl
 |t::a,c,b,h=>by
  rw [zj,zq,aUp _ _ _ (h t (by simp)),aOa a c (b+1) λe d=>h e (by simp [d])];rfl
theorem aOb:∀(d:List (Int×List Nd)) (a:List Tg),(∀b∈d,D1 b.2)->∀i f,a.length<=i->(a++jW d)[i]?=some f->aX f.2=0\/∃n p e c q,a++jW d=n++aN p (e::c)++q/\n.length=i/\f=(p,e)/\aK e=false/\aX e=c.length/\∀y∈c,aX y=0
 |[],a,_,i,f,hi,ht=>by
  rw [show a++jW []=a by simp [jW],zc hi] at ht;cases ht
 |b::d,a,hD,i,f,hi,ht=>by
  obtain ⟨e,c,t,v,w,o⟩:=hD b (by simp);have j:jW (b::d)=aN b.1 (e::c)++jW d:=by rw [<-t];rfl
  by_cases u:i=a.length
  ·subst u;refine z2 ⟨a,b.1,e,c,jW d,by rw [j,zy],rfl,?_,v,w,o⟩;rw [j] at ht;simp [aN] at ht;exact ht.symm
  ·by_cases z:i<a.length+1+c.length
   ·left;obtain ⟨g,rfl⟩ : ∃g,i=a.length+1+g:=⟨i-a.length-1,by omega⟩;have k:g<c.length:=by omega
    rw [j,zw (by omega),show a.length+1+g-a.length=g+1 by omega] at ht;simp only [aN,zr,zj,zl] at ht;rw [zu (by simpa using k),zt,zo k] at ht;simp at ht;rw [<-ht];exact o _ (zk k)
   ·rw [j,<-zy] at ht ⊢;rcases aOb d (a++aN b.1 (e::c)) (λr x=>hD r (by simp [x])) i f (by simp [aN];omega) ht with h4|h4
    ·exact z8 h4
    ·exact z2 h4
section
variable {bs:List (Int×List Nd)}
theorem zQ{a:List Tg}{b:Tg}(c:a[i]?=some b)(d:aX b.2=0):(aG (a.map zz)).ch i=[]:=by unfold aG;simp only [zt,c,z7,d,aUl]
theorem aOc{a:List Tg}(b:a[i]?=none):(aG (a.map zz)).ch i=[]:=by unfold aG;simp only [zt,b,Option.map_none]
theorem aFx{a d:List Tg}{e:Int}{c:Nd}{b:List Nd}(k:aX c=b.length)(j:∀n∈b,aX n=0):(aG ((a++aN e (c::b)++d).map zz)).ch a.length=List.range' (a.length+1) b.length:=by
 have f:(a++aN e (c::b)++d).map zz=a.map zz++(c::(b++d.map zz)):=by simp [aN];exact (List.map_congr_left (g:=id) λ_ _=>rfl).trans (List.map_id b)
 unfold aG;simp only [f];rw [zw (by simp),show a.length-(a.map zz).length=0 by simp];simp only [List.getElem?_cons_zero];rw [List.drop_append,show (a.map zz).length=a.length by simp,List.drop_eq_nil_of_le (by simp),show a.length+1-a.length=1 by omega,zm,List.drop_succ_cons,List.drop_zero,k,aOa b _ _ j]
theorem aBz(p:∀k∈bs,D1 k.2):∀i,∀c∈(aG ((jW bs).map zz)).ch i,(aG ((jW bs).map zz)).ch c=[]:=by
 intro i c b;cases ht:(jW bs)[i]? with
 |none=>rw [aOc ht] at b;simp at b
 |some t=>
  rcases aOb bs [] p i t (Nat.zero_le _) (by simpa using ht) with f|⟨A,o,f,j,C,d,n,-,-,r,g⟩
  ·rw [zQ ht f] at b;simp at b
  ·rw [zm] at d;rw [d,<-n,aFx r g,List.mem_range'_1] at b;obtain ⟨a,rfl⟩ : ∃a,c=A.length+1+a:=⟨c-A.length-1,by omega⟩;have e:a<j.length:=by omega
   have q:(jW bs)[A.length+1+a]?=some (o,j[a]):=by rw [d,zy,zw (by omega),show A.length+1+a-A.length=a+1 by omega];simp only [aN,zr,zj,zl];rw [zu (by simpa using e),zt,zo e];rfl
   exact zQ q (g _ (zk e))
end
def kY(θ:Int->Int->Nd)(a:List Tg)(i:Nat):Nd:=match a[i]? with|some t=>if aK t.2=true then θ t.1 t.2.2 else t.2|none=>θ 0 0
section
variable {θ:Int->Int->Nd}{M:List Tg}
theorem vE{a:Tg}(b:M[i]?=some a):kY θ M i=if aK a.2=true then θ a.1 a.2.2 else a.2:=by unfold kY;rw [b]
theorem aOd(b:(aG (M.map zz)).named i):kY θ M i=(aG (M.map zz)).lab i:=by
 obtain ⟨n,a,c⟩:=nS b;rw [zt] at a;cases ht:M[i]? with
 |none=>rw [ht] at a;cases a
 |some t=>
  rw [ht] at a;obtain rfl:t.2=n:=by simpa using a
  rw [vE ht,aH (by simp [c])];unfold aG;simp [ht]
theorem aFy(b:¬(aG (M.map zz)).named i):(aG (M.map zz)).ch i=[]/\∃c n,kY θ M i=θ c n:=by
 cases ht:M[i]? with
 |none=>exact ⟨aOc ht,0,0,by unfold kY;rw [ht]⟩
 |some t=>
  have a:aK t.2=true:=by
   cases a:aK t.2 with
   |true=>rfl
   |false=>exact absurd ((fO (L:=M.map zz) (i:=i) (n:=t.2) (by rw [zt,ht];rfl)).2 a) b
  exact ⟨zQ ht (jS a),t.1,t.2.2,by rw [vE ht,aI a]⟩
theorem aFz{c:Nat}(a:bI M i=bI M c):vD (aG (M.map zz)) (kY θ M) i c:=by
 have e:∀{f:Nat},M[f]?=none->bI M f=f:=λo=>pY (zh.1 o)
 cases hi:M[i]? with
 |none=>
  rw [e hi] at a;cases hj:M[c]? with
  |none=>
   rw [e hj] at a;subst a;exact ⟨rfl,rfl⟩
  |some s=>
   cases hv:aK s.2 with
   |true=>
    obtain ⟨_,_,r,b,_⟩:=kC hj hv;rw [<-a,hi] at b;cases b
   |false=>
    rw [lM hj hv] at a;subst a;exact ⟨rfl,rfl⟩
 |some t=>
  cases hv:aK t.2 with
  |true=>
   obtain ⟨_,_,r,b,j,k,n⟩:=kC hi hv;cases hj:M[c]? with
   |none=>
    rw [a,e hj,hj] at b;cases b
   |some s=>
    cases hw:aK s.2 with
    |true=>
     obtain ⟨_,_,u,d,g,p,q⟩:=kC hj hw;rw [<-a,b] at d;cases d;refine ⟨?_,by rw [zQ hi (jS hv),zQ hj (jS hw)]⟩;rw [vE hi,vE hj,aI hv,aI hw,<-k,<-n,p,q]
    |false=>
     rw [a,lM hj hw,hj] at b;cases b;rw [j] at hw;cases hw
  |false=>
   rw [lM hi hv] at a;cases hj:M[c]? with
   |none=>
    rw [e hj] at a;subst a;exact ⟨rfl,rfl⟩
   |some s=>
    cases hw:aK s.2 with
    |true=>
     obtain ⟨_,_,u,d,g,_⟩:=kC hj hw;rw [<-a,hi] at d;cases d;rw [hv] at g;cases g
    |false=>
     rw [lM hj hw] at a;subst a;exact ⟨rfl,rfl⟩
theorem aC0{A C:List Tg}{o:Int}(n:D1 l):gx (aG ((A++aN o l++C).map zz)) (kY θ (A++aN o l++C)) A.length=bJ (θ o) l:=by
 obtain ⟨c,b,rfl,p,f,g⟩:=n;unfold gx bJ;rw [aFx f g,zr];have e:(A++aN o (c::b)++C)[A.length]?=some (o,c):=by rw [zy,zw (Nat.le_refl _)];simp [aN]
 rw [vE e];congr 1
 refine List.ext_getElem (by simp) λa q k=>?_
 have d:a<b.length:=by simpa using k
 have j:(A++aN o (c::b)++C)[A.length+1+a]?=some (o,b[a]):=by rw [zy,zw (by omega),show A.length+1+a-A.length=a+1 by omega];simp only [aN,zr,zj,zl];rw [zu (by simpa using d),zt,zo d];rfl
 rw [z5,z5,List.getElem_range',Nat.one_mul,vE j]
end
theorem bDi(a b:List (Int×List Nd)):jW (a++b)=jW a++jW b:=by simp [jW]
theorem bDj(rest:List (Int×Lt)):aU rest=jW (rest.map λa=>(a.1,a.2.2)):=by unfold aU jW aN;rw [List.flatMap_map]
theorem aC1(b c:List Nd)(o1 o2:Int)(rest:List (Int×Lt)):aN o1 b++aN o2 c++aU rest=jW ([(o1,b),(o2,c)]++rest.map λa=>(a.1,a.2.2)):=by rw [bDi,<-bDj];simp [jW]
theorem aC2{c d:List Nd}{o1 o2:Int}(j:D1 c)(k:D1 d)(g:∀a∈rest,D1 a.2.2):∀b∈[(o1,c),(o2,d)]++rest.map λa=>(a.1,a.2.2),D1 b.2:=λb f=>by
 rcases zv.1 f with h|h
 ·simp at h;rcases h with rfl|rfl
  ·exact j
  ·exact k
 ·obtain ⟨a,e,rfl⟩:=z1.1 h;exact g a e
theorem aOe{a:List Tg}{e:Nat->Nat->Prop}{g:Nat->Nat}{k:Int->Nd}{j:Int->Int->Nd}(f:∀d l,aW (aG (a.map zz)) e g [d] l->bJ k l=gx (aG (a.map zz)) (kY j a) d):∀(rest:List (Int×Lt)) (b:List Tg) (c:List (List Nd)),a=b++aU rest->(∀r∈rest,D1 r.2.2)->aP (λd l=>aW (aG (a.map zz)) e g [d] l) (cU b.length rest) c->aP (λr l=>bJ k l=bJ (j r.1) r.2.2) rest c
 |[],b,c,_,_,h=>by
  cases h;exact aP.nil
 |r::rs,b,c,hM,hD,h=>by
  rw [cU] at h;cases h with
  |cons h1 h2=>
   have n:aU (r::rs)=aN r.1 r.2.2++aU rs:=by simp [aU,aN]
   rw [n] at hM;refine aP.cons ?_ ?_
   ·rw [f _ _ h1,hM,<-zy];exact aC0 (hD r (by simp))
   ·refine aOe f rs (b++aN r.1 r.2.2) _ (by rw [hM,zy]) (λp o=>hD p (by simp [o])) ?_;rw [z0,show (aN r.1 r.2.2).length=r.2.2.length by simp [aN]];exact h2
theorem aOf{j:Int->Nd}{g:Int->Int->Nd}{b:List (List Nd)}(c:aP (λ(a:Int×Lt) l=>bJ j l=bJ (g a.1) a.2.2) rest b):(∀a∈rest,∃m∈bX rest b,m.1=a.2.1/\bJ j m.2=bJ (g a.1) a.2.2)/\∀m∈bX rest b,∃a∈rest,m.1=a.2.1/\bJ j m.2=bJ (g a.1) a.2.2:=by
 induction c with
 |nil=>exact ⟨λa hr=>by simp at hr,λm hm=>by simp [bX] at hm⟩
 |@cons a l rs b c _ ih=>
  have k:bX (a::rs) (l::b)=(a.2.1,l)::bX rs b:=rfl;rw [k];refine ⟨λd hr=>?_,λm hm=>?_⟩
  ·rcases zs.1 hr with rfl|hr
   ·exact ⟨(d.2.1,l),by simp,rfl,c⟩
   ·obtain ⟨m,e,f⟩:=ih.1 d hr;exact ⟨m,by simp [e],f⟩
  ·rcases zs.1 hm with rfl|hm
   ·exact ⟨a,by simp,rfl,c⟩
   ·obtain ⟨d,e,f⟩:=ih.2 m hm;exact ⟨d,by simp [e],f⟩
theorem aOg{b j:List Nd}{o1 o2:Int}{θ:Int->Int->Nd}(I:D1 b)(J:D1 j)(H:∀d∈rest,D1 d.2.2)(W:bJ (θ o1) b=bJ (θ o2) j){E:List Lt}{M:Bool}{F:Int}(e:eH (aN o1 b++aN o2 j) 0 b.length rest E M F):F≠0\/(M=true/\∃t:Int->Nd,(∀f,∃o D,t f=θ o D)/\(∀d∈rest,∃m∈E,m.1=d.2.1/\bJ t m.2=bJ (θ d.1) d.2.2)/\∀m∈E,∃d∈rest,m.1=d.2.1/\bJ t m.2=bJ (θ d.1) d.2.2):=by
 obtain ⟨a,q⟩ : ∃a,aN o1 b++aN o2 j++aU rest=a:=⟨_,rfl⟩;have G:=aC1 b j o1 o2 rest;have R:=aC2 (o1:=o1) (o2:=o2) I J H;rw [q] at G;have w:∀i,∀a8∈(aG (a.map zz)).ch i,(aG (a.map zz)).ch a8=[]:=by rw [G];exact aBz R
 have N:gx (aG (a.map zz)) (kY θ a) 0=bJ (θ o1) b:=by have:=aC0 (θ:=θ) (A:=[]) (C:=aN o2 j++aU rest) (o:=o1) I;rw [zm,<-zy,q] at this;exact this
 have O:gx (aG (a.map zz)) (kY θ a) b.length=bJ (θ o2) j:=by have:=aC0 (θ:=θ) (A:=aN o1 b) (C:=aU rest) (o:=o2) J;rw [q,show (aN o1 b).length=b.length by simp [aN]] at this;exact this
 have x:∀i c,dE a 0 b.length i c->vD (aG (a.map zz)) (kY θ a) i c:=bDg w λi c e=>by
  rcases e with e|⟨rfl,rfl⟩
  ·exact aFz e
  ·have v:gx (aG (a.map zz)) (kY θ a) 0=gx (aG (a.map zz)) (kY θ a) b.length:=by rw [N,O,W]
   unfold gx at v;injection v with h3 h4;exact ⟨h3,h4⟩
 obtain ⟨U,S⟩:=bDh w (λi k=>aOd (θ:=θ) k) x;unfold eH at e;rw [q] at e;rcases e with ⟨P,_⟩|⟨_,p,L,a0,Y,v⟩
 ·exact absurd ⟨U,λr _=>S r⟩ P
 ·rcases v with ⟨_,_,_,rfl⟩|⟨_,rfl,rfl,rfl⟩
  ·exact z8 (by decide)
  ·refine z2 ⟨rfl,?_⟩;obtain ⟨u,b5,b6⟩ : ∃u:Int->Nd,(∀f,∃o D,u f=θ o D)/\∀i,(∀c,dE a 0 b.length i c->¬(aG (a.map zz)).named c)->u (p i:Int)=kY θ a i:=by
    classical
    refine ⟨λf=>if g:∃i:Nat,(p i:Int)=f/\∀c,dE a 0 b.length i c->¬(aG (a.map zz)).named c then kY θ a (Classical.choose g) else θ 0 0,λf=>?_,λi k=>?_⟩
    ·by_cases g:∃i:Nat,(p i:Int)=f/\∀c,dE a 0 b.length i c->¬(aG (a.map zz)).named c
     ·simp only [dif_pos g];have:=Classical.choose_spec g;exact (aFy (θ:=θ) (this.2 _ (Cl.refl _))).2
     ·simp only [dif_neg g];exact ⟨0,0,rfl⟩
    ·have g:∃n:Nat,(p n:Int)=(p i:Int)/\∀c,dE a 0 b.length n c->¬(aG (a.map zz)).named c:=⟨i,rfl,k⟩;simp only [dif_pos g];have:=Classical.choose_spec g;exact (x _ _ ((a0 _ _).1 (by have:=this.1;omega))).1
   have X:∀r l,aW (aG (a.map zz)) (dE a 0 b.length) p [r] l->bJ u l=gx (aG (a.map zz)) (kY θ a) r:=λr l e=>by
    have:=aO9 w (λi k=>aOd (θ:=θ) k) (λi k=>(aFy (θ:=θ) k).1) (λi=>Cl.refl i) x b6 e;simpa using this
   have Q:=aOe X rest (aN o1 b++aN o2 j) L q.symm H Y;obtain ⟨a3,a4⟩:=aOf Q;obtain ⟨t,b2,b3,b4⟩:=aO8 (bX rest L) u;refine ⟨t,λf=>?_,λd a1=>?_,λm Z=>?_⟩
   ·obtain ⟨b7,a2⟩:=b2 f;rw [a2];exact b5 b7
   ·obtain ⟨m,a5,a6,a7⟩:=a3 d a1;obtain ⟨n,y,z,B⟩:=b3 m a5;exact ⟨n,y,z.trans a6,B.trans a7⟩
   ·obtain ⟨n,y,z,B⟩:=b4 m Z;obtain ⟨d,a9,b0,b1⟩:=a4 n y;exact ⟨d,a9,z.trans b0,B.trans b1⟩
