import Derived.Test.YtmelidkanelpbaaGreatDoorGPartsT
import Derived.Laws.AppendOwnNone
import Derived.Test.YtmelidkanelpbaaGreatDoorSNam1T
open List renaming append_assoc→zy,take_succ_eq_append_getElem→zx,cons_append→zv,length_append→zu,map_append→zt,mem_append→zs,flatMap_singleton→zr,getD_eq_getElem?_getD→zq,take_length→zp,flatMap_append→zo,map_singleton→zn,flatMap_cons→zm,nil_append→zl,getElem?_eq_getElem→zk,mem_cons→zj,getElem_mem→zh,mem_map→zg,getElem?_eq_none→zf,mem_filterMap→zd,nodup_append→zc,drop_append→zb,length_drop→za,mem_flatMap→z0,getElem_map→z1,length_cons→z2
open Nat renaming le_refl→zz,zero_le→z3
open Prod renaming fst→zw
namespace Go.Proofs.YtmelidkanelpbaaGreatDoor
open _root_.Go.Proofs.Tryz renaming prog→zi
open Go.RowKit Go.WideMaps
set_option maxHeartbeats 4000000
set_option maxRecDepth 100000
variable{T:List Tk}
def eP(s:ByteArray)(q:Nat)(c:ByteArray):Prop:=∃a b,s=a++c++b/\a.size=q
section
variable {s x y:ByteArray}{q q' q'':Nat}
theorem eP.left(a:eP s q (x++y)):eP s q x:=by obtain ⟨b,B,rfl,a⟩:=a;exact ⟨b,y++B,by simp [ByteArray.append_assoc],a⟩
theorem eP.right(a:eP s q (x++y)):eP s (q+x.size) y:=by obtain ⟨b,c,rfl,a⟩:=a;exact ⟨b++x,c,by simp [ByteArray.append_assoc],by rw [ByteArray.size_append,a]⟩
theorem eP.le(a:eP s q x):q+x.size<=s.size:=by obtain ⟨b,c,rfl,a⟩:=a;simp only [ByteArray.size_append];omega
theorem aLn(s:ByteArray)(a:Nat):aE s a=((s.data.toList[a]?).map UInt8.toNat).getD 0:=by
 unfold aE;split
 ·rename_i b;have:a<s.data.toList.length:=by simpa using b
  rw [zk this];simp;rfl
 ·rename_i b;have:s.data.toList.length<=a:=by simpa using b
  rw [zf this];rfl
theorem eP.data(b:eP s q x)(a:Nat)(d:a<x.size):s.data.toList[q+a]?=x.data.toList[a]?:=by
 obtain ⟨c,e,rfl,b⟩:=b;have f:c.data.toList.length=q:=by simpa using b
 have g:a<x.data.toList.length:=by simpa using d
 simp only [ByteArray.data_append,Array.toList_append];rw [zy,List.getElem?_append_right (by omega),List.getElem?_append_left (by omega)];congr 1
 omega
theorem eP.byte(b:eP s q x)(a:Nat)(c:a<x.size):aE s (q+a)=aE x a:=by rw [aLn,aLn,b.data a c]
theorem eP.cut(d:eP s q x)(a b:Nat)(e:a+b<=x.size):s.extract (q+a) (q+a+b)=x.extract a (a+b):=by
 obtain ⟨c,f,rfl,d⟩:=d;refine ByteArray.ext (Array.toList_inj.1 ?_);have g:c.data.toList.length=q:=by simpa using d
 have i:a+b<=x.data.toList.length:=by simpa using e
 simp only [ByteArray.data_extract,Array.toList_extract,ByteArray.data_append,Array.toList_append,List.extract_eq_take_drop];rw [zy,zb,zb];rw [List.drop_eq_nil_of_le (show c.data.toList.length<=q+a by omega),zl,show q+a-c.data.toList.length=a by omega,List.take_append,show q+a+b-(q+a)-(List.drop a x.data.toList).length=0 by rw [za];omega];simp
def dQ:ByteArray:=⟨#[]⟩
def kt(a:Tk):Nat×ByteArray:=(a.kind,a.txt)
def iA(s:ByteArray)(q q':Nat)(b:List (Nat×ByteArray)):Prop:=∃a:List Tk,a.map kt=b/\dB s q=a++dB s q'
theorem iA.trans{a b:List (Nat×ByteArray)}(c:iA s q q' a)(d:iA s q' q'' b):iA s q q'' (a++b):=by obtain ⟨g,rfl,e⟩:=c;obtain ⟨i,rfl,f⟩:=d;exact ⟨g++i,by simp,by rw [e,f,zy]⟩
theorem yT:iA s q q []:=⟨[],rfl,rfl⟩
theorem aEx{f:Nat}(b:q<=s.size)(a:s.size<q+(f+1)):dB s q=eD (cD s (f+1) q):=(tY b a).symm
theorem aBb(a:q<s.size)(b:lB (aE s q)=true):iA s q (q+1) []:=by refine ⟨[],rfl,?_⟩;rw [aEx (f:=s.size) (by omega) (by omega),cD,aI a,aI b,tY (by omega) (by omega)];rfl
theorem aEy{b:Tk}{a:Nat}(c:q<s.size)(g:lB (aE s q)=false)(d:aE s q≠37)(i:dP s q=.tok b a)(e:a<=s.size)(j:q<a):iA s q a [kt b]:=by refine ⟨[b],rfl,?_⟩;rw [aEx (f:=s.size) (by omega) (by omega),cD,aI c,aH (by rw [g];decide),aH d,i,<-tY e (show s.size<a+s.size by omega)];rfl
theorem aZg:dB s s.size=[⟨101,⟨#[]⟩,s.size⟩]:=by rw [aEx (f:=s.size) (zz _) (by omega),cD,aH (by omega)];rfl
theorem uN{c:Nat}(e:q<s.size)(a:aE s q=c)(d:mP c=true):iA s q (q+1) [(c,dQ)]:=by
 have b:c=124\/c=126\/c=40\/c=41\/c=44\/c=46:=by unfold mP at d;simpa [or_assoc] using d
 have f:dP s q=.tok ⟨c,⟨#[]⟩,q⟩ (q+1):=by unfold dP;rw [a];rcases b with rfl|rfl|rfl|rfl|rfl|rfl<;>simp [eK,dM,mP]
 exact aEy e (by rw [a];rcases b with rfl|rfl|rfl|rfl|rfl|rfl<;>rfl) (by rw [a];rcases b with rfl|rfl|rfl|rfl|rfl|rfl<;>decide) f (by omega) (by omega)
theorem aLo{c:Nat}(g:q+1<s.size)(a:aE s q=c)(b:(eK c || dM c)=true)(d:fD (aE s (q+1))=false):iA s q (q+1) [(if dM c then 118 else 110,s.extract q (q+1))]:=by
 have e:eB s q=q+1:=by rw [yI (by omega) (by rw [a];unfold fD;rw [b];rfl),aK7 (by rw [d];simp)]
 have f:dP s q=.tok ⟨if dM c then 118 else 110,s.extract q (q+1),q⟩ (q+1):=by unfold dP;rw [a,aI b,e,aH (by omega)]
 have i:65<=c/\c<=122:=by simp [eK,dM] at b;omega
 exact aEy (by omega) (by rw [a];unfold lB;simp;omega) (by rw [a];omega) f (by omega) (by omega)
theorem aZh(a:eP s q ⟨#[36,102,97,108,115,101]⟩):iA s q (q+6) [(102,dQ)]:=by
 have c:q+6<=s.size:=a.le;have b:aE s q=36:=a.byte 0 (by decide);have e:s.extract q (q+6)=⟨#[36,102,97,108,115,101]⟩:=a.cut 0 6 (by decide);have d:dP s q=.tok ⟨102,⟨#[]⟩,q⟩ (q+6):=by unfold dP;rw [b,aH (by decide),aH (by decide),aI rfl,aI ⟨c,e⟩]
 exact aEy (by omega) (by rw [b];rfl) (by rw [b];decide) d (by omega) (by omega)
end
abbrev TT:=Nat×ByteArray
def At(T:List Tk)(a:Nat)(b:List TT):Prop:=(T.drop a).map kt=b
theorem At.hd{b:Nat}{a:TT}{d:List TT}(c:At T b (a::d)):(aJ T b).kind=a.1/\(aJ T b).txt=a.2/\At T (b+1) d:=by
 unfold At at c ⊢;cases hd:T.drop b with
 |nil=>rw [hd] at c;simp at c
 |cons t u=>
  rw [hd] at c;simp only [List.map_cons,List.cons.injEq] at c;have e:T[b]?=some t:=by
   have:(T.drop b)[0]?=some t:=by rw [hd];rfl
   simpa using this
  have f:aJ T b=t:=by unfold aJ;rw [zq,e];rfl
  have g:T.drop (b+1)=u:=by rw [<-List.drop_drop,hd];rfl
  rw [f,g,<-c.1];exact ⟨rfl,rfl,c.2⟩
theorem At.len{c:Nat}{b:List TT}(a:At T c b):b.length<=T.length:=by unfold At at a;rw [<-a,List.length_map,za];omega
structure Lk where
 neg:Bool
 nm:ByteArray
 ts:List TT
def nU(b:List ByteArray)(a:TT):List ByteArray:=if a.1=118 then kN b a.2 else b
def pV(b:List ByteArray)(a:TT):Nd:=if a.1=118 then (⟨#[]⟩,jZ b a.2) else (a.2,0)
def mT(b:List ByteArray)(a:List TT):List ByteArray:=a.foldl nU b
def qR:List ByteArray->List TT->List Nd
 |_,[]=>[]
 |vs,t::r=>pV vs t::qR (nU vs t) r
theorem aLp:∀(a:List TT) (b:List ByteArray),(qR b a).length=a.length
 |[],_=>rfl
 |t::r,b=>by simp [qR,aLp r]
def rP:List TT->List TT
 |[]=>[]
 |[t]=>[t,(41,dQ)]
 |t::u::r=>t::(44,dQ)::rP (u::r)
def nV(a:Lk):List TT:=(110,a.nm)::(match a.ts with|[]=>[]|t::r=>(40,dQ)::rP (t::r))
def wS(b:List ByteArray)(a:Lk):List Nd:=(a.nm,(a.ts.length:Int))::qR b a.ts
def nW(a:Lk):List TT:=(if a.neg then [(126,dQ)] else [])++nV a
def jR:List Lk->List TT
 |[]=>[]
 |[x]=>nW x
 |x::y::r=>nW x++(124,dQ)::jR (y::r)
def fM:List ByteArray->List Lk->List Lt
 |_,[]=>[]
 |vs,x::r=>(x.neg,wS vs x)::fM (mT vs x.ts) r
def oS(a:List Lk):List TT:=(match a with|[]=>[(102,dQ)]|x::r=>jR (x::r))++[(46,dQ)]
def qS(a:List (List Lk)):List TT:=a.flatMap oS++[(101,dQ)]
def tD(b:List TT):Prop:=∀a∈b,a.1=118\/a.1=110
theorem aLq{f:Nat}{st:bC}{l:List Nd}{a d:TT}{m:List TT}(ht:a.1=118\/a.1=110)(e:At T st.i (a::d::m))(j:d.1≠40):∃k,cJ T (f+1) false st l=.ok (⟨st.i+1,nU st.vars a,k⟩,l++[pV st.vars a]):=by
 obtain ⟨b,c,g⟩:=e.hd;obtain ⟨i,_,_⟩:=g.hd;rw [cJ];rcases ht with ht|ht
 ·rw [aI ⟨by rw [b,ht],rfl⟩];exact ⟨st.pz,by simp [nU,pV,ht,c]⟩
 ·rw [aH (by rw [b,ht];simp),aH (by rw [b,ht];simp),aH (by rw [i];exact j),c];exact ⟨_,by simp only [nU,pV,ht];rfl⟩
theorem aLr{T:List Tk}:∀(b:List TT) (f:Nat) (st:bC) (l:List Nd) (c:Nat) (a:List TT),tD b->b≠[]->b.length<f->At T (st.i+1) (rP b++a)->∃i g,dT T f st l c=.ok (⟨g,mT st.vars b,i⟩,l++qR st.vars b,c+b.length)/\At T g a
 |[],f,st,l,c,a,_,h,_,_=>absurd rfl h
 |[t],f,st,l,c,a,hk,_,hf,h=>by
  obtain ⟨f,rfl⟩ : ∃j,f=j+2:=⟨f-2,by simp at hf;omega⟩;have d:At T (st.i+1) (t::(41,dQ)::a):=h;obtain ⟨i,n⟩:=aLq (f:=f) (st:=⟨st.i+1,st.vars,st.pz⟩) (l:=l) (hk t (by simp)) d (by simp);obtain ⟨_,_,k⟩:=d.hd;obtain ⟨e,_,m⟩:=k.hd;rw [dT,n];simp only;rw [aH (by rw [e];simp),aI e];exact ⟨_,_,rfl,m⟩
 |t::u::r,f,st,l,c,a,hk,_,hf,h=>by
  obtain ⟨f,rfl⟩ : ∃j,f=j+2:=⟨f-2,by simp at hf;omega⟩;have d:At T (st.i+1) (t::(44,dQ)::(rP (u::r)++a)):=h;obtain ⟨i,n⟩:=aLq (f:=f) (st:=⟨st.i+1,st.vars,st.pz⟩) (l:=l) (hk t (by simp)) d (by simp);obtain ⟨_,_,k⟩:=d.hd;obtain ⟨e,_,m⟩:=k.hd;rw [dT,n];simp only;rw [aI e];obtain ⟨s,g,o,p⟩:=aLr (u::r) (f+1) ⟨st.i+1+1,nU st.vars t,i⟩ (l++[pV st.vars t]) (c+1) a (λv q=>hk v (by simp [q])) (by simp) (by simp at hf ⊢;omega) m;refine ⟨s,g,?_,p⟩;rw [o];simp [mT,qR];omega
def aEz(c:List TT):Prop:=∃a b,c=a::b/\a.1≠40
theorem aZi{b:Nat}{st:bC}{c:Lk}{e:List TT}(u:tD c.ts)(s:c.ts.length+1<b)(l:At T st.i (nV c++e))(v:aEz e):∃j d,cJ T b true st []=.ok (⟨d,mT st.vars c.ts,j⟩,wS st.vars c)/\At T d e:=by
 obtain ⟨b,rfl⟩ : ∃p,b=p+1:=⟨b-1,by omega⟩;obtain ⟨y,i,x⟩:=c;unfold nV at l;obtain ⟨m,n,f⟩:=At.hd (a:=(110,i)) l;simp only at m n;rw [cJ,aH (by simp),aH (by rw [m];simp),n];cases x with
 |nil=>
  obtain ⟨z,k,rfl,w⟩:=v;obtain ⟨g,_,_⟩:=f.hd;rw [aH (by rw [g];exact w)];exact ⟨_,_,rfl,f⟩
 |cons t k=>
  obtain ⟨g,_,q⟩:=At.hd (a:=(40,dQ)) f;rw [aI g];obtain ⟨j,d,o,r⟩:=aLr (t::k) b ⟨st.i+1,st.vars,st.pz++[(i,true,0,((aJ T st.i).pos:Int))]⟩ ([]++[(i,0)]) 0 e u (by simp) (by simp at s ⊢;omega) q;rw [o];refine ⟨pO j st.pz.length (0+(t::k).length),d,?_,r⟩;simp [dS,wS,List.modify]
theorem aLs{a:TT}{b:List TT}(c:a.1≠40):aEz (a::b):=⟨a,b,rfl,c⟩
theorem aLt(e:Lk):e.ts.length<(nV e).length:=by
 have:∀b:List TT,b.length<=(rP b).length:=by
  intro b;induction b with
  |nil=>simp
  |cons d a ih=>
   cases a with
   |nil=>simp [rP]
   |cons u a=>simp [rP] at ih ⊢;omega
 unfold nV;split
 ·rename_i c;simp [c]
 ·rename_i d a c;have:=this (d::a);rw [c];simp at this ⊢;omega
theorem aLu{T:List Tk}:∀(g:List Lk) (e:Nat) (b:bC) (i:List Lt) (d:List TT),(∀x∈g,tD x.ts)->g≠[]->g.length<=e->At T b.i (jR g++(46,dQ)::d)->∃l,fW T e b i=.ok (l,i++fM b.vars g)/\At T l.i ((46,dQ)::d)
 |[],e,b,i,d,_,h,_,_=>absurd rfl h
 |x::r,e,b,i,d,hk,_,hf,h=>by
  obtain ⟨e,rfl⟩ : ∃s,e=s+1:=⟨e-1,by simp at hf;omega⟩;obtain ⟨f,B,y,C⟩ : ∃f,jR (x::r)++(46,dQ)::d=nW x++f/\aEz f/\((r=[]/\f=(46,dQ)::d)\/(r≠[]/\f=(124,dQ)::(jR r++(46,dQ)::d))):=by
   cases r with
   |nil=>exact ⟨_,rfl,aLs (by simp),Or.inl ⟨rfl,rfl⟩⟩
   |cons n r=>exact ⟨(124,dQ)::(jR (n::r)++(46,dQ)::d),by simp [jR],aLs (by simp),Or.inr ⟨by simp,rfl⟩⟩
  rw [B] at h;have u:x.ts.length+1<T.length+1:=by have c:=h.len;have j:=aLt x;unfold nW at c;simp only [zu] at c;omega
  obtain ⟨k,A,v,w⟩ : ∃k,(if (aJ T b.i).kind=126 then b.i+1 else b.i)=k/\decide ((aJ T b.i).kind=126)=x.neg/\At T k (nV x++f):=by
   unfold nW at h;cases hn:x.neg with
   |true=>
    rw [hn] at h;obtain ⟨c,_,j⟩:=At.hd (a:=(126,dQ)) h;simp only at c;exact ⟨b.i+1,by rw [aI c],by simp [c],j⟩
   |false=>
    rw [hn] at h;have o:At T b.i (nV x++f):=h;unfold nV at o;obtain ⟨c,_,_⟩:=At.hd (a:=(110,x.nm)) o;simp only at c;exact ⟨b.i,by rw [aH (by rw [c];simp)],by simp [c],h⟩
  obtain ⟨F,E,p,m⟩:=aZi (st:=⟨k,b.vars,b.pz⟩) (hk x (by simp)) u w y;rw [fW,A,p,v];simp only;rcases C with ⟨rfl,rfl⟩|⟨z,rfl⟩
  ·obtain ⟨c,_,_⟩:=m.hd;rw [aH (by rw [c];simp)];exact ⟨_,rfl,m⟩
  ·obtain ⟨c,_,j⟩:=m.hd;rw [aI c];obtain ⟨l,q,t⟩:=aLu r e ⟨E+1,mT b.vars x.ts,F⟩ (i++[(x.neg,wS b.vars x)]) d (λn D=>hk n (by simp [D])) z (by simp at hf;omega) j;refine ⟨l,?_,t⟩;rw [q];simp [fM]
theorem aZj{e:List Lk}{f:bC}{i:List TT}(s:∀b∈e,tD b.ts)(t:e.length<=T.length+1)(d:At T f.i (oS e++i)):∃m,kO T f=.ok (m,fM [] e)/\At T m.i i:=by
 unfold oS at d;cases e with
 |nil=>
  obtain ⟨j,_,k⟩:=At.hd (a:=(102,dQ)) d;obtain ⟨l,_,p⟩:=At.hd (a:=(46,dQ)) k;rw [kO,lC,aI j];simp only;rw [aI l];exact ⟨_,rfl,p⟩
 |cons b r=>
  rw [zy] at d;have o:(aJ T f.i).kind≠102:=by
   have:∃a g,jR (b::r)++([(46,dQ)]++i)=a::g/\a.1≠102:=by
    have u:∃a g,nW b=a::g/\a.1≠102:=by
     unfold nW;cases b.neg with
     |true=>exact ⟨_,_,rfl,by simp⟩
     |false=>exact ⟨(110,b.nm),_,rfl,by simp⟩
    obtain ⟨a,g,c,n⟩:=u;cases r with
    |nil=>exact ⟨a,_,by simp only [jR,c,zv];rfl,n⟩
    |cons y r=>exact ⟨a,_,by simp only [jR,c,zv];rfl,n⟩
   obtain ⟨a,g,c,q⟩:=this;rw [c] at d;rw [d.hd.1];exact q
  obtain ⟨m,c,j⟩:=aLu (b::r) (T.length+1) ⟨f.i,[],f.pz⟩ [] i s (by simp) t d;rw [kO,lC,aH o,c];simp only;obtain ⟨k,_,l⟩:=j.hd;rw [aI k];exact ⟨_,rfl,l⟩
theorem aLv{T:List Tk}:∀(i:List (List Lk)) (b:Nat) (c:bC) (d:List (Nat×List Lt)),(∀L∈i,L.length<=T.length+1/\∀f∈L,tD f.ts)->i.length<b->At T c.i (qS i)->∃n g,gZ T b c d=.ok (n,d++g)/\g.map Prod.snd=i.map (fM [])
 |[],b,c,d,_,hf,h=>by
  obtain ⟨b,rfl⟩ : ∃k,b=k+1:=⟨b-1,by simp at hf;omega⟩;obtain ⟨m,_,_⟩:=At.hd (a:=(101,dQ)) h;rw [gZ,aI m];exact ⟨c,[],by simp,rfl⟩
 |L::r,b,c,d,hk,hf,h=>by
  obtain ⟨b,rfl⟩ : ∃k,b=k+1:=⟨b-1,by simp at hf;omega⟩;have l:At T c.i (oS L++qS r):=by unfold qS at h ⊢;rw [zm,zy] at h;exact h
  have t:(aJ T c.i).kind≠101:=by
   have:∃a e,oS L++qS r=a::e/\a.1≠101:=by
    unfold oS;cases L with
    |nil=>exact ⟨(102,dQ),_,rfl,by simp⟩
    |cons f r=>
     have x:∃a e,nW f=a::e/\a.1≠101:=by
      unfold nW;cases f.neg with
      |true=>exact ⟨_,_,rfl,by simp⟩
      |false=>exact ⟨(110,f.nm),_,rfl,by simp⟩
     obtain ⟨a,e,j,o⟩:=x;cases r with
     |nil=>exact ⟨a,_,by simp only [jR,j,zv];rfl,o⟩
     |cons y r=>exact ⟨a,_,by simp only [jR,j,zv];rfl,o⟩
   obtain ⟨a,e,j,w⟩:=this;rw [j] at l;rw [l.hd.1];exact w
  obtain ⟨z,q,m⟩:=aZj (hk L (by simp)).2 (hk L (by simp)).1 l;obtain ⟨n,g,s,u⟩:=aLv r b z (d++[((aJ T c.i).pos,fM [] L)]) (λp v=>hk p (by simp [v])) (by simp at hf;omega) m;rw [gZ,aH t,q];simp only;rw [s];exact ⟨n,((aJ T c.i).pos,fM [] L)::g,by simp,by simp [u]⟩
theorem aZk{c:World}{G:Array Oper}{H:List Oper}{n:Oper}{m:Act}{w:Exit->Act->World->Prop}(y:n.guard=none)(o q:Operand)(j:TypeId)
  (B:n.op=.call {callee:=.builtin .append,args:=#[o,q],argTypes:=#[j,j]})
  (g:Nat) (b:TypeId) (d:TypeInfo) (v:Value) (a s:Nat) (E:zi.underlying j=some (.slice b)) (z:zi.info? b=some d) (a0:d.zero=some v) (X:d.size=a) (Q:d.bytes=s) (a1:v.cells.size=a) (Y:0<a)
  (f:Value) (e:Nat) (r:List Value) (D:m.eval o=f) (t:c.ownsRow g b a f e r) (J:Value) (i L:Nat) (l:List Value) (F:m.eval q=J) (C:c.ownsRow L b a J i l) (O:∀I∈l,I.oneCell'=true) (W:e+i<=maxLen) (R:(e+i)*s<=140737488355328) (P:g<=c.heap.size)
  (x:∀p k,k.ownsRow g b a p (e+i) (r++l)->c.grownBy k f.ownBlock->wpList zi G w H (m.put n.dst p) k):wpList zi G w (n::H) m c:=by
 have S:=C;obtain ⟨U,⟨rfl,V⟩|⟨N,M,a4,rfl,a5,a6,a8⟩⟩:=C
 ·subst V;have Z:l=[]:=List.eq_nil_of_length_eq_zero (by omega);subst Z;refine wpList_append_own_none y o q j B g b d a E z f e r D t F ?_;exact x f c (by simpa using t) (World.grownBy.refl _ _)
 ·refine wpList_append_own c y o q j B g b d v a s E z a0 X Q a1 Y f e r D t ⟨N,0,none⟩ i M l F U (λu I A=>?_) O W R P (λp k a2 a3 _=>x p k a2 a3);have a7:=(List.getElem?_eq_some_iff.1 A).1;have:=S.cellAt u (by omega);rw [A] at this;cases u with
  |zero=>simpa [Addr.add] using this
  |succ u=>simpa [Addr.add] using this
theorem aBc(b:List Pc):∀a (c:a<b.length),(pD b)[a*2]?=some (.int .i64 b[a].1.1)/\(pD b)[a*2+1]?=some b[a].2:=by
 induction b with
 |nil=>intro a c;simp at c
 |cons x r ih=>
  intro a c;cases a with
  |zero=>simp [pD]
  |succ a=>
   have:=ih a (by simpa using c);have d:(a+1)*2=a*2+2:=by omega
   rw [d];simp only [pD,zm,zv,zl,List.getElem_cons_succ] at this ⊢;have e:a*2+2+1=a*2+1+2:=by omega
   rw [e];simp only [List.getElem?_cons_succ];exact this
theorem aZl(d:List Us):∀c∈gF d,c.oneCell'=true:=by intro c a;unfold gF at a;rw [z0] at a;obtain ⟨e,_,b⟩:=a;simp at b;rcases b with rfl|rfl|rfl<;>rfl
theorem aZm(a b:List Us):gF (a++b)=gF a++gF b:=by simp [gF]
structure aF0(p:Pc):Prop where
 short:∀q∈p.1.2,eE q.1.2
 count:aR (p.1.2.map zw)<=100000
 len:p.1.2.length<=100000
def fN(a:List Pc):List Us:=a.flatMap λb=>pU (b.1.2.map zw)
theorem aZn(a:List Pc)(b:Nat)(c:b<a.length):fN (a.take (b+1))=fN (a.take b)++pU (a[b].1.2.map zw):=by rw [zx c];unfold fN;rw [zo,zr]
theorem aZo(a:List Pc)(b:Nat):(fN (a.take b)).length<=(fN a).length:=by
 have:fN a=fN (a.take b)++fN (a.drop b):=by unfold fN;rw [<-zo,List.take_append_drop]
 rw [this,zu];omega
theorem aZp{Q L:Nat}{d:World}{N:Value}{a:List Pc}(o:fJ Q d N a)(b8:d.cell? ⟨L,4,none⟩=some N)(H:∀b3∈a,aF0 b3)(c0:a.length<=1000000)(b7:(fN a).length<=1000000):Calls zi 26 #[.pointer (some ⟨L,0,none⟩)] d λj O=>∃M,j=.returned M/\O.ownsRow d.heap.size 92 3 M (fN a).length (gF (fN a))/\aB d O:=by
 obtain ⟨b0,a1,a2,a3,a4⟩:=info_parts aLi;obtain ⟨c6,c7,rfl⟩:=aZ o.row;have f:=aA o;have Y:=aA H;clear o H;go_enter Tryz.func26,Tryz.ntmps26;go_wp2;go_loopw [3,11] (λb2 v wr=>∃b:Nat,b<=a.length/\v=.int .i64 b/\wr.ownsRow d.heap.size 92 3 b2 (fN (a.take b)).length (gF (fN (a.take b)))/\aB d wr) (λ_ v _=>a.length-(intOf v).toNat);case atStart=>exact ⟨0,z3 _,rfl,World.ownsRow_nil _ _ _ _,Below.refl _ _⟩
 case round=>
  obtain ⟨b,b9,rfl,l,e⟩:=hrel;obtain ⟨c1,c2,rfl⟩:=aZ l;have a9:=e.size;have w:=aA e;have m:=aA l;by_cases s:b<a.length
  ·have k:a[b]∈a:=zh _;have g:=Y.o _ k;obtain ⟨i,n,I,D⟩:=aEq (P:=a[b].1.2) (f.o.each _ k).1 (f.o.each _ k).2 g.short (by have:=g.count;omega) (by have:=g.len;omega);obtain ⟨A,b5,J⟩:=wM f.o.row (by omega);simp at J;obtain ⟨rfl,rfl⟩:=J;have y:d.cell? ⟨A,b*2,none⟩=some (.int .i64 a[b].1.1):=by rw [f.o.row.cellAt _ (by omega),(aBc a b s).1]
   have z:d.cell? ⟨A,b*2+1,none⟩=some (.slice i a[b].1.2.length n):=by rw [f.o.row.cellAt _ (by omega),(aBc a b s).2,I]
   have b6:=aC e y;have a0:=aC e z;have a5:=g.count;have u:=aZn a b s;have a7:=aZo a (b+1);rw [u,zu] at a7;have Z:=aA u;have G:(a[b].1.2.map zw).length=a[b].1.2.length:=by simp
   rw [<-G] at a0;clear y z I g k u G;generalize a[b].1.2.map zw=c at *;generalize a[b].1.1=at0 at *;generalize fN (a.take b)=U0 at *;have R:=aA (λwx (a8:cH wx i c)=>aZb i n c wx a8 a5);have V:=aA (D.below e (zz _));clear l e D;go_wp2_with (first
    |(go_at_call 41;refine (R.o _ (V.o.below ((Below.refl _ _).alloc (zz _) _) (zz _))).mono ?_;rintro j c8 ⟨c4,rfl,t,r⟩;have p:=(w.o.alloc a9 (.cells #[.int .i64 at0,.slice i c.length n] 95));have q:=p.trans (r.mono p.size);have B:=q.size;have F:=bJ (m.o.alloc _) r (zz _);have x:=aA F;have W:=aA t;have S:=aA q;obtain ⟨c3,b4,rfl⟩:=aZ t;clear F t r p q)
    |(at_builtin;refine aZk rfl (.tmp 15) (.tmp 18) 67 rfl d.heap.size 92 b0 (.agg #[.string ⟨#[]⟩,.bool false,.int .i64 0]) 3 32 Tryz.underlying67 a1 a2 a3 a4 rfl (by decide) _ _ _ rfl x.o _ _ _ _ rfl W.o (aZl _) (by unfold maxLen;omega) (by omega) B ?_;intro c5 c9 E C;have X:=aA E;have U:=aA C;clear E C)
    |go_in)
   go_roundw;case rel=>exact ⟨b+1,by omega,by go_num,by rw [Z.o,zu,aZm];exact X.o,S.o.grown U.o B (λb1 j=>(cO x.o b1 j).1)⟩
   case measure=>simp [intOf];omega
  ·have a6:b=a.length:=by omega
   subst a6;clear l e;rw [zp] at m;go_wp2;go_ret;exact ⟨_,rfl,by rw [zp];exact m.o,w.o⟩
def aZq(g:List Pc)(e:World)(i:Ending)(f:World):Prop:=
 ∃d a b c,i=.returned (.tuple #[d,.int .i64 b,.int .i64 c])/\aB8 (g.map jG) (a.map λj=>j.1.map zw) b c/\lG e.heap.size f d a/\aB e f
structure OLp(CV:List Pc)(w:World)(k:Nat)(v:Value)(wr:World)(QV:List (List (Lt×Value)×Value)):Prop where
 le:k<=CV.length
 made:QV.map (λp=>p.1.map zw)=(CV.take k).map λp=>aV (p.1.2.map zw)
 good:∀j h,j<k->¬qQ (CV.map jG) j h
 mem:lG w.heap.size wr v QV
 low:aB w wr
theorem aLw{b:List Pc}{a:Nat}(d:a<b.length)(c:a<(b.map jG).length):qQ (b.map jG) a c↔(40<=a\/bP (aV (b[a].1.2.map zw))=false):=by unfold qQ;rw [z1];exact Iff.rfl
theorem aZr{d:Type}{a:d->Option Nat}{c:List d}(b:(c.map a).Nodup):(c.filterMap a).Nodup:=by unfold List.Nodup at b ⊢;rw [List.pairwise_map] at b;refine List.Pairwise.filterMap a (λj k i l f m g e=>i ?_) b;subst e;rw [f,g]
section
variable {CV:List Pc}{w wr:World}{k:Nat}{v:Value}{QV:List (List (Lt×Value)×Value)}
theorem aLx{p e:World}{B:Nat}{d:List Lt}{j:Value}{o:Nat}{a:List (Lt×Value)}(b:wF p d j o a e)(l:B<=p.heap.size)(s:∀u∈d,eE u.2)(z:aR d<=100000)(A:d.length<=100000):qP e B (a,j)/\((∀c∈a,eE c.1.2)/\aR (a.map zw)<=1000000/\a.length<=1000000)/\cH e (some ⟨o,0,none⟩) (aV d):=by
 obtain ⟨t,C,D⟩:=aYx d s;have r:a.length=(aV d).length:=by rw [<-b.made];simp
 have g:qP e B (a,j):=by refine ⟨?_,λc f=>iH (b.atoms c f) l⟩;rw [b.val,r];exact iH b.row l
 have n:∀c∈a,eE c.1.2:=λc f=>t c.1 (by rw [<-b.made];exact zg.2 ⟨c,f,rfl⟩)
 have m:aR (a.map zw)<=1000000:=by rw [b.made];omega
 refine ⟨g,⟨n,m,by omega⟩,?_⟩;obtain ⟨x,y,i,q⟩:=aEq (P:=a) g.1 g.2 n m (by omega);rw [b.val] at i;simp at i;rw [<-b.made];rw [i.1];exact q
theorem aZs{w2 w3 w4:World}{c:List Lt}{vo v':Value}{nb:Nat}{Q:List (Lt×Value)}{X Y:Obj}(a:OLp CV w k v wr QV)(r:k<CV.length)(x:CV[k].1.2.map zw=c)(b:wF (wr.alloc X) c vo nb Q w2)(t:aB w2 w3)(L:∀U∈c,eE U.2)(A:aR c<=100000)(F:c.length<=100000)(C:k<40/\bP (aV c)=true)(G:w4.ownsRow w.heap.size 51 1 v' (QV.length+1) (QV.map Prod.snd++[vo]))(g:(w3.alloc Y).grownBy w4 v.ownBlock):OLp CV w (k+1) v' w4 (QV++[(Q,vo)]):=by
 have O:=a.low.size;have z:=(Below.refl wr.heap.size wr).alloc (zz _) X;have P:=b.low.size;have R:=t.size;have s:aB w2 (w3.alloc Y):=t.alloc R Y;simp at P;have f:aB wr (w3.alloc Y):=(z.trans (b.low.mono (by simp))).trans (s.mono (by omega));have j:=bJ a.mem.mem.1 f (zz _);obtain ⟨u,M,_⟩:=aLx (B:=w.heap.size) b (by simp;omega) L A F;have N:vo.ownBlock=some nb:=by rw [b.val];rfl
 have W:wr.heap.size<nb+1:=by have:=(cO b.row nb rfl).1;simp at this;omega
 refine ⟨r,?_,λo D V=>?_,⟨⟨?_,λl hp=>?_⟩,?_,?_⟩,?_⟩
 ·rw [zt,a.made,zn,zx r,zt,zn,b.made,x]
 ·by_cases E:o=k
  ·subst E;rw [aLw r,x,C.2];rintro (h1|h1)
   ·omega
   ·simp at h1
  ·exact a.good o D (by omega)
 ·rw [zu,zt,zn];exact G
 ·rcases zs.1 hp with hp|hp
  ·obtain ⟨h1,q⟩:=a.mem.mem.2 l hp;refine ⟨⟨?_,λm i=>?_⟩,q⟩
   ·have:=bJ h1.1 f (zz _);exact this.kept g (gB this j (by decide))
   ·have:=bJ (h1.2 m i) f (zz _);exact this.kept g (gB this j (by decide))
  ·simp at hp;subst hp;refine ⟨⟨?_,λm i=>?_⟩,M⟩
   ·have:=bJ u.1 s (zz _);exact this.kept g (gB this j (by decide))
   ·have:=bJ (u.2 m i) s (zz _);exact this.kept g (gB this j (by decide))
 ·rw [zt,zn,zc];refine ⟨a.mem.once,by simp,λp e y n=>?_⟩;simp at n;subst n;obtain ⟨l,hp,rfl⟩:=zg.1 e;rw [N];intro d;have:=(cO (a.mem.mem.2 l hp).1.1 nb d).2;omega
 ·rw [zo,zr,zc];refine ⟨a.mem.atoms,aZr b.once,λp e y n=>?_⟩;obtain ⟨l,hp,e⟩:=z0.1 e;obtain ⟨m,i,I⟩:=zd.1 e;obtain ⟨S,H,J⟩:=zd.1 n;intro d;subst d;have h1:=(cO ((a.mem.mem.2 l hp).1.2 m i) p I).2;have q:=(cO (b.atoms S H) p J).1;simp at q;omega
 ·exact (a.low.trans (f.mono O)).grown g (by have:=f.size;omega) (λo d=>(cO j o d).1)
theorem aZt{c6:Nat}{c5:Value}(L:fJ c6 w c5 CV)(c1:∀E∈CV,aF0 E)(C:∀E∈CV,∀F∈E.1.2,wD F.1.2)(e8:CV.length<=1000000):Calls zi 27 #[c5] w λr e3=>aZq CV w r e3:=by
 obtain ⟨e1,d5,d6,d7,d8⟩:=info_parts aYr;obtain ⟨f4,f5,rfl⟩:=aZ L.row;have y:=aA L;have d0:=aA c1;have d1:=aA C;clear L c1 C;go_enter Tryz.func27,Tryz.ntmps27;go_wp2;go_loopw [5,11] (λe2 a9 wr=>∃(k:Nat) (QV:List (List (Lt×Value)×Value)),a9=.int .i64 k/\OLp CV w k e2 wr QV) (λ_ a9 _=>CV.length-(intOf a9).toNat);case atStart=>exact ⟨0,[],rfl,⟨z3 _,rfl,λc4 L a4=>by omega,lG.nil _ _,Below.refl _ _⟩⟩
 case round=>
  obtain ⟨k,QV,rfl,d⟩:=hrel;have e7:=d.le;have a8:=d.low.size;obtain ⟨f0,f1,rfl⟩:=aZ d.mem.mem.1;have d9:QV.length=k:=by have:=congrArg List.length d.made;simp at this;omega
  have e9:QV.length<=1000000:=by omega
  clear d9;by_cases s:k<CV.length
  ·have B:CV[k]∈CV:=zh _;have o:=d0.o _ B;obtain ⟨n,q,C,a5⟩:=aEq (P:=CV[k].1.2) (y.o.each _ B).1 (y.o.each _ B).2 o.short (by have:=o.count;omega) (by have:=o.len;omega);obtain ⟨b6,e6,c3⟩:=wM y.o.row (by omega);simp at c3;obtain ⟨rfl,rfl⟩:=c3;have b3:w.cell? ⟨b6,k*2,none⟩=some (.int .i64 CV[k].1.1):=by rw [y.o.row.cellAt _ (by omega),(aBc CV k s).1]
   have b4:w.cell? ⟨b6,k*2+1,none⟩=some (.slice n CV[k].1.2.length q):=by rw [y.o.row.cellAt _ (by omega),(aBc CV k s).2,C]
   have d3:=aC d.low b3;have b5:=aC d.low b4;have M:=o.count;have A:=o.len;have c0:(CV[k].1.2.map zw).length=CV[k].1.2.length:=by simp
   rw [<-c0] at b5 A;have N:∀G∈CV[k].1.2.map zw,eE G.2:=λG f=>by obtain ⟨F,a7,rfl⟩:=zg.1 f;exact o.short F a7
   have g:∀G∈CV[k].1.2.map zw,wD G.2:=λG f=>by obtain ⟨F,a7,rfl⟩:=zg.1 f;exact d1.o _ B F a7
   have a1:=aLw s (by simpa using s);obtain ⟨b,a2⟩ : ∃b,CV[k].1.2.map zw=b:=⟨_,rfl⟩;obtain ⟨j,a0⟩ : ∃d2,CV[k].1.1=d2:=⟨_,rfl⟩;rw [a2] at b5 A M N g a1 a5;rw [a0] at d3;have x:aM (40<=k\/bP (aV b)=false->aB8 (CV.map jG) [] j 4):=aA λf=>Or.inl ⟨k,by simpa using s,a1.2 f,d.good,rfl,by rw [z1];simp [jG,a0],rfl⟩
   have I:=aA (λ(m t O:World) (l b0:Value) (c:Nat) (i:List (Lt×Value)) (X Z:Obj) a e hg a6 a3=>aZs (w2:=m) (w3:=t) (w4:=O) (vo:=l) (v':=b0) (nb:=c) (Q:=i) (X:=X) (Y:=Z) d s a2 a e N M A hg a6 a3);have R:=aA (λwx (f:cH wx n b)=>aK0 n q b wx f g M A);have b1:=aA (λ(e4 m:World) (l:Value) (c:Nat) (i:List (Lt×Value)) (a:wF e4 b l c i m)=>(aLx (B:=0) a (z3 _) N M A).2.2);have V:=aA (a5.below d.low (zz _));have W:=aA d.mem.mem.1;have p:=aA d;clear b3 b4 C o B c0 a1 a2 a0 d a5 N g;have Y:aM ((wr.alloc (.cells #[.int .i64 j,.slice n b.length q] 95)).cell? ⟨wr.heap.size,0,none⟩=some (.int .i64 j)):=aA (by simp);by_cases d4:k<40
   ·cases hfit:bP (aV b) with
    |false=>
     have U:=aA (x.o (Or.inr hfit));have u:=aA (λwx c (f:cH wx (some ⟨c,0,none⟩) (aV b))=>wG (some ⟨c,0,none⟩) (aV b).length (aV b) wx f);rw [hfit] at u;clear I x hfit;go_wp2_with (first
      |(go_at_call 35;refine (u.o _ c (b1.o _ _ _ _ _ z.o)).mono ?_;rintro r t ⟨rfl,e⟩;have S:=aA e;have e5:=aC e Q;have b2:=aA (bJ J.o e (zz _));have e0:=e.size;clear e)
      |(go_at_call 42;refine (R.o _ (V.o.below ((Below.refl _ _).alloc (zz _) _) (zz _))).mono ?_;rintro r m ⟨l,c,i,rfl,a⟩;have g:=a.val;subst g;have Q:=aC a.low Y.o;have z:=aA a;have H:=aA (p.o.low.trans (((Below.refl wr.heap.size wr).alloc (zz _) (.cells #[.int .i64 j,.slice n b.length q] 95)).mono a8 |>.trans (a.low.mono (by simp;omega))));have J:=aA (bJ (W.o.alloc _) a.low (zz _));have D:=a.low.size;simp at D;clear a)
      |go_in)
     go_quiet (fail);go_wp2;go_returns;exact ⟨_,[],j,4,rfl,U.o,lG.nil _ _,(H.o.trans (S.o.mono (by omega))).trans ((aS ⟨_,rfl⟩).mono (by omega))⟩
    |true=>
     have u:=aA (λwx c (f:cH wx (some ⟨c,0,none⟩) (aV b))=>wG (some ⟨c,0,none⟩) (aV b).length (aV b) wx f);rw [hfit] at u;have c9:=aA (λm t O l b0 c i X Z a e a6 a3=>I.o m t O l b0 c i X Z a e ⟨d4,hfit⟩ a6 a3);clear I x hfit;go_wp2_with (first
      |(at_builtin;refine wpList_append_own _ rfl (.tmp 28) (.tmp 30) 44 rfl w.heap.size 51 e1 (.slice none 0 0) 1 24 Tryz.underlying44 d5 d6 d7 d8 rfl (by decide) _ _ _ rfl (b2.o.alloc _) ⟨_,0,none⟩ 1 1 [.slice (some ⟨c,0,none⟩) (aV b).length (aV b).length] rfl rfl (sG t _ _ _ rfl) (by intro f2 c2;simp at c2;subst c2;rfl) (by unfold maxLen;omega) (by omega) (by simp;omega) ?_;intro f3 O b9 b7 _;have c8:=aA (c9.o _ _ _ _ _ _ _ _ _ z.o S.o b9 b7);clear b9 b7)
      |(go_at_call 35;refine (u.o _ c (b1.o _ _ _ _ _ z.o)).mono ?_;rintro r t ⟨rfl,e⟩;have S:=aA e;have e5:=aC e Q;have b2:=aA (bJ J.o e (zz _));have e0:=e.size;clear e)
      |(go_at_call 42;refine (R.o _ (V.o.below ((Below.refl _ _).alloc (zz _) _) (zz _))).mono ?_;rintro r m ⟨l,c,i,rfl,a⟩;have g:=a.val;subst g;have Q:=aC a.low Y.o;have z:=aA a;have H:=aA (p.o.low.trans (((Below.refl wr.heap.size wr).alloc (zz _) (.cells #[.int .i64 j,.slice n b.length q] 95)).mono a8 |>.trans (a.low.mono (by simp;omega))));have J:=aA (bJ (W.o.alloc _) a.low (zz _));have D:=a.low.size;simp at D;clear a)
      |go_in)
     go_roundw;case rel=>exact ⟨k+1,_,by go_num,c8.o⟩
     case measure=>simp [intOf];omega
   ·have U:=aA (x.o (Or.inl (by omega)));clear I x;go_wp2_with (first
     |(go_at_call 42;refine (R.o _ (V.o.below ((Below.refl _ _).alloc (zz _) _) (zz _))).mono ?_;rintro r m ⟨l,c,i,rfl,a⟩;have g:=a.val;subst g;have Q:=aC a.low Y.o;have z:=aA a;have H:=aA (p.o.low.trans (((Below.refl wr.heap.size wr).alloc (zz _) (.cells #[.int .i64 j,.slice n b.length q] 95)).mono a8 |>.trans (a.low.mono (by simp;omega))));have J:=aA (bJ (W.o.alloc _) a.low (zz _));have D:=a.low.size;simp at D;clear a)
     |go_in)
    go_quiet (fail);go_wp2;go_returns;exact ⟨_,[],j,4,rfl,U.o,lG.nil _ _,H.o.trans ((aS ⟨_,rfl⟩).mono (by omega))⟩
  ·have b8:k=CV.length:=by omega
   have c7:aM (aB8 (CV.map jG) (QV.map λE=>E.1.map zw) 0 0):=aA (Or.inr ⟨λc4 a4=>d.good c4 a4 (by simp at a4;omega),by rw [d.made,b8,zp,List.map_map];rfl,rfl,rfl⟩);have p:=aA d;clear d b8;go_wp2;go_returns;exact ⟨_,QV,0,0,rfl,c7.o,p.o.mem,p.o.low⟩
end
def iB:Nat->List Nd->List Us
 |_,[]=>[]
 |k,n::r=>lX k n++iB (k+1) r
theorem aLy(b c:List Nd):∀a,iB a (b++c)=iB a b++iB (a+b.length) c:=by
 induction b with
 |nil=>intro a;simp [iB]
 |cons x r ih=>intro a;simp only [zv,iB,ih,zy,z2];rw [show a+1+r.length=a+(r.length+1) by omega]
theorem aZu(b:List Nd):∀a,a<=b.length->kB b a=iB 0 (b.take a):=by
 intro a;induction a with
 |zero=>intro _;simp [kB,iB]
 |succ a ih=>
  intro c;rw [aLf b a c,ih (by omega),zx c,aLy];simp [iB,Nat.min_eq_left (show a<=b.length by omega)]
theorem aZv(b:List Lt):∀a,a<=b.length->nS b a=(b.take a).flatMap λd=>iB 0 d.2:=by
 intro a;induction a with
 |zero=>intro _;simp [nS]
 |succ a ih=>
  intro c;rw [aEv b a c,ih (by omega),zx c,zo,zr,aZu _ _ (zz _),zp]
theorem uO(a:List Lt):pU a=a.flatMap λb=>iB 0 b.2:=by unfold pU;rw [aZv a _ (zz _),zp]
def nX(c:Nat)(b:List Nd):Prop:=∀a∈b,aL a=true->0<=a.2/\a.2<=c
theorem nX.mono{m b:Nat}{a:List Nd}(c:nX m a)(f:m<=b):nX b a:=λn d e=>by have:=c n d e;omega
theorem nX.append{a:Nat}{b c:List Nd}(e:nX a b)(f:nX a c):nX a (b++c):=λd hn=>by
 rcases zs.1 hn with hn|hn
 ·exact e d hn
 ·exact f d hn
theorem aLz(a:List ByteArray)(b:ByteArray):0<=jZ a b/\jZ a b<=(kN a b).length:=by
 have:=aX3 a b;unfold jZ kN;split
 ·simp;omega
 ·omega
theorem aM0{b:Type}(d:b->b)(e:b)(c:List b):∀a:List b,(a++[e]++c).modify a.length d=a++[d e]++c:=by
 intro a;induction a with
 |nil=>rfl
 |cons x r ih=>simp only [zv,z2,List.modify_succ_cons,ih]
theorem aM1(b c:List Pl)(a:Pl)(d:Nat):pO (b++[a]++c) b.length d=b++[(a.1,a.2.1,(d:Int),a.2.2.2)]++c:=aM0 _ _ _ _
theorem aM2(a b:List Nd)(d:Nd)(c:Nat):dS (a++[d]++b) a.length c=a++[(d.1,(c:Int))]++b:=aM0 _ _ _ _
structure aM3(st st':bC)(l l':List Nd)(Q:List Pl)(M:List Nd):Prop where
 pl:st'.pz=st.pz++Q
 nd:l'=l++M
 us:Q.map jQ=iB l.length M
 vs:nX st'.vars.length M
 ps:∀p∈Q,0<=p.2.2.2
theorem aZw(F:∀y,(aJ T y).kind=110->(aJ T y).txt.toList.isEmpty=false):∀j,(∀i b c e d,cJ T j i b c=.ok (e,d)->i=decide (c.length=0)->∃g f,aM3 b e c d g f)/\
  (∀b c k e d q,dT T j b c k=.ok (e,d,q)->0<c.length->∃g f,aM3 b e c d g f):=by
 intro j;induction j with
 |zero=>exact ⟨λi b c e d a=>by simp [cJ] at a,λb c k e d q a=>by simp [dT] at a⟩
 |succ j ih=>
  obtain ⟨N,z⟩:=ih;constructor
  ·intro i b c e d a G;rw [cJ] at a;split at a
   ·simp only [Except.ok.injEq,Prod.mk.injEq] at a;obtain ⟨rfl,rfl⟩:=a;refine ⟨[],[(⟨#[]⟩,jZ b.vars (aJ T b.i).txt)],by simp,rfl,?_,?_,λo hp=>by simp at hp⟩
    ·simp [iB,lX,aL]
    ·intro k hn _;simp at hn;subst hn;exact aLz _ _
   ·split at a
    ·simp at a
    ·rename_i t;simp only [ne_eq,Decidable.not_not] at t;have u:=F _ t;have w:∀n:Int,lX c.length ((aJ T b.i).txt,n)=[((aJ T b.i).txt,i,n)]:=by
      intro n;unfold lX aL;simp only;rw [u,G];rfl
     have x:∀n:Int,aL ((aJ T b.i).txt,n)=false:=λn=>u
     split at a
     ·split at a
      ·simp at a
      ·rename_i O A B L;simp only [Except.ok.injEq,Prod.mk.injEq] at a;obtain ⟨rfl,rfl⟩:=a;obtain ⟨g,f,hp⟩:=z _ _ _ _ _ _ L (by simp);have v:=hp.pl;have I:=hp.nd;have M:=hp.us;have J:=hp.ps;simp only at v;refine ⟨((aJ T b.i).txt,i,(B:Int),((aJ T b.i).pos:Int))::g,((aJ T b.i).txt,(B:Int))::f,?_,?_,?_,?_,λo hp=>?_⟩
       ·simp only;rw [v,aM1];simp
       ·rw [I,aM2];simp
       ·rw [List.map_cons,M,iB,w];simp [jQ]
       ·intro k hn m;rcases zj.1 hn with rfl|hn
        ·rw [x] at m;cases m
        ·exact hp.vs k hn m
       ·rcases zj.1 hp with rfl|hp
        ·simp
        ·exact J o hp
     ·simp only [Except.ok.injEq,Prod.mk.injEq] at a;obtain ⟨rfl,rfl⟩:=a;refine ⟨[((aJ T b.i).txt,i,0,((aJ T b.i).pos:Int))],[((aJ T b.i).txt,0)],rfl,rfl,?_,?_,λo hp=>by simp at hp;subst hp;simp⟩
      ·rw [iB,w];rfl
      ·intro k hn m;simp at hn;subst hn;rw [x] at m;cases m
  ·intro b c k e d q a P;rw [dT] at a;split at a
   ·simp at a
   ·rename_i O A hp;obtain ⟨g,f,l⟩:=N _ _ _ _ _ hp (fZ (by omega)).symm;have Q:=(wI T j).1 _ _ _ _ _ hp;have r:=l.pl;have s:=l.nd;have C:=l.us;simp only at r;split at a
    ·have H:0<A.length:=by omega
     have R:=(wI T j).2 _ _ _ _ _ _ a;obtain ⟨E,D,p⟩:=z _ _ _ _ _ _ a H;refine ⟨g++E,f++D,?_,?_,?_,?_,λo hp=>(zs.1 hp).elim (l.ps o) (p.ps o)⟩
     ·rw [p.pl,r,zy]
     ·rw [p.nd,s,zy]
     ·rw [zt,C,p.us,aLy,s,zu]
     ·exact (l.vs.mono (by omega)).append p.vs
    ·split at a
     ·simp only [Except.ok.injEq,Prod.mk.injEq] at a;obtain ⟨rfl,rfl,rfl⟩:=a;exact ⟨g,f,r,s,C,l.vs,l.ps⟩
     ·simp at a
theorem aZx(y:∀t,(aJ T t).kind=110->(aJ T t).txt.toList.isEmpty=false):∀k a f c i,fW T k a f=.ok (c,i)->(∀d∈f,nX a.vars.length d.2)->∃e n,c.pz=a.pz++e/\i=f++n/\e.map jQ=pU n/\(∀d∈i,nX c.vars.length d.2)/\a.vars.length<=c.vars.length/\a.i<=c.i/\c.vars.length+a.i<=a.vars.length+c.i/\∀j∈e,0<=j.2.2.2:=by
 intro k;induction k with
 |zero=>intro a f c i b;simp [fW] at b
 |succ k ih=>
  intro a f c i b B;cases hq:cJ T (T.length+1) true (kR T a) [] with
  |error j=>rw [aEr hq] at b;simp at b
  |ok r=>
   obtain ⟨v,m⟩:=r;obtain ⟨N,O,C,D⟩:=aEu T a;obtain ⟨e,M,g⟩:=(aZw y (T.length+1)).1 _ _ _ _ _ hq rfl;have z:=(wI T (T.length+1)).1 _ _ _ _ _ hq;have l:=g.pl;have p:=g.nd;have q:=g.us;rw [D] at l;rw [C] at z;simp only [zl] at p;subst p;have s:∀d∈f++[(decide ((aJ T a.i).kind=126),m)],nX v.vars.length d.2:=by
    intro d hx;rcases zs.1 hx with hx|hx
    ·exact (B d hx).mono (by omega)
    ·simp at hx;subst hx;exact g.vs
   by_cases o:(aJ T v.i).kind=124
   ·rw [aEs hq o] at b;obtain ⟨x,w,u,E,F,G,H,I,J,L⟩:=ih _ _ _ _ b s;simp only at u H I J;refine ⟨e++x,(decide ((aJ T a.i).kind=126),m)::w,?_,?_,?_,G,by omega,by omega,by omega,λj A=>(zs.1 A).elim (g.ps j) (L j)⟩
    ·rw [u,l,zy]
    ·rw [E,zy];rfl
    ·rw [zt,q,F,uO,uO,zm];rfl
   ·rw [aEt hq o] at b;simp only [Except.ok.injEq,Prod.mk.injEq] at b;obtain ⟨rfl,rfl⟩:=b;refine ⟨e,[(decide ((aJ T a.i).kind=126),m)],l,rfl,?_,s,by omega,by omega,by omega,g.ps⟩;rw [q,uO,zr];rfl
theorem aZy(l:∀j,(aJ T j).kind=110->(aJ T j).txt.toList.isEmpty=false){g i:bC}{e:List Lt}(a:kO T g=.ok (i,e)):∃b,i.pz=g.pz++b/\b.map jQ=pU e/\(∀d∈e,nX i.i d.2)/\∀f∈b,0<=f.2.2.2:=by
 unfold kO at a;cases hq:lC T g with
 |error f=>rw [hq] at a;simp at a
 |ok r=>
  obtain ⟨x,u⟩:=r;rw [hq] at a;simp only at a;split at a
  ·simp only [Except.ok.injEq,Prod.mk.injEq] at a;obtain ⟨rfl,rfl⟩:=a;unfold lC at hq;split at hq
   ·simp only [Except.ok.injEq,Prod.mk.injEq] at hq;obtain ⟨rfl,rfl⟩:=hq;exact ⟨[],by simp,rfl,λd c=>by simp at c,λf m=>by simp at m⟩
   ·obtain ⟨b,t,n,k,o,p,v,w,q,s⟩:=aZx l _ _ _ _ _ hq (λd c=>by simp at c);simp only [zl] at k;subst k;simp only [List.length_nil] at q;exact ⟨b,n,o,λd c=>(p d c).mono (by simp;omega),s⟩
  ·simp at a
structure aM4(T:List Tk)(c:List Lt):Prop where
 short:∀x∈c,eE x.2
 count:aR c<=T.length
 len:c.length<=T.length
 vars:∀x∈c,nX T.length x.2
theorem aM5{l:List Tk}{q:Int}(t:TL l T q)(k:yR l T)(s:∀o,(aJ T o).kind=110->(aJ T o).txt.toList.isEmpty=false):∀j c g d i,gZ T j c g=.ok (d,i)->c.i<T.length->∃f e,d.pz=c.pz++f/\i=g++e/\f.map jQ=(e.flatMap λa=>pU a.2)/\(∀a∈e,aM4 T a.2)/\d.i<T.length/\c.i+e.length<=d.i/\d.pz.length+c.i<=c.pz.length+d.i/\∀a∈f,0<=a.2.2.2:=by
 intro j;induction j with
 |zero=>intro c g d i b;simp [gZ] at b
 |succ j ih=>
  intro c g d i b m;rw [gZ] at b;split at b
  ·simp only [Except.ok.injEq,Prod.mk.injEq] at b;obtain ⟨rfl,rfl⟩:=b;exact ⟨[],[],by simp,by simp,rfl,λa hp=>by simp at hp,m,by simp,by omega,λa hp=>by simp at hp⟩
  ·split at b
   ·simp at b
   ·rename_i P r n;obtain ⟨u,J,v,w,x,L,M⟩:=aLc t k n m;obtain ⟨f,y,z,A,B⟩:=aZy s n;obtain ⟨p,e,C,D,E,F,G,N,O,H⟩:=ih _ _ _ _ b v;refine ⟨f++p,((aJ T c.i).pos,r)::e,?_,?_,?_,?_,G,by simp;omega,by omega,λa hp=>(zs.1 hp).elim (B a) (H a)⟩
    ·rw [C,y,zy]
    ·rw [D,zy];rfl
    ·rw [zt,z,E,zm]
    ·intro a hp;rcases zj.1 hp with rfl|hp
     ·exact ⟨u,w,x,λI k=>(A I k).mono (by omega)⟩
     ·exact F a hp
theorem aM6{a:ByteArray}(b:0<a.size):a.toList.isEmpty=false:=by
 cases he:a.toList.isEmpty with
 |false=>rfl
 |true=>
  rw [List.isEmpty_iff] at he;have:a=⟨#[]⟩:=zP.1 (by rw [he];simp);subst this;rw [wN] at b;omega
theorem aM7{b:ByteArray}(a:eR b=true):0<b.size:=by
 rcases Nat.eq_zero_or_pos b.size with hx|hx
 ·unfold eR at a;rw [aC5 _ _ _ _ (by omega)] at a;simp at a
 ·exact hx
theorem aZz(i:ByteArray):∀b e f c d,fE i b e f=some (c,d)->0<c.size:=by
 intro b;induction b with
 |zero=>intro e f c d a;simp [fE] at a
 |succ b ih=>
  intro e f c d a;rw [fE] at a;split at a
  ·split at a
   ·split at a
    ·rename_i g;simp only [Option.some.injEq,Prod.mk.injEq] at a;rw [<-a.1];exact aM7 g
    ·simp at a
   ·split at a
    ·split at a
     ·exact ih _ _ _ _ a
     ·simp at a
    ·split at a
     ·simp at a
     ·exact ih _ _ _ _ a
  ·simp at a
theorem bA0{b:ByteArray}{c g:Nat}{e:Tk}(k:c<b.size)(a:dP b c=.tok e g)(d:e.kind=110):0<e.txt.size:=by
 unfold dP at a;split at a
 ·rename_i l;split at a
  ·cases a
  ·simp only [Nx.tok.injEq] at a;rw [<-a.1];simp only;have j:=aCh l;have n:=yI k j;have i:=aE3 b (b.size-(c+1)) (c+1);have p:c+1<=eB b (c+1)/\(c+1<=b.size->eB b (c+1)<=b.size):=i;rw [n,ByteArray.size_extract];omega
 ·split at a
  ·split at a
   ·rename_i q o m;simp only [Nx.tok.injEq] at a;rw [<-a.1];exact aZz b _ _ _ _ _ m
   ·cases a
  ·split at a
   ·split at a
    ·simp only [Nx.tok.injEq] at a;rw [<-a.1] at d;simp at d
    ·cases a
   ·split at a
    ·rename_i f;simp only [Nx.tok.injEq] at a;rw [<-a.1] at d;simp only at d;rw [d] at f;simp [mP] at f
    ·cases a
theorem bA1(g:ByteArray):∀a d,∀c∈(cD g a d).1,c.kind=110->0<c.txt.size:=by
 intro a;induction a with
 |zero=>intro d;simp [cD]
 |succ a ih=>
  intro d;rw [cD];split
  ·rename_i f;split
   ·exact ih _
   ·split
    ·exact ih _
    ·split
     ·rename_i c j b;intro i hu;rcases zj.1 hu with rfl|hu
      ·exact bA0 f b
      ·exact ih _ i hu
     ·simp
  ·intro c b e;simp at b;rw [b] at e;simp at e
theorem aM8(c:ByteArray)(d f:Nat)(a:(aJ (dB c d) f).kind=110):(aJ (dB c d) f).txt.toList.isEmpty=false:=by
 refine aM6 ?_;have i:∀e∈dB c d,e.kind=110->0<e.txt.size:=by
  intro e ht;unfold dB eD at ht;rcases zs.1 ht with ht|ht
  ·exact bA1 c _ _ e ht
  ·generalize (cD c (c.size+1-d) d).2=b at ht;cases b with
   |none=>simp at ht
   |some p=>
    simp at ht;rw [ht];intro a;simp at a
 unfold aJ at a ⊢;by_cases g:f<(dB c d).length
 ·rw [zq,zk g,Option.getD_some] at a ⊢;exact i _ (zh _) a
 ·rw [zq,zf (by omega)] at a;exact absurd a (by decide)
