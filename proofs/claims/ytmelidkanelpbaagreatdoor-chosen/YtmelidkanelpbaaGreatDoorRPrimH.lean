import Derived.Lib.Strings
import Derived.Test.YtmelidkanelpbaaGreatDoorXSr5H
open List renaming getElem_mem→zz,length_append→zy,getElem?_eq_some_iff→zx,take_succ_eq_append_getElem→zw,getElem_map→zv,length_cons→zs,mem_map→zr,length_take→zq,take_of_length_le→zo,getElem?_append_left→zn,mem_append→zl,length_map→zk,length_singleton→zj,mem_of_getElem?→zi,mem_of_mem_take→zh,flatMap_cons→zg,map_map→zf,append_assoc→ze,take_length→zb,length→za
open Nat renaming add_assoc→zu,le_refl→zp
open Prod renaming snd→zt
namespace Go.Proofs.YtmelidkanelpbaaGreatDoor
open _root_.Go.Proofs.Tryz renaming prog→zm,underlying22→zc
set_option maxHeartbeats 4000000
set_option maxRecDepth 100000
variable{s:ByteArray}{F l:List ByteArray}{q:Nat}{v:Value}{w:World}
section
open Go.RowKit
theorem aYk{a:List Pl}{g:Int}(h:wS a g)(p:∀t∈a,0<=t.2.2.2):(g<0->wP (a.map jO))/\(0<=g->¬wP (a.map jO)):=by
 rcases h with ⟨rfl,h⟩|⟨c,d,b,_,rfl⟩
 ·refine ⟨λ_ c d=>?_,λh=>by omega⟩;have o:c<a.length:=by simpa using d
  have b:=h c o;simp only [oT,not_or,not_exists] at b;refine ⟨by simp [jO];omega,λf e j=>?_⟩;have i:=b.2 f e;simp only [zv,jO] at j ⊢;simp only [aB4,not_and,not_or,Decidable.not_not] at i;have:=i j;rw [this.1,this.2]
 ·have u:=p a[c] (zz _);refine ⟨λh=>by omega,λ_ r=>?_⟩;have k:=r c (by simpa using d);simp only [zv,jO] at k;rcases b with b|⟨f,e,m,n⟩
  ·omega
  ·have:=k.2 f e m;simp at this;rcases n with h|h
   ·exact h this.1
   ·exact h this.2
end
section
open Go.RowKit
structure wV(ar:ByteArray->Bool×Int)(x:Lk):Prop where
 nm:aL (x.nm,0)=false
 len:x.ts.length<=2
 ar0:ar x.nm=(true,(x.ts.length:Int))
 kd:tT x.ts
 con:∀t∈x.ts,t.1=110->aL (t.2,0)=false/\ar t.2=(false,0)
theorem aEk(a:Int):aL (⟨#[]⟩,a)=true:=by simp [aL]
theorem aYl(c:List ByteArray)(a:TT)(b:a.1=118):aL (qJ c a)=true:=by unfold qJ;rw [aH b];exact aEk _
theorem aLi{g:ByteArray->Bool×Int}:∀(e:List TT) (c:List ByteArray) (b:Nat),0<b->tT e->(∀t∈e,t.1=110->aL (t.2,0)=false/\g t.2=(false,0))->∀a∈gW b (rD c e),a.2=g a.1/\a.2.2<=5
 |[],c,b,_,_,_,a,hu=>by simp [rD,gW] at hu
 |t::r,c,b,hk,hd,hc,a,hu=>by
  simp only [rD,gW] at hu;rcases zl.1 hu with hu|hu
  ·unfold lY at hu;split at hu
   ·simp at hu
   ·rename_i j;simp at hu;rcases hd t (by simp) with h|h
    ·exact absurd (aYl c t h) j
    ·have i:qJ c t=(t.2,0):=by unfold qJ;rw [aI (by rw [h];decide)]
     rw [i] at hu;subst hu;rw [(hc t (by simp) h).2];simp;omega
  ·exact aLi r _ (b+1) (by omega) (λf d=>hd f (by simp [d])) (λf d=>hc f (by simp [d])) a hu
theorem aYm{e:ByteArray->Bool×Int}:∀(c:List Lk) (d:List ByteArray),(∀b∈c,wV e b)->∀a∈pU (fN d c),a.2=e a.1/\a.2.2<=5:=by
 intro c;induction c with
 |nil=>intro d _ a hu;rw [uH] at hu;simp [fN] at hu
 |cons b r ih=>
  intro d f a hu;rw [uH] at hu;simp only [fN,zg] at hu;rcases zl.1 hu with hu|hu
  ·obtain ⟨g,o,i,j,k⟩:=f b (by simp);unfold xI at hu;simp only [gW] at hu;rcases zl.1 hu with hu|hu
   ·unfold lY at hu;rw [aI (by rw [show aL (b.nm,(b.ts.length:Int))=aL (b.nm,0) from rfl,g];decide)] at hu;simp at hu;subst hu;rw [i];simp;omega
   ·exact aLi _ _ 1 (by omega) j k a hu
  ·exact ih _ (λn m=>f n (by simp [m])) a (by rw [uH];exact hu)
theorem aYn{ar:ByteArray->Bool×Int}{b:List Us}(a:∀c∈b,c.2=ar c.1/\c.2.2<=5):wP b:=λi d=>⟨(a _ (zz d)).2,λf g e=>by
 rw [(a _ (zz d)).1,(a _ (zz (show f<b.length by omega))).1,e]⟩
theorem aLj:∀(a:List Lk) (b:List ByteArray),(fN b a).length=a.length
 |[],_=>rfl
 |x::r,b=>by simp [fN,aLj r]
theorem aLk{c:ByteArray->Bool×Int}:∀(a:List Lk) (b:List ByteArray),(∀x∈a,wV c x)->aR (fN b a)<=3*a.length
 |[],_,_=>by simp [fN,aR]
 |x::r,b,h=>by
  have:=aLk r (nE b x.ts) (λe d=>h e (by simp [d]));have f:=(h x (by simp)).len;unfold aR at this ⊢;simp only [fN,List.map_cons,List.sum_cons,xI,zs,aP0];omega
theorem aYo(a:List Lk):0<(pH a).length:=by unfold pH;rw [zy,zj];omega
theorem aYp:∀a:List Lk,a.length<=(pH a).length:=by
 have b:∀a:List Lk,a.length<=(jV a).length:=by
  intro a;induction a with
  |nil=>simp
  |cons x r ih=>
   have c:0<(oG x).length:=by have:=aP4 x;unfold oG;rw [zy];omega
   cases r with
   |nil=>simp [jV];omega
   |cons y r=>
    simp only [jV,zy,zs] at ih ⊢;omega
 intro a;unfold pH;cases a with
 |nil=>simp
 |cons x r=>
  have:=b (x::r);rw [zy];simp only at this ⊢;omega
theorem aYq(a:List (List Lk)):a.length<(rE a).length/\∀b∈a,b.length<=(rE a).length:=by
 unfold rE;rw [zy,zj];induction a with
 |nil=>simp
 |cons b r ih=>
  rw [zg,zy];have d:=aYo b;have e:=aYp b;refine ⟨by have:=ih.1;rw [zs];omega,λc hM=>?_⟩;rcases List.mem_cons.1 hM with rfl|hM
  ·omega
  ·have:=ih.2 c hM;omega
theorem aYr{ar:ByteArray->Bool×Int}{b:List (List Lk)}{u:List (List Lt)}{z p:Int}(g:oL s u z p)(a1:s.size<=3000)(hK:(dD s 0).map kt=rE b)(Z:b.length<=40)(k:∀a∈b,a.length<=8/\∀o∈a,wV ar o):u=b.map (λa=>aV (fN [] a))/\p=0:=by
 have W:(dD s 0).length=(rE b).length:=by rw [<-hK,zk]
 obtain ⟨V,H⟩:=aYq b;obtain ⟨y,f,c,j⟩:=aP6 (T:=dD s 0) b ((dD s 0).length+1) ⟨0,[],[]⟩ [] (λa d=>⟨by have:=H a d;omega,λo M=>((k a d).2 o M).kd⟩) (by omega) (by unfold At;simpa using hK);simp only [List.nil_append] at c;obtain ⟨R,Q,n,x,N,a4,-,-,-,O⟩:=aI7 (aEj s (by omega)) (aBb s (by omega)) (aIa s 0) _ _ _ _ _ c (by show 0<(dD s 0).length;omega);simp only [List.nil_append] at n x;subst x;have t:∀e∈f,∃a∈b,e.2=fN [] a:=λe m=>by
  have:e.2∈f.map zt:=List.mem_map_of_mem m;rw [j] at this;obtain ⟨a,d,c⟩:=zr.1 this;exact ⟨a,d,c.symm⟩
 rcases g with ⟨r,_⟩|⟨_,g⟩
 ·omega
 ·have I:uX s=.ok (y,f):=c;rw [I] at g;obtain ⟨a3,r,D⟩:=g;have L:wP (y.pz.map jO):=by
   rw [n,N];refine aYn (ar:=ar) λP i=>?_
   obtain ⟨e,m,i⟩:=List.mem_flatMap.1 i;obtain ⟨a,d,c⟩:=t e m;rw [c] at i;exact aYm a [] (k a d).2 P i
  rcases D with ⟨C,_⟩|⟨_,E⟩
  ·exact absurd L ((aYk r (by rw [n];exact O)).2 C)
  ·rcases E with ⟨a2,J,hbad,_⟩|⟨_,rfl,rfl,rfl⟩
   ·have U:f.length=b.length:=by
     have:=congrArg za j;simpa using this
    rcases hbad with hbad|hbad
    ·omega
    ·obtain ⟨a,d,c⟩:=t _ (zz J);rw [c] at hbad;obtain ⟨S,G⟩:=k a d;have a0:=aLj a [];have Y:=aLk a [] G;have X:(aV (fN [] a)).length<=(fN [] a).length/\aR (aV (fN [] a))<=aR (fN [] a):=by
      obtain ⟨A,B,_⟩:=jW (fN [] a);unfold aV;exact ⟨by rw [(pJ _).1];exact A,by rw [aCy];exact B⟩
     have:bL (aV (fN [] a))=true:=by unfold bL;simp;omega
     rw [this] at hbad;cases hbad
   ·refine ⟨?_,rfl⟩;have:=congrArg (List.map aV) j;simpa [zf,Function.comp_def] using this
def tmF(num:ByteArray->Int)(a:TT):Nd:=if a.1=118 then (⟨#[]⟩,num a.2) else (a.2,0)
def aB7(num:ByteArray->Int)(a:Lk):Lt:=(a.neg,(a.nm,(a.ts.length:Int))::a.ts.map (tmF num))
theorem aYs{c:ByteArray}(a:jP l c<0):c∉l:=by
 have f:∀b:List ByteArray,pV b c<0->c∉b:=by
  intro b;induction b with
  |nil=>intro _;simp
  |cons y r ih=>
   intro a;unfold pV at a;split at a
   ·omega
   ·rename_i e;simp only [List.mem_cons,not_or];exact ⟨λd=>e d.symm,ih a⟩
 have:=f l.reverse a;simpa using this
theorem aYt{b:ByteArray}(a:¬jP l b<0):l[(jP l b).toNat]?=some b:=by
 have e:∀c:List ByteArray,¬pV c b<0->c.reverse[(pV c b).toNat]?=some b:=by
  intro c;induction c with
  |nil=>intro a;simp [pV] at a
  |cons y r ih=>
   intro a;rw [List.reverse_cons];unfold pV at a ⊢;split
   ·rename_i d;subst d;simp
   ·rename_i d;rw [aI d] at a;have:=ih a;rw [zn (zx.1 this).1];exact this
 have:=e l.reverse a;rwa [List.reverse_reverse] at this
theorem aYu(a:ByteArray)(e:l.Nodup):(kO l a).Nodup/\(∃j,kO l a=l++j)/\0<=kC l a/\(kO l a)[(kC l a).toNat]?=some a/\∀b∈kO l a,b∈l\/b=a:=by
 unfold kO kC;split
 ·rename_i c;have i:=aYs c;refine ⟨?_,⟨_,rfl⟩,by omega,by simp,λb d=>by simpa using d⟩;rw [List.nodup_append];refine ⟨e,by simp,λk g m f=>?_⟩;simp at f;subst f;rintro rfl;exact i g
 ·rename_i c;exact ⟨e,⟨[],by simp⟩,by omega,aYt c,λb d=>Or.inl d⟩
def VN(num:ByteArray->Int)(F:List ByteArray)(c d:Int):Prop:=∃(a:Nat) (b:ByteArray),c=a/\F[a]?=some b/\d=num b
theorem VN.pairs{d:ByteArray->Int}(j:F.Nodup)(k:∀b∈F,∀f∈F,d b=d f->b=f):mN (VN d F):=by
 rintro p t r u ⟨m,b,rfl,c,rfl⟩ ⟨n,o,rfl,a,rfl⟩;constructor
 ·intro e;obtain rfl:m=n:=by omega
  rw [c] at a;cases a;rfl
 ·intro e;obtain rfl:=k b (zi c) o (zi a) e;obtain ⟨x,g⟩:=zx.1 c;obtain ⟨y,i⟩:=zx.1 a;rw [(List.getElem_inj j).1 (g.trans i.symm)]
theorem VN.mono{num:ByteArray->Int}(m:List ByteArray){a b:Int}(d:VN num F a b):VN num (F++m) a b:=by obtain ⟨k,x,rfl,c,rfl⟩:=d;exact ⟨k,x,rfl,by rw [zn (zx.1 c).1];exact c,rfl⟩
theorem aYv{num:ByteArray->Int}(b:List ByteArray){l a:List Nd}(h:aP (fL (VN num F)) l a):aP (fL (VN num (F++b))) l a:=by
 induction h with
 |nil=>exact aP.nil
 |cons h _ ih=>
  refine aP.cons ?_ ih;rcases h with ⟨c,d,e,f⟩|h
  ·exact Or.inl ⟨c,d,e,f.mono b⟩
  ·exact Or.inr h
def aB8(b:List ByteArray)(c:List TT):Prop:=∀a∈c,a.1=118->a.2∈b
theorem aLl{num:ByteArray->Int}{g:List ByteArray}:∀(b:List TT) (a:List ByteArray),a.Nodup->(∀c∈a,c∈g)->aB8 g b->(∀t∈b,t.1=110->aL (t.2,0)=false)->tT b->(nE a b).Nodup/\(∃j,nE a b=a++j)/\(∀c∈nE a b,c∈g)/\aP (fL (VN num (nE a b))) (rD a b) (b.map (tmF num))
 |[],a,h,hv,_,_,_=>⟨h,⟨[],by simp [nE]⟩,hv,aP.nil⟩
 |t::r,a,h,hv,hi,hc,hk=>by
  have i:(oF a t).Nodup/\(∃j,oF a t=a++j)/\(∀c∈oF a t,c∈g)/\fL (VN num (oF a t)) (qJ a t) (tmF num t):=by
   unfold oF qJ tmF;rcases hk t (by simp) with e|e
   ·rw [aH e,aH e,aH e];obtain ⟨n,o,L,p,u⟩:=aYu t.2 h;exact ⟨n,o,λc I=>by
     rcases u c I with h|rfl
     ·exact hv c h
     ·exact hi t (by simp) e,Or.inl ⟨aEk _,aEk _,rfl,_,t.2,by simp;omega,p,rfl⟩⟩
   ·rw [aI (by omega),aI (by omega),aI (by omega)];exact ⟨h,⟨[],by simp⟩,hv,Or.inr ⟨hc t (by simp) e,rfl⟩⟩
  obtain ⟨x,⟨J,y⟩,z,A⟩:=i;obtain ⟨B,⟨m,k⟩,C,D⟩:=aLl (num:=num) r (oF a t) x z (λf d=>hi f (by simp [d])) (λf d=>hc f (by simp [d])) (λf d=>hk f (by simp [d]));have e:nE a (t::r)=nE (oF a t) r:=rfl;rw [e];refine ⟨B,⟨J++m,by rw [k,y,ze]⟩,C,?_⟩;refine aP.cons ?_ D;rw [k];rcases A with ⟨i,E,G,H⟩|h
  ·exact Or.inl ⟨i,E,G,H.mono m⟩
  ·exact Or.inr h
theorem aLm{n:ByteArray->Bool×Int}{num:ByteArray->Int}{d:List ByteArray}:∀(c:List Lk) (a:List ByteArray),a.Nodup->(∀b∈a,b∈d)->(∀x∈c,wV n x/\aB8 d x.ts)->∃F,F.Nodup/\(∃B,F=a++B)/\(∀b∈F,b∈d)/\aP (jF (VN num F)) (fN a c) (c.map (aB7 num))
 |[],a,h,hv,_=>⟨a,h,⟨[],by simp⟩,hv,aP.nil⟩
 |x::r,a,h,hv,hL=>by
  obtain ⟨e,A⟩:=hL x (by simp);obtain ⟨i,⟨C,j⟩,k,m⟩:=aLl (num:=num) x.ts a h hv A (λD y u=>(e.con D y u).1) e.kd;obtain ⟨F,o,⟨g,f⟩,p,t⟩:=aLm (num:=num) r (nE a x.ts) i k (λb z=>hL b (by simp [z]));refine ⟨F,o,⟨C++g,by rw [f,j,ze]⟩,p,aP.cons ⟨rfl,?_⟩ t⟩;rw [f];exact aP.cons (Or.inr ⟨e.nm,rfl⟩) (aYv g m)
theorem aYw{ar:ByteArray->Bool×Int}{num:ByteArray->Int}{V:List ByteArray}(i:∀a∈V,∀b∈V,num a=num b->a=b){c:List Lk}(g:∀a∈c,wV ar a/\aB8 V a.ts):aV (fN [] c)=aV (c.map (aB7 num)):=by obtain ⟨F,e,_,d,f⟩:=aLm (num:=num) c [] (by simp) (by simp) g;exact aFl (VN.pairs e λa j b k=>i a (d a j) b (d b k)) f
theorem aEl(a:ByteArray):(⟨#[]⟩ : ByteArray)++a=a:=by rw [show (⟨#[]⟩ : ByteArray)=ByteArray.empty from rfl];simp
theorem uY(a:ByteArray):a++(⟨#[]⟩ : ByteArray)=a:=by rw [show (⟨#[]⟩ : ByteArray)=ByteArray.empty from rfl];simp
def kQ(a:Int)(b:Nat):Nat:=(Int.tmod (if a<0 then -(a+1) else a) b).toNat
theorem aB9(a:Int){b:Nat}(d:0<b):kQ a b<b:=by
 unfold kQ;have c:(0:Int)<=(if a<0 then -(a+1) else a):=by split<;>omega
 have e:=Int.tmod_nonneg (b:Int) c;have f:=Int.tmod_lt_of_pos (if a<0 then -(a+1) else a) (show (0:Int)<b by omega);omega
def qU(a:Bool):ByteArray:=if a then ⟨#[126]⟩ else ⟨#[]⟩
def qV(a:Bool):ByteArray:=if a then ⟨#[]⟩ else ⟨#[32,124,32]⟩
theorem aLn{a c:UInt8}(b:eJ s q ⟨#[a,c]⟩)(g:(eP a.toNat || dR a.toNat)=true)(i:c=40):iO s q (q+2) [(if dR a.toNat then 118 else 110,⟨#[a]⟩),(40,eK)]:=by subst i;have k:q+2<=s.size:=b.le;have f:aF s q=a.toNat:=b.byte 0 (by show 0<2;omega);have d:aF s (q+1)=40:=b.byte 1 (by show 1<2;omega);have j:s.extract q (q+1)=⟨#[a]⟩:=b.cut 0 1 (by show 1<=2;omega);have e:=aCb (by omega) f g (by rw [d];rfl);rw [j] at e;exact e.trans (xH (q:=q+1) (by omega) d rfl)
theorem aYx(a:eJ s q ⟨#[32,124,32]⟩):iO s q (q+3) [(124,eK)]:=by have f:q+3<=s.size:=a.le;have b:=aGj (s:=s) (q:=q) (by omega) (by rw [show aF s q=32 from a.byte 0 (by show 0<3;omega)];rfl);have d:=xH (s:=s) (q:=q+1) (c:=124) (by omega) (a.byte 1 (by show 1<3;omega)) rfl;have e:=aGj (s:=s) (q:=q+2) (by omega) (by rw [show aF s (q+2)=32 from a.byte 2 (by show 2<3;omega)];rfl);exact (b.trans d).trans e
theorem aYy{a:UInt8}(b:eJ s q ⟨#[46,a]⟩)(d:lF a.toNat=true):iO s q (q+2) [(46,eK)]:=by have g:q+2<=s.size:=b.le;have e:=xH (s:=s) (q:=q) (c:=46) (by omega) (b.byte 0 (by show 0<2;omega)) rfl;have f:=aGj (s:=s) (q:=q+1) (by omega) (by rw [show aF s (q+1)=a.toNat from b.byte 1 (by show 1<2;omega)];exact d);exact e.trans f
def aEm(a:ByteArray):Int:=if a=⟨#[88]⟩ then 0 else 1
def oV:Nat->ByteArray
 |0=>⟨#[112]⟩
 |1=>⟨#[113]⟩
 |2=>⟨#[114,40,97,41]⟩
 |_=>⟨#[114,40,39,66,32,98,39,41]⟩
def iD(a:Bool):Nat->Lk
 |0=>⟨a,⟨#[112]⟩,[]⟩
 |1=>⟨a,⟨#[113]⟩,[]⟩
 |2=>⟨a,⟨#[114]⟩,[(110,⟨#[97]⟩)]⟩
 |_=>⟨a,⟨#[114]⟩,[(110,⟨#[66,32,98]⟩)]⟩
def qW(a:Rl):Lk:=iD a.1 (kQ a.2.1 4)
def oW(a:Rl):ByteArray:=qU a.1++oV (kQ a.2.1 4)
def fW:Bool->List Rl->ByteArray
 |_,[]=>⟨#[]⟩
 |b,x::r=>qV b++(oW x++fW false r)
theorem aLo(b:Rl):∀(l:List Rl) (a:Bool),fW a (l++[b])=fW a l++(qV (a && l.isEmpty)++oW b)
 |[],a=>by simp [fW,aEl,uY]
 |y::r,a=>by simp [fW,aLo b r,ByteArray.append_assoc]
def qX(a:List Rl):ByteArray:=((if a.isEmpty then ⟨#[36,102,97,108,115,101]⟩ else ⟨#[]⟩)++fW true a)++⟨#[46,10]⟩
def gO:List (List Rl)->ByteArray
 |[]=>⟨#[]⟩
 |c::r=>qX c++gO r
theorem aLp(a:List Rl):∀l:List (List Rl),gO (l++[a])=gO l++qX a
 |[]=>by simp [gO,aEl,uY]
 |y::r=>by simp [gO,aLp a r,ByteArray.append_assoc]
theorem aYz:∀a,(oV a).size<=8/\0<(oV a).size
 |0=>⟨show 1<=8 by omega,show 0<1 by omega⟩
 |1=>⟨show 1<=8 by omega,show 0<1 by omega⟩
 |2=>⟨show 4<=8 by omega,show 0<4 by omega⟩
 |_+3=>⟨show 8<=8 by omega,show 0<8 by omega⟩
theorem aBa:∀(l:List Rl) (a:Bool),(fW a l).size<=12*l.length
 |[],a=>zp 0
 |x::r,a=>by
  have b:=aBa r false;have c:=(aYz (kQ x.2.1 4)).1;have d:(qU x.1).size<=1:=by unfold qU;split<;>decide
  have e:(qV a).size<=3:=by unfold qV;split<;>decide
  simp only [fW,oW,ByteArray.size_append,zs];omega
theorem aZ0(a:List Rl)(b:a.length<=4):(qX a).size<=56:=by
 have c:=aBa a true;have d:(if a.isEmpty then (⟨#[36,102,97,108,115,101]⟩ : ByteArray) else ⟨#[]⟩).size<=6:=by split<;>decide
 have e:(⟨#[46,10]⟩ : ByteArray).size=2:=rfl;simp only [qX,ByteArray.size_append];omega
theorem yO:∀(l:List (List Rl)),(∀c∈l,c.length<=4)->(gO l).size<=56*l.length
 |[],_=>zp 0
 |c::r,h=>by
  have d:=yO r (λa b=>h a (by simp [b]));have e:=aZ0 c (h c (by simp));simp only [gO,ByteArray.size_append,zs];omega
theorem aZ1{b a:Nat}(c:aF s b=a)(d:a<128):bP s b=1:=by
 have:dE a=1:=by unfold dE;rw [aH d]
 rw [sO s b (by rw [c,this];omega),c,this]
theorem aEn{b p a:Nat}{d:ByteArray}(i:p<s.size)(c:aF s p=a)(e:a<128)(f:a≠39)(g:a≠92)(j:a≠10):eQ s (b+1) d p=eQ s b (d++s.extract p (p+1)) (p+1):=by rw [eQ,aH i,c,aI f,aI g,aZ1 c e,aI (by omega)]
theorem aZ2(a:eJ s q ⟨#[39,66,32,98,39]⟩):iO s q (q+5) [(110,⟨#[66,32,98]⟩)]:=by
 have r:q+5<=s.size:=a.le;have b:aF s q=39:=a.byte 0 (by show 0<5;omega);have d:aF s (q+1)=66:=a.byte 1 (by show 1<5;omega);have e:aF s (q+2)=32:=a.byte 2 (by show 2<5;omega);have f:aF s (q+3)=98:=a.byte 3 (by show 3<5;omega);have g:aF s (q+4)=39:=a.byte 4 (by show 4<5;omega);have m:s.extract (q+1) (q+1+1)=⟨#[66]⟩:=a.cut 1 1 (by show 2<=5;omega);have n:s.extract (q+2) (q+2+1)=⟨#[32]⟩:=a.cut 2 1 (by show 3<=5;omega);have o:s.extract (q+3) (q+3+1)=⟨#[98]⟩:=a.cut 3 1 (by show 4<=5;omega);have j:mU s q=some (⟨#[66,32,98]⟩,q+5):=by unfold mU;obtain ⟨c,i⟩ : ∃c,s.size=c+1+1+1+1:=⟨s.size-4,by omega⟩;rw [i,aEn (by omega) d (by omega) (by omega) (by omega) (by omega),m,aEn (p:=q+2) (by omega) e (by omega) (by omega) (by omega) (by omega),n,aEn (p:=q+3) (by omega) f (by omega) (by omega) (by omega) (by omega),o,eQ,aH (show q+3+1<s.size by omega),aH g,aH (show eM (((⟨#[]⟩ : ByteArray)++⟨#[66]⟩)++⟨#[32]⟩++⟨#[98]⟩)=true by kernel_rfl)];rfl
 have k:dK s q=.tok ⟨110,⟨#[66,32,98]⟩,q⟩ (q+5):=by unfold dK;rw [b,aI (by decide),aH rfl,j]
 exact aCa (by omega) (by rw [b];rfl) (by rw [b];decide) k (by omega) (by omega)
theorem aZ3{n:Nat}{m:Bool}(a:eJ s q (oV n))(b:q+(oV n).size<s.size)(d:eU (aF s (q+(oV n).size))=false):iO s q (q+(oV n).size) (sN (iD m n)):=by
 match n,a,b,d with
 |0,a,b,d=>
  have e:(oV 0).size=1:=rfl;rw [e] at b d ⊢;have f:=aCb b (a.byte 0 (by show 0<1;omega):aF s q=112) rfl d;rw [show s.extract q (q+1)=⟨#[112]⟩ from a.cut 0 1 (by show 1<=1;omega)] at f;exact f
 |1,a,b,d=>
  have e:(oV 1).size=1:=rfl;rw [e] at b d ⊢;have f:=aCb b (a.byte 0 (by show 0<1;omega):aF s q=113) rfl d;rw [show s.extract q (q+1)=⟨#[113]⟩ from a.cut 0 1 (by show 1<=1;omega)] at f;exact f
 |2,a,b,d=>
  have e:(oV 2).size=4:=rfl;rw [e] at b ⊢;have i:eJ s q ⟨#[114,40]⟩:=eJ.left (y:=⟨#[97,41]⟩) a;have j:=aLn i rfl rfl;have g:=aCb (q:=q+2) (c:=97) (by omega) (a.byte 2 (by show 2<4;omega)) rfl (by rw [show aF s (q+2+1)=41 from a.byte 3 (by show 3<4;omega)];rfl);rw [show s.extract (q+2) (q+2+1)=⟨#[97]⟩ from a.cut 2 1 (by show 3<=4;omega)] at g;have k:=xH (s:=s) (q:=q+3) (c:=41) (by omega) (a.byte 3 (by show 3<4;omega)) rfl;exact (j.trans g).trans k
 |n+3,a,b,d=>
  have e:(oV (n+3)).size=8:=rfl;rw [e] at b ⊢;have i:eJ s q ⟨#[114,40]⟩:=eJ.left (y:=⟨#[39,66,32,98,39,41]⟩) a;have o:eJ s (q+2) ⟨#[39,66,32,98,39]⟩:=eJ.left (y:=⟨#[41]⟩) (eJ.right (x:=⟨#[114,40]⟩) a);have j:=aLn i rfl rfl;have g:=aZ2 o;have k:=xH (s:=s) (q:=q+7) (c:=41) (by omega) (a.byte 7 (by show 7<8;omega)) rfl;exact (j.trans g).trans k
theorem aZ4{a:Rl}(c:eJ s q (oW a))(f:q+(oW a).size<s.size)(d:eU (aF s (q+(oW a).size))=false):iO s q (q+(oW a).size) (oG (qW a)):=by
 unfold oW at c f d ⊢;unfold oG;rw [ByteArray.size_append,<-zu] at f d ⊢;refine iO.trans ?_ (aZ3 c.right f d);have e:=c.left;have g:(qW a).neg=a.1:=by unfold qW iD;split<;>rfl
 rw [g];generalize a.1=b at e ⊢;cases b with
 |true=>exact xH (by have:q+1<=s.size:=e.le;omega) (e.byte 0 (by show 0<1;omega)) rfl
 |false=>exact zT
theorem aLq{s:ByteArray}:∀(l:List Rl) (q:Nat) (a:Bool),eJ s q (fW a l)->q+(fW a l).size<s.size->eU (aF s (q+(fW a l).size))=false->iO s q (q+(fW a l).size) ((if a || l.isEmpty then [] else [(124,eK)])++jV (l.map qW))
 |[],q,a,h,_,_=>by
  have:(fW a []).size=0:=rfl;rw [this];simp [jV];exact zT
 |x::r,q,a,h,hz,hn=>by
  simp only [fW] at h hz hn ⊢;rw [ByteArray.size_append,ByteArray.size_append,<-zu,<-zu] at hz hn ⊢;have f:iO s q (q+(qV a).size) (if a then [] else [(124,eK)]):=by
   have c:=h.left;unfold qV at c ⊢;cases a with
   |true=>exact zT
   |false=>exact aYx c
  have e:eU (aF s (q+(qV a).size+(oW x).size))=false:=by
   cases r with
   |nil=>exact hn
   |cons y r=>
    have b:=h.right.right;simp only [fW] at b;have d:eJ s (q+(qV a).size+(oW x).size) ⟨#[32,124,32]⟩:=b.left;rw [show aF s (q+(qV a).size+(oW x).size)=32 from d.byte 0 (by show 0<3;omega)];rfl
  have g:=aZ4 h.right.left (by omega) e;have i:=aLq r _ false h.right.right hz hn;have:=(f.trans g).trans i;cases r with
  |nil=>simpa [jV] using this
  |cons y r=>simpa [jV] using this
theorem aZ5{a:List Rl}(b:eJ s q (qX a)):iO s q (q+(qX a).size) (pH (a.map qW)):=by
 unfold qX at b ⊢;rw [ByteArray.size_append,ByteArray.size_append,<-zu,<-zu];have c:=b.right;rw [ByteArray.size_append,<-zu] at c;have f:=aYy c rfl;have j:=c.le;have i:(⟨#[46,10]⟩ : ByteArray).size=2:=rfl;rw [i] at j;have g:=aLq a _ true b.left.right (by omega) (by have e:=c.byte 0 (by show 0<2;omega);rw [Nat.add_zero] at e;rw [e];rfl);have k:=b.left.left;cases a with
 |nil=>
  have d:=bEu k;exact (d.trans g).trans f
 |cons x r=>
  have d:iO s q (q+(if (x::r).isEmpty then (⟨#[36,102,97,108,115,101]⟩ : ByteArray) else ⟨#[]⟩).size) []:=zT;exact (d.trans g).trans f
theorem aLr{s:ByteArray}:∀(l:List (List Rl)) (q:Nat),eJ s q (gO l)->iO s q (q+(gO l).size) ((l.map (List.map qW)).flatMap pH)
 |[],q,h=>zT
 |c::r,q,h=>by
  simp only [gO] at h ⊢;rw [ByteArray.size_append,<-zu];exact (aZ5 h.left).trans (aLr r _ h.right)
theorem aZ6(l:List (List Rl)):(dD (gO l) 0).map kt=rE (l.map (List.map qW)):=by obtain ⟨c,b,a⟩:=aLr (s:=gO l) l 0 ⟨⟨#[]⟩,⟨#[]⟩,by rw [aEl,uY],rfl⟩;rw [Nat.zero_add,bEt] at a;rw [a,List.map_append,b];rfl
def arP(a:ByteArray):Bool×Int:=if a=⟨#[112]⟩ then (true,0) else if a=⟨#[113]⟩ then (true,0) else if a=⟨#[114]⟩ then (true,1) else (false,0)
theorem aLs(d:Bool):∀n,wV arP (iD d n)/\aB8 [] (iD d n).ts
 |0=>⟨⟨by kernel_rfl,by simp [iD],by kernel_rfl,λb a=>by simp [iD] at a,λb a=>by simp [iD] at a⟩,λb a=>by simp [iD] at a⟩
 |1=>⟨⟨by kernel_rfl,by simp [iD],by kernel_rfl,λb a=>by simp [iD] at a,λb a=>by simp [iD] at a⟩,λb a=>by simp [iD] at a⟩
 |2=>⟨⟨by kernel_rfl,by simp [iD],by kernel_rfl,λb a=>by simp [iD] at a;subst a;exact Or.inr rfl,λb a _=>by simp [iD] at a;subst a;exact ⟨by kernel_rfl,by kernel_rfl⟩⟩,λb a c=>by simp [iD] at a;subst a;cases c⟩
 |n+3=>⟨⟨by kernel_rfl,by simp [iD],by kernel_rfl,λb a=>by simp [iD] at a;subst a;exact Or.inr rfl,λb a _=>by simp [iD] at a;subst a;exact ⟨by kernel_rfl,by kernel_rfl⟩⟩,λb a c=>by simp [iD] at a;subst a;cases c⟩
def nW(a:List Rl):List Lt:=aV (a.map λb=>aB7 aEm (qW b))
theorem aEp{l:List (List Rl)}{f:List (List Lt)}{i d:Int}(j:oL (gO l) f i d)(p:l.length<=40)(e:∀a∈l,a.length<=4):f=l.map nW/\d=0:=by
 have t:=yO l e;obtain ⟨k,m⟩:=aYr (ar:=arP) j (by omega) (aZ6 l) (by simpa using p) (λr n=>by
  obtain ⟨a,o,rfl⟩:=zr.1 n;refine ⟨by have:=e a o;simp;omega,λg b=>?_⟩;obtain ⟨c,_,rfl⟩:=zr.1 b;exact (aLs c.1 _).1)
 refine ⟨?_,m⟩;rw [k,zf];refine List.map_congr_left λa _=>?_
 show aV (fN [] (a.map qW))=nW a;rw [aYw (ar:=arP) (num:=aEm) (V:=[]) (λg b=>by simp at b) (λg b=>by obtain ⟨c,_,rfl⟩:=zr.1 b;exact aLs c.1 _)];unfold nW;rw [zf];rfl
theorem aLt(b:Int)(a:Nat)(j:qO b)(u:1<=a)(x:a<=1000)(w:World):Calls zm 8 #[.int .i64 b,.int .i64 a] w λi n=>(∃c:Nat,i=.returned (.int .i64 c)/\c=kQ b a/\c<a)/\n=w:=by
 obtain ⟨r,t⟩:=j;have y:(a:Int)≠0:=by omega
 have z:((a:Int)==0)=false:=by simp;omega
 have f:=aB9 b (show 0<a by omega);have g:∀d:Int,0<=d->Int.tmod d a=((Int.tmod d a).toNat:Int):=λd k=>by
  have o:=Int.tmod_nonneg (a:Int) k;omega
 by_cases e:b<0
 ·have m:Int.tmod (-(b+1)) a=(kQ b a:Int):=by
   rw [g _ (by omega)];unfold kQ;rw [aH e]
  generalize kQ b a=c at *;go_enter Tryz.func8,Tryz.ntmps8;go_wp2;go_ret;exact ⟨⟨c,rfl,rfl,f⟩,rfl⟩
 ·have p:decide (b<0)=false:=by simpa using e
  have m:Int.tmod b a=(kQ b a:Int):=by rw [g _ (by omega)];unfold kQ;rw [aI e]
  generalize kQ b a=c at *;go_enter Tryz.func8,Tryz.ntmps8;go_wp2;go_ret;exact ⟨⟨c,rfl,rfl,f⟩,rfl⟩
structure aEq(w:World)(a:Option Addr)(X:List (Value×List Rl)):Prop where
 cell:∀k (h:k<X.length),∃g,a=some ⟨g,0,none⟩/\w.cell? ⟨g,k,none⟩=some X[k].1
 raw:∀k (h:k<X.length),∃ra rc,X[k].1=.slice ra X[k].2.length rc/\mL w ra X[k].2
def fT(a:Nat):ByteArray:=if a=0 then ⟨#[36,102,97,108,115,101]⟩ else ⟨#[]⟩
theorem aZ7(c:ByteArray)(b:List Rl)(a:Nat)(e:a<b.length):c++fW true (b.take (a+1))=c++fW true (b.take a)++(if 0<a then ⟨#[32,124,32]⟩ else ⟨#[]⟩)++qU b[a].1++oV (kQ b[a].2.1 4):=by
 rw [zw e,aLo];have:qV (true && (b.take a).isEmpty)=if 0<a then ⟨#[32,124,32]⟩ else ⟨#[]⟩:=by
  by_cases d:0<a
  ·rw [aH d];have:(b.take a).isEmpty=false:=by
    cases he:(b.take a).isEmpty with
    |false=>rfl
    |true=>
     rw [List.isEmpty_iff] at he;have:=congrArg za he;rw [zq,List.length_nil] at this;omega
   rw [this];rfl
  ·rw [aI d];obtain rfl:a=0:=by omega
   rfl
 rw [this];simp [oW,ByteArray.append_assoc]
theorem aZ8(l:List (List Rl))(a:Nat)(b:a<l.length):gO (l.take (a+1))=gO (l.take a)++qX l[a]:=by rw [zw b,aLp]
theorem aZ9(a:List Rl):qX a=fT a.length++fW true a++⟨#[46,10]⟩:=by unfold qX fT;cases a<;>rfl
theorem aZa(R:Option Addr)(b8:Nat)(a:List (Value×List Rl))(w:World)(a4:aEq w R a)(d8:a.length<=40)(a2:∀n∈a,n.2.length<=4):Calls zm 12 #[.slice R a.length b8] w λY c6=>Y=.returned (.string (gO (a.map zt)))/\aB w c6:=by
 have Q:=aA a4;have M:=aA a2;have L:=aA (λ(C:Int) (i:qO C) e=>aLt C 4 i (by omega) (by omega) e);clear a4 a2;go_enter Tryz.func12,Tryz.ntmps12;go_wp2;go_loopw [3,4] (λg H wr=>∃(c:Nat),g=.string (gO ((a.map zt).take c))/\H=.int .i64 c/\c<=a.length/\aB w wr) (λ_ H _=>a.length-(intOf H).toNat);case atStart=>exact ⟨0,rfl,rfl,by omega,Below.refl _ _⟩
 case round=>
  obtain ⟨c,rfl,rfl,d5,d⟩:=hrel;by_cases r:c<a.length
  ·obtain ⟨d1,rfl,i⟩:=Q.o.cell c r;obtain ⟨e2,e3,a9,a7⟩:=Q.o.raw c r;have e0:=M.o _ (zz r);have d6:(c:Int)<(a.length:Int):=by omega
   rw [a9] at i;have j:=aA (aZ8 (a.map zt) c (by simpa using r));rw [zv] at j;have a3:(gO ((a.map zt).take c)).size<=2240:=by
    have:=yO ((a.map zt).take c) (λC i=>by
     obtain ⟨n,c4,rfl⟩:=zr.1 (zh i);exact M.o n c4)
    have d2:((a.map zt).take c).length<=40:=by rw [zq];omega
    omega
   obtain ⟨B,O⟩ : ∃B,aM (gO ((a.map zt).take (c+1))=B):=⟨_,aA rfl⟩;rw [O.o] at j;generalize gO ((a.map zt).take c)=S at j a3 ⊢;generalize a[c].2=l at *;have c8:=aC d i;have P:=aA a7;have y:=aA d;clear d a9 a7;go_upto_if 17 with (fail);go_cut [3] (λg e=>g=.string (S++fT l.length)/\e=wr);case first=>
    by_cases E:l.length=0
    ·have b9:((l.length:Int)==0)=true:=by simp [E]
     go_wp2;go_meet;case rel=>exact ⟨by unfold fT;rw [aH E],rfl⟩
    ·have b9:((l.length:Int)==0)=false:=zW (by omega);go_wp2;go_meet;case rel=>exact ⟨by unfold fT;rw [aI E,uY],rfl⟩
   case rest=>
    obtain ⟨rfl,rfl⟩:=hcut;have c0:(S++fT l.length).size<=2246:=by
     have:(fT l.length).size<=6:=by unfold fT;split<;>decide
     rw [ByteArray.size_append];omega
    have A:aM (B=(S++fT l.length)++fW true l++⟨#[46,10]⟩):=aA (by rw [j.o,aZ9];simp [ByteArray.append_assoc]);generalize S++fT l.length=S1 at c0 A ⊢;clear j a3;go_wp2;go_loopw [3,5] (λg I wr=>∃(b:Nat),g=.string (S1++fW true (l.take b))/\I=.int .i64 b/\b<=l.length/\aB w wr) (λ_ I _=>l.length-(intOf I).toNat);case atStart=>exact ⟨0,by rw [List.take_zero];exact congrArg Value.string (uY S1).symm,rfl,Nat.zero_le _,y.o⟩
    case round=>
     obtain ⟨b,rfl,rfl,d3,d⟩:=hrel;have T:=aC d i;by_cases G:b<l.length
     ·obtain ⟨c7,e1,rfl,U,V,W,X⟩:=P.o.cell b G;obtain ⟨J,b1,b2⟩:=P.o.rng b G;have Z:=aC d U;have D:=aC d V;have a0:=aC d W;have a1:=aC d X;have d4:(b:Int)<(l.length:Int):=by omega
      have c5:=d.size;have z:=aA d;have k:=aA (aZ7 S1 l b G);have u:(S1++fW true (l.take b)).size<=2400:=by have:=aBa (l.take b) true;rw [zq] at this;rw [ByteArray.size_append];omega
      obtain ⟨b3,N⟩ : ∃b3,aM (b3=S1++fW true (l.take (b+1))):=⟨_,aA rfl⟩;rw [<-N.o] at k;generalize S1++fW true (l.take b)=t at k u ⊢;generalize l[b]=n at *;obtain ⟨o,b4,e4,e5⟩:=n;simp only at Z D a0 a1 J b1 b2;have b5:=aA (λe=>aD L b4 J e);have d9:=aB9 b4 (show 0<4 by omega);clear U V W X d J b1 b2 L;go_upto_if 30 with (fail);go_cut [3] (λg e=>g=.string (t++(if 0<b then ⟨#[32,124,32]⟩ else ⟨#[]⟩))/\e=wr);case first=>
       by_cases p:0<b
       ·have c1:(0:Int)<(b:Int):=by omega
        have c2:decide (0<b)=true:=fC p;go_wp2;go_meet;case rel=>exact ⟨by rw [aH p],rfl⟩
       ·have c1:decide ((0:Int)<(b:Int))=false:=by rw [decide_eq_false_iff_not];omega
        have c2:decide (0<b)=false:=gB p;go_wp2;go_meet;case rel=>exact ⟨by rw [aI p,uY],rfl⟩
      case rest=>
       obtain ⟨rfl,m⟩:=hcut;rw [m];clear m;have a8:(t++(if 0<b then ⟨#[32,124,32]⟩ else ⟨#[]⟩)).size<=2410:=by
        have:(if 0<b then (⟨#[32,124,32]⟩ : ByteArray) else ⟨#[]⟩).size<=3:=by split<;>decide
        rw [ByteArray.size_append];omega
       generalize t++(if 0<b then ⟨#[32,124,32]⟩ else ⟨#[]⟩)=t2 at k a8 ⊢;go_upto_if 40 with (fail);go_cut [3] (λg e=>g=.string (t2++qU o)/\e=wr);case first=>
        cases o
        ·go_wp2;go_meet;case rel=>exact ⟨by rw [show qU false=⟨#[]⟩ from rfl,uY],rfl⟩
        ·go_wp2;go_meet;case rel=>exact ⟨rfl,rfl⟩
       case rest=>
        obtain ⟨rfl,m⟩:=hcut;rw [m];clear m;have c3:(t2++qU o).size<=2420:=by
         have:(qU o).size<=1:=by unfold qU;split<;>decide
         rw [ByteArray.size_append];omega
        generalize t2++qU o=t1 at k c3 ⊢;clear u a8;have c9:=λa=>aC ((Below.refl wr.heap.size wr).alloc (zp _) a) T
        have d0:=λa=>aC ((Below.refl wr.heap.size wr).alloc (zp _) a) D
        have b6:=aA (λa=>z.o.alloc c5 a);clear T Z D a0 a1;go_wp2_with (first
         |(go_at_call 8;refine (aD b5 _).mono ?_;rintro Y e ⟨⟨x,rfl,a6,d7⟩,b0⟩;rw [b0];clear b0 e;have b7:=aA a6;clear a6;obtain rfl|rfl|rfl|rfl:x=0\/x=1\/x=2\/x=3:=by omega)
         |go_in)
        all_goals
         go_roundw;case rel=>exact ⟨b+1,(by rw [<-N.o,k.o,<-b7.o];rfl),by go_num,by omega,b6.o _⟩
         case measure=>simp [intOf];omega
     ·obtain rfl:b=l.length:=by omega
      have z:=aA d;rw [zb];have u:(S1++fW true l).size<=2400:=by have:=aBa l true;rw [ByteArray.size_append];omega
      generalize S1++fW true l=t at A u ⊢;clear d;go_wp2;go_roundw;case rel=>exact ⟨c+1,(by rw [O.o,A.o]),by go_num,by omega,z.o⟩
      case measure=>simp [intOf];omega
  ·obtain rfl:c=a.length:=by omega
   have a5:(a.map zt).take a.length=a.map zt:=by rw [<-zk (f:=zt),zb]
   rw [a5];have y:=aA d;clear d a5;go_wp2;go_ret;exact ⟨rfl,y.o⟩
abbrev Kr:=Option Addr×Nat×List Rl
def oX(a:Kr):Value:=.slice a.1 a.2.2.length a.2.1
structure wW(w:World)(a:Option Addr)(X:List Kr):Prop where
 cell:∀k (h:k<X.length),∃b o,a=some ⟨b,o,none⟩/\w.cell? ⟨b,o+k,none⟩=some (oX X[k])
 raw:∀x∈X,mL w x.1 x.2.2/\x.2.2.length<=x.2.1
theorem wW.below{w':World}{b:Option Addr}{X:List Kr}(a:wW w b X)(c:aB w w'):wW w' b X:=
 ⟨λk i=>by
  obtain ⟨e,j,f,g⟩:=a.cell k i;exact ⟨e,j,f,aC c g⟩,λx d=>⟨(a.raw x d).1.below c,(a.raw x d).2⟩⟩
structure yP(B:Nat)(w:World)(v:Value)(Y:List Kr):Prop where
 row:w.ownsRow B 25 1 v Y.length (Y.map oX)
 raw:∀x∈Y,mL w x.1 x.2.2
theorem yP.cell{B:Nat}{b:List Kr}(e:yP B w v b):∃a f,v=.slice a b.length f/\aEq w a (b.map λy=>(oX y,y.2.2))/\∀k (c:k<b.length),∃g,a=some ⟨g,0,none⟩/\w.cell? ⟨g,k,none⟩=some (oX b[k]):=by
 obtain ⟨a,f,rfl⟩:=bA e.row;have j:∀k (c:k<b.length),∃g,a=some ⟨g,0,none⟩/\w.cell? ⟨g,k,none⟩=some (oX b[k]):=λk c=>by
  obtain ⟨_,⟨_,d⟩|⟨g,o,p,d,_⟩⟩:=e.row
  ·omega
  ·simp at d;have m:=e.row;rw [d.1] at m;exact ⟨g,d.1,by rw [m.cellAt k (by simpa using c)];simp [c]⟩
 refine ⟨a,f,rfl,⟨λk c=>?_,λk c=>?_⟩,j⟩
 ·have i:k<b.length:=by simpa using c
  obtain ⟨g,d,n⟩:=j k i;exact ⟨g,d,by rw [zv];exact n⟩
 ·have i:k<b.length:=by simpa using c
  rw [zv];exact ⟨_,_,rfl,e.raw _ (zz i)⟩
theorem aZb:(zm.info? 25).map (λa=>(a.zero,a.size,a.bytes))=some (some (.slice none 0 0),1,24):=by kernel_rfl
theorem aZc{a:Nat}{d:TypeId}{j:Nat}{g:Nat}{i:List Value}(e:w.ownsRow a d j v g i){c:Nat}(b:v.ownBlock=some c):a<=c:=by
 obtain ⟨_,⟨rfl,_⟩|⟨n,k,m,rfl,f,_⟩⟩:=e
 ·cases b
 ·cases b;exact f
def jD(a:Kr):Kr:=(a.1,a.2.1,a.2.2.take 4)
theorem aZd{a:Kr}(b:mL w a.1 a.2.2):mL w (jD a).1 (jD a).2.2:=b.take 4
theorem aZe(H:Option Addr)(a2:Nat)(b:List Kr)(c:Nat)(c9:c<=1000)(w:World)(L:wW w H b):Calls zm 7 #[.slice H b.length a2,.int .i64 c] w λo V=>∃v,o=.returned v/\yP w.heap.size V v ((b.take c).map jD)/\aB w V:=by
 have t:=aA L;obtain ⟨b4,hK,a7,a8,a9⟩:=info_parts aZb;clear L;go_enter Tryz.func7,Tryz.ntmps7;go_wp2;go_loopw [5,6] (λb5 y wr=>∃a:Nat,y=.int .i64 a/\a<=b.length/\a<=c/\yP w.heap.size wr b5 ((b.take a).map jD)/\aB w wr) (λ_ y _=>b.length-(intOf y).toNat);case atStart=>exact ⟨0,rfl,by omega,by omega,⟨World.ownsRow_nil _ _ _ _,λg k=>by simp at k⟩,Below.refl _ _⟩
 case round=>
  obtain ⟨a,rfl,c6,c7,j,i⟩:=hrel;by_cases b1:a<b.length/\a<c
  ·obtain ⟨p,c3⟩:=b1;obtain ⟨c0,d1,rfl,O⟩:=t.o.cell a p;obtain ⟨x,b0⟩:=t.o.raw _ (zz p);have I:(a:Int)<(b.length:Int):=by omega
   have a4:(a:Int)<(c:Int):=by omega
   have D:aM ((b.take (a+1)).map jD=(b.take a).map jD++[jD b[a]]):=aA (by rw [zw p,List.map_append];rfl);have a1:aM (∀g∈(b.take a).map jD++[jD b[a]],mL w g.1 g.2.2):=aA (by
    rw [<-D.o];intro g k;obtain ⟨b8,b3,rfl⟩:=zr.1 k;exact aZd (t.o.raw b8 (zh b3)).1)
   have c8:((b.take a).map jD).length<=1000:=by rw [zk,zq];omega
   generalize b[a]=g at *;generalize (b.take a).map jD=Y at *;have u:=aC i O;have r:=x.below i;have N:=i.size;have m:=aA i;have b9:=aA r;have n:=aA j;obtain ⟨f,d,e⟩:=g;unfold oX at u;simp only at u b0 x r;obtain ⟨W,X,rfl⟩:=bA j.row;clear i j O x;go_upto_if 25 with (fail);go_cut [7] (λa3 b7=>a3=.slice f (e.take 4).length d/\b7=wr);case first=>
    by_cases J:4<e.length
    ·have a6:(4:Int)<(e.length:Int):=by omega
     have a5:decide (4<e.length)=true:=fC J;have c5:4<=d:=by omega
     obtain ⟨c1,o,rfl,_⟩:=r.cell 0 (by omega);go_wp2;go_meet;case rel=>exact ⟨by rw [zq,Nat.min_eq_left (by omega)],rfl⟩
    ·have a6:decide ((4:Int)<(e.length:Int))=false:=by rw [decide_eq_false_iff_not];omega
     have a5:decide (4<e.length)=false:=gB J;go_wp2;go_meet;case rel=>exact ⟨by rw [zo (by omega)],rfl⟩
   case rest=>
    obtain ⟨rfl,T⟩:=hcut;rw [T];clear T r u;have a0:aM (oX (jD (f,d,e))=.slice f (e.take 4).length d):=aA rfl;generalize (e.take 4).length=xn at *;have E:=aA (bG n.o.row ((Below.refl _ wr).alloc (zp _) (.cells #[.slice f xn d] 25)) (zp _));have b2:∀U∈[Value.slice f xn d],U.oneCell'=true:=by intro U S;simp at S;subst S;rfl
    have A:=aA ((Below.refl _ wr).alloc (zp _) (.cells #[.slice f xn d] 25));go_wp2_with (first
     |(at_builtin;refine wpList_append_own _ rfl (.tmp 28) (.tmp 30) 22 rfl w.heap.size 25 b4 (.slice none 0 0) 1 24 zc hK a7 a8 a9 rfl (by decide) _ _ _ rfl E.o ⟨wr.heap.size,0,none⟩ 1 1 [.slice f xn d] rfl rfl (tX wr _ _ _ rfl) b2 (by unfold maxLen;omega) (by omega) (by simp;omega) ?_;intro b6 z R Q _;have G:=aA R;have C:=aA Q;clear R Q)
     |go_in)
    have P:(wr.alloc (.cells #[.slice f xn d] 25)).grownBy z (Value.slice W Y.length X).ownBlock:=C.o;have M:aB w z:=Below.grown (m.o.trans (A.o.mono N)) P (Nat.le_trans N A.o.size) (λd0 o=>aZc E.o o);have Z:aM (yP w.heap.size z b6 (Y++[jD (f,d,e)])):=aA ⟨by have:=G.o;rw [<-a0.o] at this;simpa using this,λg k=>(a1.o g k).below M⟩;clear P G C;go_roundw;case rel=>exact ⟨a+1,by go_num,by omega,by omega,by rw [D.o];exact Z.o,M⟩
    case measure=>simp [intOf];omega
  ·have n:=aA j;have m:=aA i;obtain ⟨W,X,rfl⟩:=bA j.row;have B:aM ((b.take a).map jD=(b.take c).map jD):=aA (by
    congr 1
    rcases Nat.lt_or_ge a b.length with h|h
    ·rw [show a=c by omega]
    ·rw [zo h,zo (by omega)])
   clear j i;by_cases p:a<b.length
   ·have I:(a:Int)<(b.length:Int):=by omega
    have a4:decide ((a:Int)<(c:Int))=false:=by rw [decide_eq_false_iff_not];omega
    have c4:decide (a<c)=false:=by rw [decide_eq_false_iff_not];omega
    generalize ((b.take a).map jD).length=yn at *;go_wp2;go_ret;exact ⟨_,rfl,by rw [<-B.o];exact n.o,m.o⟩
   ·have I:decide ((a:Int)<(b.length:Int))=false:=by rw [decide_eq_false_iff_not];omega
    have c2:decide (a<b.length)=false:=by rw [decide_eq_false_iff_not];omega
    generalize ((b.take a).map jD).length=yn at *;go_wp2;go_ret;exact ⟨_,rfl,by rw [<-B.o];exact n.o,m.o⟩
end
section
open Go.RowKit Go.ChangeShapes Go.WideShapes
theorem aZf{a:Addr}(c:w.cell? (a.add (0*1))=some v):∃b d,a=⟨b,d,none⟩:=by
 obtain ⟨b,d,e⟩:=a;cases e with
 |none=>exact ⟨b,d,rfl⟩
 |some s=>
  simp only [Addr.add,World.cell?] at c;split at c<;>simp at c
theorem aZg{m:Type}{D:TypeId×Value->m}{G:Nat}{o:List Value}{k:DataW m×List MemPlace}(f:DataW.trod D zm w 0 (λ_=>true) true G 22 o=some k):∃b n e,o=[.slice b (za n) e]/\wW w b n:=by
 rcases Deep.open_slice zc f with ⟨rfl,rfl⟩|⟨b,j,e,u,Z,R,S,rfl,U,V,X,O,rfl,c⟩
 ·exact ⟨none,[],0,rfl,⟨λi f=>absurd f (by simp),λk c=>by simp at c⟩⟩
 ·have N:u=e:=by simpa using O
  subst N;have B:zm.cellsOf 25=1:=by kernel_rfl
  have C:∀a,a<j->∃d:Kr,w.cell? (b.add (a*1))=some (oX d)/\mL w d.1 d.2.2/\d.2.2.length<=d.2.1:=by intro a t;obtain ⟨T,r,H⟩:=c a (by omega);rw [B] at r;obtain ⟨Y,W,I⟩:=World.cells?_some r;obtain ⟨y,l,A,rfl,P,M,_⟩:=aSm H;have x:=I 0 (by omega);rw [Deep.add_add] at x;exact ⟨(y,A,l),by simpa [oX] using x,P,M⟩
  obtain ⟨E,g⟩:=Deep.choose_lt C;refine ⟨some b,(List.range j).map E,u,by simp,⟨λi J=>?_,λk c=>?_⟩⟩
  ·have L:i<j:=by simpa using J
   obtain ⟨z,Q,rfl⟩:=aZf (g 0 (by omega)).1;obtain ⟨p,_⟩:=g i L;rw [aIc] at p;refine ⟨z,Q,rfl,?_⟩;simp only [zv,List.getElem_range];simpa using p
  ·obtain ⟨a,t,rfl⟩:=zr.1 c;exact (g a (by simpa using t)).2
end
