import Derived.Lib.Strings
import Derived.Test.YtmelidkanelpbaaGreatDoorGUsesG
open List renaming getElem_mem→zz,length_append→zy,getElem?_eq_some_iff→zx,take_succ_eq_append_getElem→zw,getElem_map→zv,length_cons→zs,mem_map→zr,length_take→zq,take_of_length_le→zo,getElem?_append_left→zm,mem_append→zk,length_map→zj,length_singleton→zi,mem_of_getElem?→zh,mem_of_mem_take→zg,flatMap_cons→zf,map_map→ze,append_assoc→zd,take_length→za,length→z0
open Nat renaming add_assoc→zu,le_refl→zp
open Or renaming inl→z1,inr→z4
open Prod renaming snd→zt
namespace Go.Proofs.YtmelidkanelpbaaGreatDoor
open _root_.Go.Proofs.Tryz renaming prog→zn,underlying22→zb
open World renaming cell?→zl
set_option maxHeartbeats 4000000
set_option maxRecDepth 100000
variable{s:ByteArray}{F l:List ByteArray}{q:Nat}{v:Value}{w:World}
section
open Go.RowKit
theorem aWq{a:List Pl}{g:Int}(h:wO a g)(p:∀t∈a,0<=t.2.2.2):(g<0->wJ (a.map jP))/\(0<=g->¬wJ (a.map jP)):=by
 rcases h with ⟨rfl,h⟩|⟨c,d,b,_,rfl⟩
 ·refine ⟨λ_ c d=>?_,λh=>by omega⟩;have o:c<a.length:=by simpa using d
  have b:=h c o;simp only [oT,not_or,not_exists] at b;refine ⟨by simp [jP];omega,λf e j=>?_⟩;have i:=b.2 f e;simp only [zv,jP] at j ⊢;simp only [aAz,not_and,not_or,Decidable.not_not] at i;have:=i j;rw [this.1,this.2]
 ·have u:=p a[c] (zz _);refine ⟨λh=>by omega,λ_ r=>?_⟩;have k:=r c (by simpa using d);simp only [zv,jP] at k;rcases b with b|⟨f,e,m,n⟩
  ·omega
  ·have:=k.2 f e m;simp at this;rcases n with h|h
   ·exact h this.1
   ·exact h this.2
end
section
open Go.RowKit
structure wS(ar:ByteArray->Bool×Int)(x:Lk):Prop where
 nm:aK (x.nm,0)=false
 len:x.ts.length<=2
 ar0:ar x.nm=(true,(x.ts.length:Int))
 kd:sM x.ts
 con:∀t∈x.ts,t.1=110->aK (t.2,0)=false/\ar t.2=(false,0)
theorem uR(a:Int):aK (⟨#[]⟩,a)=true:=by simp [aK]
theorem aWr(c:List ByteArray)(a:TT)(b:a.1=118):aK (pI c a)=true:=by unfold pI;rw [aI b];exact uR _
theorem aLa{g:ByteArray->Bool×Int}:∀(e:List TT) (c:List ByteArray) (b:Nat),0<b->sM e->(∀t∈e,t.1=110->aK (t.2,0)=false/\g t.2=(false,0))->∀a∈gY b (qK c e),a.2=g a.1/\a.2.2<=5
 |[],c,b,_,_,_,a,hu=>by simp [qK,gY] at hu
 |t::r,c,b,hk,hd,hc,a,hu=>by
  simp only [qK,gY] at hu;rcases zk.1 hu with hu|hu
  ·unfold lV at hu;split at hu
   ·simp at hu
   ·rename_i j;simp at hu;rcases hd t (by simp) with h|h
    ·exact absurd (aWr c t h) j
    ·have i:pI c t=(t.2,0):=by unfold pI;rw [aH (by rw [h];decide)]
     rw [i] at hu;subst hu;rw [(hc t (by simp) h).2];simp;omega
  ·exact aLa r _ (b+1) (by omega) (λf d=>hd f (by simp [d])) (λf d=>hc f (by simp [d])) a hu
theorem aWs{e:ByteArray->Bool×Int}:∀(c:List Lk) (d:List ByteArray),(∀b∈c,wS e b)->∀a∈pR (fK d c),a.2=e a.1/\a.2.2<=5:=by
 intro c;induction c with
 |nil=>intro d _ a hu;rw [uA] at hu;simp [fK] at hu
 |cons b r ih=>
  intro d f a hu;rw [uA] at hu;simp only [fK,zf] at hu;rcases zk.1 hu with hu|hu
  ·obtain ⟨g,o,i,j,k⟩:=f b (by simp);unfold vK at hu;simp only [gY] at hu;rcases zk.1 hu with hu|hu
   ·unfold lV at hu;rw [aH (by rw [show aK (b.nm,(b.ts.length:Int))=aK (b.nm,0) from rfl,g];decide)] at hu;simp at hu;subst hu;rw [i];simp;omega
   ·exact aLa _ _ 1 (by omega) j k a hu
  ·exact ih _ (λn m=>f n (by simp [m])) a (by rw [uA];exact hu)
theorem aWt{ar:ByteArray->Bool×Int}{b:List Us}(a:∀c∈b,c.2=ar c.1/\c.2.2<=5):wJ b:=λi d=>⟨(a _ (zz d)).2,λf g e=>by
 rw [(a _ (zz d)).1,(a _ (zz (show f<b.length by omega))).1,e]⟩
theorem aLb:∀(a:List Lk) (b:List ByteArray),(fK b a).length=a.length
 |[],_=>rfl
 |x::r,b=>by simp [fK,aLb r]
theorem aLc{c:ByteArray->Bool×Int}:∀(a:List Lk) (b:List ByteArray),(∀x∈a,wS c x)->aS (fK b a)<=3*a.length
 |[],_,_=>by simp [fK,aS]
 |x::r,b,h=>by
  have:=aLc r (mJ b x.ts) (λe d=>h e (by simp [d]));have f:=(h x (by simp)).len;unfold aS at this ⊢;simp only [fK,List.map_cons,List.sum_cons,vK,zs,aH1];omega
theorem aWu(a:List Lk):0<(oL a).length:=by unfold oL;rw [zy,zi];omega
theorem aWv:∀a:List Lk,a.length<=(oL a).length:=by
 have b:∀a:List Lk,a.length<=(jJ a).length:=by
  intro a;induction a with
  |nil=>simp
  |cons x r ih=>
   have c:0<(nI x).length:=by have:=aH5 x;unfold nI;rw [zy];omega
   cases r with
   |nil=>simp [jJ];omega
   |cons y r=>
    simp only [jJ,zy,zs] at ih ⊢;omega
 intro a;unfold oL;cases a with
 |nil=>simp
 |cons x r=>
  have:=b (x::r);rw [zy];simp only at this ⊢;omega
theorem aWw(a:List (List Lk)):a.length<(qL a).length/\∀b∈a,b.length<=(qL a).length:=by
 unfold qL;rw [zy,zi];induction a with
 |nil=>simp
 |cons b r ih=>
  rw [zf,zy];have d:=aWu b;have e:=aWv b;refine ⟨by have:=ih.1;rw [zs];omega,λc hM=>?_⟩;rcases List.mem_cons.1 hM with rfl|hM
  ·omega
  ·have:=ih.2 c hM;omega
theorem aWx{ar:ByteArray->Bool×Int}{b:List (List Lk)}{u:List (List Lt)}{z p:Int}(g:nF s u z p)(a1:s.size<=3000)(hK:(dB s 0).map kt=qL b)(Z:b.length<=40)(k:∀a∈b,a.length<=8/\∀o∈a,wS ar o):u=b.map (λa=>aV (fK [] a))/\p=0:=by
 have W:(dB s 0).length=(qL b).length:=by rw [<-hK,zj]
 obtain ⟨V,H⟩:=aWw b;obtain ⟨y,f,c,j⟩:=aH7 (T:=dB s 0) b ((dB s 0).length+1) ⟨0,[],[]⟩ [] (λa d=>⟨by have:=H a d;omega,λo M=>((k a d).2 o M).kd⟩) (by omega) (by unfold At;simpa using hK);simp only [List.nil_append] at c;obtain ⟨R,Q,n,x,N,a4,-,-,-,O⟩:=aHy (aEt s (by omega)) (aBb s (by omega)) (aI1 s 0) _ _ _ _ _ c (by show 0<(dB s 0).length;omega);simp only [List.nil_append] at n x;subst x;have t:∀e∈f,∃a∈b,e.2=fK [] a:=λe m=>by
  have:e.2∈f.map zt:=List.mem_map_of_mem m;rw [j] at this;obtain ⟨a,d,c⟩:=zr.1 this;exact ⟨a,d,c.symm⟩
 rcases g with ⟨r,_⟩|⟨_,g⟩
 ·omega
 ·have I:uQ s=.ok (y,f):=c;rw [I] at g;obtain ⟨a3,r,D⟩:=g;have L:wJ (y.pz.map jP):=by
   rw [n,N];refine aWt (ar:=ar) λP i=>?_
   obtain ⟨e,m,i⟩:=List.mem_flatMap.1 i;obtain ⟨a,d,c⟩:=t e m;rw [c] at i;exact aWs a [] (k a d).2 P i
  rcases D with ⟨C,_⟩|⟨_,E⟩
  ·exact absurd L ((aWq r (by rw [n];exact O)).2 C)
  ·rcases E with ⟨a2,J,hbad,_⟩|⟨_,rfl,rfl,rfl⟩
   ·have U:f.length=b.length:=by
     have:=congrArg z0 j;simpa using this
    rcases hbad with hbad|hbad
    ·omega
    ·obtain ⟨a,d,c⟩:=t _ (zz J);rw [c] at hbad;obtain ⟨S,G⟩:=k a d;have a0:=aLb a [];have Y:=aLc a [] G;have X:(aV (fK [] a)).length<=(fK [] a).length/\aS (aV (fK [] a))<=aS (fK [] a):=by
      obtain ⟨A,B,_⟩:=mH (fK [] a);unfold aV;exact ⟨by rw [(pF _).1];exact A,by rw [aH0];exact B⟩
     have:bP (aV (fK [] a))=true:=by unfold bP;simp;omega
     rw [this] at hbad;cases hbad
   ·refine ⟨?_,rfl⟩;have:=congrArg (List.map aV) j;simpa [ze,Function.comp_def] using this
def fU(num:ByteArray->Int)(a:TT):Nd:=if a.1=118 then (⟨#[]⟩,num a.2) else (a.2,0)
def pU(num:ByteArray->Int)(x:Lk):Lt:=(x.neg,(x.nm,(x.ts.length:Int))::x.ts.map (fU num))
theorem aWy{c:ByteArray}(a:jQ l c<0):c∉l:=by
 have f:∀b:List ByteArray,pS b c<0->c∉b:=by
  intro b;induction b with
  |nil=>intro _;simp
  |cons y r ih=>
   intro a;unfold pS at a;split at a
   ·omega
   ·rename_i e;simp only [List.mem_cons,not_or];exact ⟨λd=>e d.symm,ih a⟩
 have:=f l.reverse a;simpa using this
theorem aWz{b:ByteArray}(a:¬jQ l b<0):l[(jQ l b).toNat]?=some b:=by
 have e:∀c:List ByteArray,¬pS c b<0->c.reverse[(pS c b).toNat]?=some b:=by
  intro c;induction c with
  |nil=>intro a;simp [pS] at a
  |cons y r ih=>
   intro a;rw [List.reverse_cons];unfold pS at a ⊢;split
   ·rename_i d;subst d;simp
   ·rename_i d;rw [aH d] at a;have:=ih a;rw [zm (zx.1 this).1];exact this
 have:=e l.reverse a;rwa [List.reverse_reverse] at this
theorem aX0(a:ByteArray)(e:l.Nodup):(kP l a).Nodup/\(∃j,kP l a=l++j)/\0<=jZ l a/\(kP l a)[(jZ l a).toNat]?=some a/\∀b∈kP l a,b∈l\/b=a:=by
 unfold kP jZ;split
 ·rename_i c;have i:=aWy c;refine ⟨?_,⟨_,rfl⟩,by omega,by simp,λb d=>by simpa using d⟩;rw [List.nodup_append];refine ⟨e,by simp,λk g m f=>?_⟩;simp at f;subst f;rintro rfl;exact i g
 ·rename_i c;exact ⟨e,⟨[],by simp⟩,by omega,aWz c,λb d=>z1 d⟩
def VN(num:ByteArray->Int)(F:List ByteArray)(c d:Int):Prop:=∃(a:Nat) (b:ByteArray),c=a/\F[a]?=some b/\d=num b
theorem VN.pairs{d:ByteArray->Int}(j:F.Nodup)(k:∀b∈F,∀f∈F,d b=d f->b=f):mV (VN d F):=by
 rintro p t r u ⟨m,b,rfl,c,rfl⟩ ⟨n,o,rfl,a,rfl⟩;constructor
 ·intro e;obtain rfl:m=n:=by omega
  rw [c] at a;cases a;rfl
 ·intro e;obtain rfl:=k b (zh c) o (zh a) e;obtain ⟨x,g⟩:=zx.1 c;obtain ⟨y,i⟩:=zx.1 a;rw [(List.getElem_inj j).1 (g.trans i.symm)]
theorem VN.mono{num:ByteArray->Int}(m:List ByteArray){a b:Int}(d:VN num F a b):VN num (F++m) a b:=by obtain ⟨k,x,rfl,c,rfl⟩:=d;exact ⟨k,x,rfl,by rw [zm (zx.1 c).1];exact c,rfl⟩
theorem aX1{num:ByteArray->Int}(b:List ByteArray){l a:List Nd}(h:aP (fX (VN num F)) l a):aP (fX (VN num (F++b))) l a:=by
 induction h with
 |nil=>exact aP.nil
 |cons h _ ih=>
  refine aP.cons ?_ ih;rcases h with ⟨c,d,e,f⟩|h
  ·exact z1 ⟨c,d,e,f.mono b⟩
  ·exact z4 h
def aB0(b:List ByteArray)(c:List TT):Prop:=∀a∈c,a.1=118->a.2∈b
theorem aLd{num:ByteArray->Int}{g:List ByteArray}:∀(b:List TT) (a:List ByteArray),a.Nodup->(∀c∈a,c∈g)->aB0 g b->(∀t∈b,t.1=110->aK (t.2,0)=false)->sM b->(mJ a b).Nodup/\(∃j,mJ a b=a++j)/\(∀c∈mJ a b,c∈g)/\aP (fX (VN num (mJ a b))) (qK a b) (b.map (fU num))
 |[],a,h,hv,_,_,_=>⟨h,⟨[],by simp [mJ]⟩,hv,aP.nil⟩
 |t::r,a,h,hv,hi,hc,hk=>by
  have i:(nG a t).Nodup/\(∃j,nG a t=a++j)/\(∀c∈nG a t,c∈g)/\fX (VN num (nG a t)) (pI a t) (fU num t):=by
   unfold nG pI fU;rcases hk t (by simp) with e|e
   ·rw [aI e,aI e,aI e];obtain ⟨n,o,L,p,u⟩:=aX0 t.2 h;exact ⟨n,o,λc I=>by
     rcases u c I with h|rfl
     ·exact hv c h
     ·exact hi t (by simp) e,z1 ⟨uR _,uR _,rfl,_,t.2,by simp;omega,p,rfl⟩⟩
   ·rw [aH (by omega),aH (by omega),aH (by omega)];exact ⟨h,⟨[],by simp⟩,hv,z4 ⟨hc t (by simp) e,rfl⟩⟩
  obtain ⟨x,⟨J,y⟩,z,A⟩:=i;obtain ⟨B,⟨m,k⟩,C,D⟩:=aLd (num:=num) r (nG a t) x z (λf d=>hi f (by simp [d])) (λf d=>hc f (by simp [d])) (λf d=>hk f (by simp [d]));have e:mJ a (t::r)=mJ (nG a t) r:=rfl;rw [e];refine ⟨B,⟨J++m,by rw [k,y,zd]⟩,C,?_⟩;refine aP.cons ?_ D;rw [k];rcases A with ⟨i,E,G,H⟩|h
  ·exact z1 ⟨i,E,G,H.mono m⟩
  ·exact z4 h
theorem aLe{n:ByteArray->Bool×Int}{num:ByteArray->Int}{d:List ByteArray}:∀(c:List Lk) (a:List ByteArray),a.Nodup->(∀b∈a,b∈d)->(∀x∈c,wS n x/\aB0 d x.ts)->∃F,F.Nodup/\(∃B,F=a++B)/\(∀b∈F,b∈d)/\aP (jT (VN num F)) (fK a c) (c.map (pU num))
 |[],a,h,hv,_=>⟨a,h,⟨[],by simp⟩,hv,aP.nil⟩
 |x::r,a,h,hv,hL=>by
  obtain ⟨e,A⟩:=hL x (by simp);obtain ⟨i,⟨C,j⟩,k,m⟩:=aLd (num:=num) x.ts a h hv A (λD y u=>(e.con D y u).1) e.kd;obtain ⟨F,o,⟨g,f⟩,p,t⟩:=aLe (num:=num) r (mJ a x.ts) i k (λb z=>hL b (by simp [z]));refine ⟨F,o,⟨C++g,by rw [f,j,zd]⟩,p,aP.cons ⟨rfl,?_⟩ t⟩;rw [f];exact aP.cons (z4 ⟨e.nm,rfl⟩) (aX1 g m)
theorem aX2{ar:ByteArray->Bool×Int}{num:ByteArray->Int}{V:List ByteArray}(i:∀a∈V,∀b∈V,num a=num b->a=b){c:List Lk}(g:∀a∈c,wS ar a/\aB0 V a.ts):aV (fK [] c)=aV (c.map (pU num)):=by obtain ⟨F,e,_,d,f⟩:=aLe (num:=num) c [] (by simp) (by simp) g;exact aF2 (VN.pairs e λa j b k=>i a (d a j) b (d b k)) f
theorem aEc(a:ByteArray):(⟨#[]⟩ : ByteArray)++a=a:=by rw [show (⟨#[]⟩ : ByteArray)=ByteArray.empty from rfl];simp
theorem uS(a:ByteArray):a++(⟨#[]⟩ : ByteArray)=a:=by rw [show (⟨#[]⟩ : ByteArray)=ByteArray.empty from rfl];simp
def eM(c:Int)(a:Nat):Nat:=(Int.tmod (if c<0 then -(c+1) else c) a).toNat
theorem aLf(a:Int){b:Nat}(d:0<b):eM a b<b:=by
 unfold eM;have c:(0:Int)<=(if a<0 then -(a+1) else a):=by split<;>omega
 have e:=Int.tmod_nonneg (b:Int) c;have f:=Int.tmod_lt_of_pos (if a<0 then -(a+1) else a) (show (0:Int)<b by omega);omega
def pV:Nat->UInt8
 |0=>88
 |1=>89
 |2=>97
 |_=>98
def oA(c:Int):ByteArray:=⟨#[pV (eM c 4)]⟩
def dH(c:Int):TT:=(if eM c 4<2 then 118 else 110,oA c)
def qR(a:Rl):ByteArray:=if eM a.2.1 2=0 then (⟨#[112,40]⟩++oA a.2.2.1)++⟨#[41]⟩ else (((⟨#[113,40]⟩++oA a.2.2.1)++⟨#[44,32]⟩)++oA a.2.2.2)++⟨#[41]⟩
def qS(a:Bool):ByteArray:=if a then ⟨#[126]⟩ else ⟨#[]⟩
def uT(a:Rl):ByteArray:=qS a.1++qR a
def uU(a:Bool):ByteArray:=if a then ⟨#[]⟩ else ⟨#[32,124,32]⟩
def iE:Bool->List Rl->ByteArray
 |_,[]=>⟨#[]⟩
 |b,x::r=>uU b++(uT x++iE false r)
theorem aLg(b:Rl):∀(l:List Rl) (a:Bool),iE a (l++[b])=iE a l++(uU (a && l.isEmpty)++uT b)
 |[],a=>by simp [iE,aEc,uS]
 |y::r,a=>by simp [iE,aLg b r,ByteArray.append_assoc]
def qT(a:List Rl):ByteArray:=((if a.isEmpty then ⟨#[36,102,97,108,115,101]⟩ else ⟨#[]⟩)++iE true a)++⟨#[46,32]⟩
def gQ:List (List Rl)->ByteArray
 |[]=>⟨#[]⟩
 |c::r=>qT c++gQ r
theorem aLh(a:List Rl):∀l:List (List Rl),gQ (l++[a])=gQ l++qT a
 |[]=>by simp [gQ,aEc,uS]
 |y::r=>by simp [gQ,aLh a r,ByteArray.append_assoc]
def gI(x:Rl):Lk:=⟨x.1,if eM x.2.1 2=0 then ⟨#[112]⟩ else ⟨#[113]⟩,if eM x.2.1 2=0 then [dH x.2.2.1] else [dH x.2.2.1,dH x.2.2.2]⟩
theorem aX3(a:Rl):(qR a).size<=7/\0<(qR a).size:=by
 unfold qR;split
 ·exact ⟨show 4<=7 by omega,show 0<4 by omega⟩
 ·exact ⟨show 7<=7 by omega,show 0<7 by omega⟩
theorem aB1:∀(l:List Rl) (a:Bool),(iE a l).size<=11*l.length
 |[],a=>zp 0
 |x::r,a=>by
  have b:=aB1 r false;have c:=(aX3 x).1;have d:(qS x.1).size<=1:=by unfold qS;split<;>decide
  have e:(uU a).size<=3:=by unfold uU;split<;>decide
  simp only [iE,uT,ByteArray.size_append,zs];omega
theorem aX4(a:List Rl)(b:a.length<=4):(qT a).size<=52:=by
 have c:=aB1 a true;have d:(if a.isEmpty then (⟨#[36,102,97,108,115,101]⟩ : ByteArray) else ⟨#[]⟩).size<=6:=by split<;>decide
 have e:(⟨#[46,32]⟩ : ByteArray).size=2:=rfl;simp only [qT,ByteArray.size_append];omega
theorem aB2:∀(l:List (List Rl)),(∀c∈l,c.length<=4)->(gQ l).size<=52*l.length
 |[],_=>zp 0
 |c::r,h=>by
  have d:=aB2 r (λa b=>h a (by simp [b]));have e:=aX4 c (h c (by simp));simp only [gQ,ByteArray.size_append,zs];omega
theorem aX5(a:Nat):(eK (pV a).toNat || dO (pV a).toNat)=true/\dO (pV a).toNat=decide (a<2):=by
 match a with
 |0=>exact ⟨rfl,rfl⟩
 |1=>exact ⟨rfl,rfl⟩
 |2=>exact ⟨rfl,rfl⟩
 |n+3=>exact ⟨rfl,by simp [pV];rfl⟩
theorem aEd{c:Int}{b:UInt8}(a:eN s q ⟨#[pV (eM c 4),b]⟩)(i:fD b.toNat=false):gW s q (q+1) [dH c]:=by have k:q+2<=s.size:=a.le;have f:aE s q=(pV (eM c 4)).toNat:=a.byte 0 (by show 0<2;omega);have g:aE s (q+1)=b.toNat:=a.byte 1 (by show 1<2;omega);have j:s.extract q (q+1)=oA c:=a.cut 0 1 (by show 1<=2;omega);obtain ⟨d,e⟩:=aX5 (eM c 4);have:=aGx (by omega) f d (by rw [g];exact i);rw [e,j] at this;simpa [dH] using this
theorem aLi{a c:UInt8}(b:eN s q ⟨#[a,c]⟩)(g:(eK a.toNat || dO a.toNat)=true)(i:c=40):gW s q (q+2) [(if dO a.toNat then 118 else 110,⟨#[a]⟩),(40,dP)]:=by subst i;have k:q+2<=s.size:=b.le;have f:aE s q=a.toNat:=b.byte 0 (by show 0<2;omega);have d:aE s (q+1)=40:=b.byte 1 (by show 1<2;omega);have j:s.extract q (q+1)=⟨#[a]⟩:=b.cut 0 1 (by show 1<=2;omega);have e:=aGx (by omega) f g (by rw [d];rfl);rw [j] at e;exact e.trans (tZ (q:=q+1) (by omega) d rfl)
theorem aX6{a:Rl}(b:eN s q (qR a)):gW s q (q+(qR a).size) (nH (gI a)):=by
 unfold qR at b ⊢;split
 ·rename_i e;rw [aI e] at b;have f:(⟨#[112,40]⟩++oA a.2.2.1++⟨#[41]⟩ : ByteArray).size=4:=rfl;have i:eN s q ⟨#[112,40]⟩:=b.left.left;have d:eN s (q+2) ⟨#[pV (eM a.2.2.1 4),41]⟩:=by
   rw [ByteArray.append_assoc] at b;exact b.right
  rw [f];have k:=aLi i rfl rfl;have m:=aEd d rfl;have n:=tZ (s:=s) (q:=q+3) (c:=41) (by have:q+2+2<=s.size:=d.le;omega) (d.byte 1 (by show 1<2;omega)) rfl;have g:nH (gI a)=[(110,⟨#[112]⟩),(40,dP),dH a.2.2.1,(41,dP)]:=by unfold nH gI;simp only [aI e,rF]
  rw [g];exact (k.trans m).trans n
 ·rename_i e;rw [aH e] at b;have f:(⟨#[113,40]⟩++oA a.2.2.1++⟨#[44,32]⟩++oA a.2.2.2++⟨#[41]⟩ : ByteArray).size=7:=rfl;have i:eN s q ⟨#[113,40]⟩:=b.left.left.left.left;have d:eN s (q+2) ⟨#[pV (eM a.2.2.1 4),44]⟩:=by
   have:=b.left.left;rw [ByteArray.append_assoc] at this;exact eN.left (y:=⟨#[32]⟩) this.right
  have o:eN s (q+3) ⟨#[44,32]⟩:=b.left.left.right;have j:eN s (q+5) ⟨#[pV (eM a.2.2.2 4),41]⟩:=by rw [ByteArray.append_assoc] at b;exact b.right
  rw [f];have u:q+7<=s.size:=j.le;have k:=aLi i rfl rfl;have m:=aEd d rfl;have n:=tZ (s:=s) (q:=q+3) (c:=44) (by omega) (o.byte 0 (by show 0<2;omega)) rfl;have p:=aA1 (s:=s) (q:=q+4) (by omega) (by rw [show aE s (q+4)=32 from o.byte 1 (by show 1<2;omega)];rfl);have r:=aEd j rfl;have t:=tZ (s:=s) (q:=q+6) (c:=41) (by omega) (j.byte 1 (by show 1<2;omega)) rfl;have g:nH (gI a)=[(110,⟨#[113]⟩),(40,dP),dH a.2.2.1,(44,dP),dH a.2.2.2,(41,dP)]:=by unfold nH gI;simp only [aH e,rF]
  rw [g];exact ((((k.trans m).trans n).trans p).trans r).trans t
theorem aX7{a:Rl}(c:eN s q (uT a)):gW s q (q+(uT a).size) (nI (gI a)):=by
 unfold uT at c ⊢;unfold nI;rw [ByteArray.size_append,<-zu];refine gW.trans ?_ (aX6 c.right);have d:=c.left;have e:(gI a).neg=a.1:=rfl;rw [e];generalize a.1=b at d ⊢;cases b with
 |true=>exact tZ (by have:q+1<=s.size:=d.le;omega) (d.byte 0 (by show 0<1;omega)) rfl
 |false=>exact yC
theorem aX8(a:eN s q ⟨#[32,124,32]⟩):gW s q (q+3) [(124,dP)]:=by have f:q+3<=s.size:=a.le;have b:=aA1 (s:=s) (q:=q) (by omega) (by rw [show aE s q=32 from a.byte 0 (by show 0<3;omega)];rfl);have d:=tZ (s:=s) (q:=q+1) (c:=124) (by omega) (a.byte 1 (by show 1<3;omega)) rfl;have e:=aA1 (s:=s) (q:=q+2) (by omega) (by rw [show aE s (q+2)=32 from a.byte 2 (by show 2<3;omega)];rfl);exact (b.trans d).trans e
theorem aLj{s:ByteArray}:∀(l:List Rl) (q:Nat) (a:Bool),eN s q (iE a l)->gW s q (q+(iE a l).size) ((if a || l.isEmpty then [] else [(124,dP)])++jJ (l.map gI))
 |[],q,a,h=>by
  have:(iE a []).size=0:=rfl;rw [this];simp [jJ];exact yC
 |x::r,q,a,h=>by
  simp only [iE] at h ⊢;rw [ByteArray.size_append,ByteArray.size_append,<-zu,<-zu];have c:gW s q (q+(uU a).size) (if a then [] else [(124,dP)]):=by
   have b:=h.left;unfold uU at b ⊢;cases a with
   |true=>exact yC
   |false=>exact aX8 b
  have d:=aX7 h.right.left;have e:=aLj r _ false h.right.right;have:=(c.trans d).trans e;cases r with
  |nil=>simpa [jJ] using this
  |cons y r=>simpa [jJ] using this
theorem aX9{a:UInt8}(b:eN s q ⟨#[46,a]⟩)(d:lI a.toNat=true):gW s q (q+2) [(46,dP)]:=by have g:q+2<=s.size:=b.le;have e:=tZ (s:=s) (q:=q) (c:=46) (by omega) (b.byte 0 (by show 0<2;omega)) rfl;have f:=aA1 (s:=s) (q:=q+1) (by omega) (by rw [show aE s (q+1)=a.toNat from b.byte 1 (by show 1<2;omega)];exact d);exact e.trans f
theorem aXa{a:List Rl}(b:eN s q (qT a)):gW s q (q+(qT a).size) (oL (a.map gI)):=by
 unfold qT at b ⊢;rw [ByteArray.size_append,ByteArray.size_append,<-zu,<-zu];have d:=b.right;rw [ByteArray.size_append,<-zu] at d;have e:=aX9 d rfl;have f:=aLj a _ true b.left.right;have g:=b.left.left;cases a with
 |nil=>
  have c:=aQ7 g;exact (c.trans f).trans e
 |cons x r=>
  have c:gW s q (q+(if (x::r).isEmpty then (⟨#[36,102,97,108,115,101]⟩ : ByteArray) else ⟨#[]⟩).size) []:=yC;exact (c.trans f).trans e
theorem aLk{s:ByteArray}:∀(l:List (List Rl)) (q:Nat),eN s q (gQ l)->gW s q (q+(gQ l).size) ((l.map (List.map gI)).flatMap oL)
 |[],q,h=>yC
 |c::r,q,h=>by
  simp only [gQ] at h ⊢;rw [ByteArray.size_append,<-zu];exact (aXa h.left).trans (aLk r _ h.right)
theorem aXb(l:List (List Rl)):(dB (gQ l) 0).map kt=qL (l.map (List.map gI)):=by obtain ⟨c,b,a⟩:=aLk (s:=gQ l) l 0 ⟨⟨#[]⟩,⟨#[]⟩,by rw [aEc,uS],rfl⟩;rw [Nat.zero_add,aQ6] at a;rw [a,List.map_append,b];rfl
def arR(a:ByteArray):Bool×Int:=if a=⟨#[112]⟩ then (true,1) else if a=⟨#[113]⟩ then (true,2) else (false,0)
theorem aEe(a:Int):(eM a 4=0/\dH a=(118,⟨#[88]⟩))\/(eM a 4=1/\dH a=(118,⟨#[89]⟩))\/(eM a 4=2/\dH a=(110,⟨#[97]⟩))\/(eM a 4=3/\dH a=(110,⟨#[98]⟩)):=by
 have b:=aLf a (show 0<4 by omega);unfold dH oA;obtain e|e|e|e:eM a 4=0\/eM a 4=1\/eM a 4=2\/eM a 4=3:=by omega
 all_goals rw [e];simp [pV]
def wT:List ByteArray:=[⟨#[88]⟩,⟨#[89]⟩]
theorem aLl(a:Int):((dH a).1=118\/(dH a).1=110)/\((dH a).1=110->aK ((dH a).2,0)=false/\arR (dH a).2=(false,0))/\((dH a).1=118->(dH a).2∈wT):=by
 rcases aEe a with ⟨_,c⟩|⟨_,c⟩|⟨_,c⟩|⟨_,c⟩;all_goals rw [c]
 ·exact ⟨z1 rfl,λb=>absurd b (by decide),λ_=>by simp [wT]⟩
 ·exact ⟨z1 rfl,λb=>absurd b (by decide),λ_=>by simp [wT]⟩
 ·exact ⟨z4 rfl,λ_=>⟨by kernel_rfl,by kernel_rfl⟩,λb=>absurd b (by decide)⟩
 ·exact ⟨z4 rfl,λ_=>⟨by kernel_rfl,by kernel_rfl⟩,λb=>absurd b (by decide)⟩
theorem aLm(c:Rl):wS arR (gI c)/\aB0 wT (gI c).ts:=by
 obtain ⟨d,e,f⟩:=aLl c.2.2.1;obtain ⟨g,i,j⟩:=aLl c.2.2.2;unfold gI;split
 ·refine ⟨⟨by kernel_rfl,by simp,by kernel_rfl,?_,?_⟩,?_⟩
  ·intro b a;simp at a;subst a;exact d
  ·intro b a;simp at a;subst a;exact e
  ·intro b a;simp at a;subst a;exact f
 ·refine ⟨⟨by kernel_rfl,by simp,by kernel_rfl,?_,?_⟩,?_⟩
  ·intro b a;simp at a;rcases a with rfl|rfl;exact d;exact g
  ·intro b a;simp at a;rcases a with rfl|rfl;exact e;exact i
  ·intro b a;simp at a;rcases a with rfl|rfl;exact f;exact j
def fF(x:ByteArray):Int:=if x=⟨#[88]⟩ then 0 else 1
def qU(a:List Rl):List Lt:=aV (a.map λx=>pU fF (gI x))
theorem aXc{l:List (List Rl)}{i:List (List Lt)}{k e:Int}(m:nF (gQ l) i k e)(t:l.length<=40)(f:∀a∈l,a.length<=4):i=l.map qU/\e=0:=by
 have x:=aB2 l f;obtain ⟨n,o⟩:=aWx (ar:=arR) m (by omega) (aXb l) (by simpa using t) (λu p=>by
  obtain ⟨a,r,rfl⟩:=zr.1 p;refine ⟨by have:=f a r;simp;omega,λj b=>?_⟩;obtain ⟨c,_,rfl⟩:=zr.1 b;exact (aLm c).1)
 refine ⟨?_,o⟩;rw [n,ze];refine List.map_congr_left λa _=>?_
 show aV (fK [] (a.map gI))=qU a;rw [aX2 (ar:=arR) (num:=fF) (V:=wT) ?_ (λj b=>by obtain ⟨c,_,rfl⟩:=zr.1 b;exact aLm c)]
 ·unfold qU;rw [ze];rfl
 ·intro j b c g d;simp [wT] at b g;rcases b with rfl|rfl<;>rcases g with rfl|rfl
  ·rfl
  ·exact absurd d (by decide)
  ·exact absurd d (by decide)
  ·rfl
theorem aB4(b:Int)(a:Nat)(j:lE b)(u:1<=a)(x:a<=1000)(w:World):Calls zn 8 #[.int .i64 b,.int .i64 a] w λi n=>(∃c:Nat,i=.returned (.int .i64 c)/\c=eM b a/\c<a)/\n=w:=by
 obtain ⟨r,t⟩:=j;have y:(a:Int)≠0:=by omega
 have z:((a:Int)==0)=false:=by simp;omega
 have f:=aLf b (show 0<a by omega);have g:∀d:Int,0<=d->Int.tmod d a=((Int.tmod d a).toNat:Int):=λd k=>by
  have o:=Int.tmod_nonneg (a:Int) k;omega
 by_cases e:b<0
 ·have m:Int.tmod (-(b+1)) a=(eM b a:Int):=by
   rw [g _ (by omega)];unfold eM;rw [aI e]
  generalize eM b a=c at *;go_enter Tryz.func8,Tryz.ntmps8;go_wp2;go_ret;exact ⟨⟨c,rfl,rfl,f⟩,rfl⟩
 ·have p:decide (b<0)=false:=by simpa using e
  have m:Int.tmod b a=(eM b a:Int):=by rw [g _ (by omega)];unfold eM;rw [aH e]
  generalize eM b a=c at *;go_enter Tryz.func8,Tryz.ntmps8;go_wp2;go_ret;exact ⟨⟨c,rfl,rfl,f⟩,rfl⟩
theorem aXd(a:Int)(e:lE a)(w:World):Calls zn 15 #[.int .i64 a] w λd n=>(∃s:ByteArray,d=.returned (.string s)/\s=oA a/\s.size=1)/\aB w n:=by
 have i:=aA (λc=>aB4 a 4 e (by omega) (by omega) c);have j:=aA (λm=>(Below.refl w.heap.size w).alloc (zp _) m);clear e;go_enter Tryz.func15,Tryz.ntmps15;go_wp2_with (first
  |(go_at_call 8;refine (aD i _).mono ?_;rintro d c ⟨⟨b,rfl,f,o⟩,g⟩;rw [g];clear g c;have k:=aA f;clear f;obtain rfl|rfl|rfl|rfl:b=0\/b=1\/b=2\/b=3:=by omega)
  |go_in)
 all_goals
  go_ret;exact ⟨⟨_,rfl,(by unfold oA;rw [<-k.o];rfl),rfl⟩,j.o _⟩
structure aEf(w:World)(a:Option Addr)(X:List (Value×List Rl)):Prop where
 cell:∀k (h:k<X.length),∃g,a=some ⟨g,0,none⟩/\w.cell? ⟨g,k,none⟩=some X[k].1
 raw:∀k (h:k<X.length),∃ra rc,X[k].1=.slice ra X[k].2.length rc/\mL w ra X[k].2
theorem aXe(c:ByteArray)(b:List Rl)(a:Nat)(e:a<b.length):c++iE true (b.take (a+1))=c++iE true (b.take a)++(if 0<a then ⟨#[32,124,32]⟩ else ⟨#[]⟩)++qS b[a].1++qR b[a]:=by
 rw [zw e,aLg];have:uU (true && (b.take a).isEmpty)=if 0<a then ⟨#[32,124,32]⟩ else ⟨#[]⟩:=by
  by_cases d:0<a
  ·rw [aI d];have:(b.take a).isEmpty=false:=by
    cases he:(b.take a).isEmpty with
    |false=>rfl
    |true=>
     rw [List.isEmpty_iff] at he;have:=congrArg z0 he;rw [zq,List.length_nil] at this;omega
   rw [this];rfl
  ·rw [aH d];obtain rfl:a=0:=by omega
   rfl
 rw [this];simp [uT,ByteArray.append_assoc]
theorem aXf(l:List (List Rl))(a:Nat)(b:a<l.length):gQ (l.take (a+1))=gQ (l.take a)++qT l[a]:=by rw [zw b,aLh]
def fT(a:Nat):ByteArray:=if a=0 then ⟨#[36,102,97,108,115,101]⟩ else ⟨#[]⟩
theorem aXg(a:List Rl):qT a=fT a.length++iE true a++⟨#[46,32]⟩:=by unfold qT fT;cases a<;>rfl
theorem aXh(b7:Option Addr)(f3:Nat)(c:List (Value×List Rl))(w:World)(c8:aEf w b7 c)(h5:c.length<=40)(c6:∀G∈c,G.2.length<=4):Calls zn 10 #[.slice b7 c.length f3] w λi P=>i=.returned (.string (gQ (c.map zt)))/\aB w P:=by
 have b6:=aA c8;have b0:=aA c6;have a8:=aA (λ(x:Int) (j:lE x) b=>aB4 x 2 j (by omega) (by omega) b);have R:=aA (λ(x:Int) (j:lE x) b=>aXd x j b);clear c8 c6;go_enter Tryz.func10,Tryz.ntmps10;go_wp2;go_loopw [3,4] (λk a2 wr=>∃(d:Nat),k=.string (gQ ((c.map zt).take d))/\a2=.int .i64 d/\d<=c.length/\aB w wr) (λ_ a2 _=>c.length-(intOf a2).toNat);case atStart=>exact ⟨0,rfl,rfl,by omega,Below.refl _ _⟩
 case round=>
  obtain ⟨d,rfl,rfl,h2,e⟩:=hrel;by_cases L:d<c.length
  ·obtain ⟨g8,rfl,j⟩:=b6.o.cell d L;obtain ⟨i4,i5,d6,d2⟩:=b6.o.raw d L;have h7:=b0.o _ (zz L);have h3:(d:Int)<(c.length:Int):=by omega
   rw [d6] at j;have A:=aA (aXf (c.map zt) d (by simpa using L));rw [zv] at A;have c7:(gQ ((c.map zt).take d)).size<=2080:=by
    have:=aB2 ((c.map zt).take d) (λx j=>by
     obtain ⟨G,D,rfl⟩:=zr.1 (zg j);exact b0.o G D)
    have g9:((c.map zt).take d).length<=40:=by rw [zq];omega
    omega
   obtain ⟨Y,b2⟩ : ∃Y,aM (gQ ((c.map zt).take (d+1))=Y):=⟨_,aA rfl⟩;rw [b2.o] at A;generalize gQ ((c.map zt).take d)=S at A c7 ⊢;generalize c[d].2=l at *;have g7:=aC e j;have b4:=aA d2;have T:=aA e;clear e d6 d2;go_upto_if 18 with (fail);go_cut [3] (λk b=>k=.string (S++fT l.length)/\b=wr);case first=>
    by_cases Z:l.length=0
    ·have f4:((l.length:Int)==0)=true:=by simp [Z]
     go_wp2;go_meet;case rel=>exact ⟨by unfold fT;rw [aI Z],rfl⟩
    ·have f4:((l.length:Int)==0)=false:=zU (by omega);go_wp2;go_meet;case rel=>exact ⟨by unfold fT;rw [aH Z,uS],rfl⟩
   case rest=>
    obtain ⟨rfl,rfl⟩:=hcut;have f5:(S++fT l.length).size<=2086:=by
     have:(fT l.length).size<=6:=by unfold fT;split<;>decide
     rw [ByteArray.size_append];omega
    have X:aM (Y=(S++fT l.length)++iE true l++⟨#[46,32]⟩):=aA (by rw [A.o,aXg];simp [ByteArray.append_assoc]);generalize S++fT l.length=S1 at f5 X ⊢;clear A c7;go_wp2;go_loopw [3,5] (λk a3 wr=>∃(a:Nat),k=.string (S1++iE true (l.take a))/\a3=.int .i64 a/\a<=l.length/\aB w wr) (λ_ a3 _=>l.length-(intOf a3).toNat);case atStart=>exact ⟨0,by rw [List.take_zero];exact congrArg Value.string (uS S1).symm,rfl,Nat.zero_le _,T.o⟩
    case round=>
     obtain ⟨a,rfl,rfl,h0,e⟩:=hrel;have f2:=aC e j;by_cases a0:a<l.length
     ·obtain ⟨g6,i3,rfl,b8,b9,c0,c1⟩:=b4.o.cell a a0;obtain ⟨a4,a5,a6⟩:=b4.o.rng a a0;have c2:=aC e b8;have c3:=aC e b9;have c4:=aC e c0;have c5:=aC e c1;have h1:(a:Int)<(l.length:Int):=by omega
      have f9:=e.size;have U:=aA e;have u:=aA (aXe S1 l a a0);have M:(S1++iE true (l.take a)).size<=2200:=by have:=aB1 (l.take a) true;rw [zq] at this;rw [ByteArray.size_append];omega
      obtain ⟨e2,W⟩ : ∃e2,aM (e2=S1++iE true (l.take (a+1))):=⟨_,aA rfl⟩;rw [<-W.o] at u;generalize S1++iE true (l.take a)=t at u M ⊢;generalize l[a]=G at *;obtain ⟨o,Q,y,z⟩:=G;simp only at c2 c3 c4 c5 a4 a5 a6;have e4:=aA (λb=>aD a8 Q a4 b);have a9:=aA (λb=>aD R y a5 b);have e5:=aA (λb=>aD R z a6 b);clear b8 b9 c0 c1 e a4 a5 a6 a8 R;go_upto_region 11 with (fail);obtain ⟨g,d9,c9,E⟩ : ∃g,wr.alloc (.cells #[.bool o,.int .i64 Q,.int .i64 y,.int .i64 z] 38)=g/\aB wr g/\g.heap[wr.heap.size]?=some (.cells #[.bool o,.int .i64 Q,.int .i64 y,.int .i64 z] 38 (0,0)):=⟨_,rfl,(Below.refl _ wr).alloc (zp _) _,(by show (wr.heap.push _)[wr.heap.size]?=_;simp)⟩;simp only [d9];have g0:g.cell? ⟨wr.heap.size,0,none⟩=some (.bool o):=by simp [zl,E]
      have g1:g.cell? ⟨wr.heap.size,1,none⟩=some (.int .i64 Q):=by simp [zl,E]
      have g2:g.cell? ⟨wr.heap.size,2,none⟩=some (.int .i64 y):=by simp [zl,E]
      have g3:g.cell? ⟨wr.heap.size,3,none⟩=some (.int .i64 z):=by simp [zl,E]
      have b1:=aA (U.o.trans (c9.mono f9));clear d9 E c9 c2 c3 c4 c5 f2;go_upto_if 38 with (fail);go_cut [3] (λk b=>k=.string (t++(if 0<a then ⟨#[32,124,32]⟩ else ⟨#[]⟩))/\b=g);case first=>
       by_cases J:0<a
       ·have f6:(0:Int)<(a:Int):=by omega
        have f7:decide (0<a)=true:=fA J;go_wp2;go_meet;case rel=>exact ⟨by rw [aI J],rfl⟩
       ·have f6:decide ((0:Int)<(a:Int))=false:=by rw [decide_eq_false_iff_not];omega
        have f7:decide (0<a)=false:=gB J;go_wp2;go_meet;case rel=>exact ⟨by rw [aH J,uS],rfl⟩
      case rest=>
       obtain ⟨rfl,C⟩:=hcut;rw [C];clear C;have d3:(t++(if 0<a then ⟨#[32,124,32]⟩ else ⟨#[]⟩)).size<=2210:=by
        have:(if 0<a then (⟨#[32,124,32]⟩ : ByteArray) else ⟨#[]⟩).size<=3:=by split<;>decide
        rw [ByteArray.size_append];omega
       generalize t++(if 0<a then ⟨#[32,124,32]⟩ else ⟨#[]⟩)=N at u d3 ⊢;go_upto_if 42 with (fail);go_cut [3] (λk b=>k=.string (N++qS o)/\b=g);case first=>
        cases o
        ·go_wp2;go_meet;case rel=>exact ⟨by rw [show qS false=⟨#[]⟩ from rfl,uS],rfl⟩
        ·go_wp2;go_meet;case rel=>exact ⟨rfl,rfl⟩
       case rest=>
        obtain ⟨rfl,C⟩:=hcut;rw [C];clear C;have a1:(N++qS o).size<=2220:=by
         have:(qS o).size<=1:=by unfold qS;split<;>decide
         rw [ByteArray.size_append];omega
        generalize N++qS o=t1 at u a1 ⊢;clear M d3;go_wp2_with (first
         |(go_at_call 8;refine (aD e4 _).mono ?_;rintro i b ⟨⟨e1,rfl,d1,h4⟩,e0⟩;rw [e0];clear e0 b;have b3:=aA d1;clear d1;obtain rfl|rfl:e1=0\/e1=1:=by omega)
         |(go_at_call 15;refine (aD a9 _).mono ?_;rintro i n ⟨⟨m,rfl,d4,h6⟩,p⟩;have e9:=aA d4;have V:=aA (bD b1.o p);clear p d4)
         |go_in)
        ·go_roundw;case rel=>exact ⟨a+1,(by rw [<-W.o,u.o];unfold qR;rw [aI b3.o.symm,e9.o];simp [ByteArray.append_assoc]),by go_num,by omega,V.o⟩
         case measure=>simp [intOf];omega
        ·have e6:=aA (λ(b:World) (D:∃r,b=g.drewN r)=>(a9.o b).mono (R':=λi n=>(∃m:ByteArray,i=.returned (.string m)/\m=oA y/\m.size=1)/\aB g n) (λi n B=>by obtain ⟨r,rfl⟩:=D;exact ⟨B.1,(aR ⟨r,rfl⟩).trans B.2⟩));have e7:=aA (λ(n b:World) (D:∃r,b=n.drewN r)=>(e5.o b).mono (R':=λi a7=>(∃m:ByteArray,i=.returned (.string m)/\m=oA z/\m.size=1)/\aB n a7) (λi a7 B=>by obtain ⟨r,rfl⟩:=D;exact ⟨B.1,(aR ⟨r,rfl⟩).trans B.2⟩));have h8:¬(9223372036854775807<t1.size+2):=by omega
         have H:=aA a1;clear g0 g1 a1;go_region_held3 (λP=>P.cell? ⟨wr.heap.size,2,none⟩=some (.int .i64 y)/\P.cell? ⟨wr.heap.size,3,none⟩=some (.int .i64 z)) (first|trivial|go_keep)
          (first
           |(go_at_call 15;refine (aD e7 n _ (by first|exact ⟨0,rfl⟩|exact ⟨1,rfl⟩|exact ⟨_,rfl⟩)).mono ?_;rintro i a7 ⟨⟨e3,rfl,d8,f8⟩,I⟩;have f1:=aA d8;have N:=aC I g4;have i6:=aC I g5;have e8:=aA (bD V.o I);have h9:¬(9223372036854775807<t1.size+2+O.size+2+e3.size):=(by have:=H.o;have:=b5.o;omega);have i0:¬(9223372036854775807<t1.size+2+O.size+2+e3.size+1):=(by have:=H.o;have:=b5.o;omega);clear I f8 d8)
           |(go_at_call 15;refine (aD e6 _ (by first|exact ⟨0,rfl⟩|exact ⟨1,rfl⟩|exact ⟨_,rfl⟩)).mono ?_;rintro i n ⟨⟨O,rfl,d7,d5⟩,p⟩;have f0:=aA d7;have g4:=aC p g2;have g5:=aC p g3;have V:=aA (bD b1.o p);have i1:¬(9223372036854775807<t1.size+2+O.size):=(by have:=H.o;omega);have i2:¬(9223372036854775807<t1.size+2+O.size+2):=(by have:=H.o;omega);have b5:=aA d5;clear p d5 d7)
           |go_in)
         go_wp2;go_roundw;case rel=>exact ⟨a+1,(by rw [<-W.o,u.o];unfold qR;rw [aH (by rw [<-b3.o];omega),f0.o,f1.o];simp [ByteArray.append_assoc]),by go_num,by omega,e8.o⟩
         case measure=>simp [intOf];omega
     ·obtain rfl:a=l.length:=by omega
      have U:=aA e;rw [za];have M:(S1++iE true l).size<=2200:=by have:=aB1 l true;rw [ByteArray.size_append];omega
      generalize S1++iE true l=t at X M ⊢;clear e;go_wp2;go_roundw;case rel=>exact ⟨d+1,(by rw [b2.o,X.o]),by go_num,by omega,U.o⟩
      case measure=>simp [intOf];omega
  ·obtain rfl:d=c.length:=by omega
   have d0:(c.map zt).take c.length=c.map zt:=by rw [<-zj (f:=zt),za]
   rw [d0];have T:=aA e;clear e d0;go_wp2;go_ret;exact ⟨rfl,T.o⟩
abbrev Kr:=Option Addr×Nat×List Rl
def oU(a:Kr):Value:=.slice a.1 a.2.2.length a.2.1
structure wU(w:World)(a:Option Addr)(X:List Kr):Prop where
 cell:∀k (h:k<X.length),∃b o,a=some ⟨b,o,none⟩/\w.cell? ⟨b,o+k,none⟩=some (oU X[k])
 raw:∀x∈X,mL w x.1 x.2.2/\x.2.2.length<=x.2.1
theorem wU.below{w':World}{b:Option Addr}{X:List Kr}(a:wU w b X)(c:aB w w'):wU w' b X:=
 ⟨λk i=>by
  obtain ⟨e,j,f,g⟩:=a.cell k i;exact ⟨e,j,f,aC c g⟩,λx d=>⟨(a.raw x d).1.below c,(a.raw x d).2⟩⟩
structure yT(B:Nat)(w:World)(v:Value)(Y:List Kr):Prop where
 row:w.ownsRow B 25 1 v Y.length (Y.map oU)
 raw:∀x∈Y,mL w x.1 x.2.2
theorem yT.cell{B:Nat}{b:List Kr}(e:yT B w v b):∃a f,v=.slice a b.length f/\aEf w a (b.map λy=>(oU y,y.2.2))/\∀k (c:k<b.length),∃g,a=some ⟨g,0,none⟩/\w.cell? ⟨g,k,none⟩=some (oU b[k]):=by
 obtain ⟨a,f,rfl⟩:=aZ e.row;have j:∀k (c:k<b.length),∃g,a=some ⟨g,0,none⟩/\w.cell? ⟨g,k,none⟩=some (oU b[k]):=λk c=>by
  obtain ⟨_,⟨_,d⟩|⟨g,o,p,d,_⟩⟩:=e.row
  ·omega
  ·simp at d;have m:=e.row;rw [d.1] at m;exact ⟨g,d.1,by rw [m.cellAt k (by simpa using c)];simp [c]⟩
 refine ⟨a,f,rfl,⟨λk c=>?_,λk c=>?_⟩,j⟩
 ·have i:k<b.length:=by simpa using c
  obtain ⟨g,d,n⟩:=j k i;exact ⟨g,d,by rw [zv];exact n⟩
 ·have i:k<b.length:=by simpa using c
  rw [zv];exact ⟨_,_,rfl,e.raw _ (zz i)⟩
theorem aXi:(zn.info? 25).map (λa=>(a.zero,a.size,a.bytes))=some (some (.slice none 0 0),1,24):=by kernel_rfl
theorem aXj{a:Nat}{d:TypeId}{j:Nat}{g:Nat}{i:List Value}(e:w.ownsRow a d j v g i){c:Nat}(b:v.ownBlock=some c):a<=c:=by
 obtain ⟨_,⟨rfl,_⟩|⟨n,k,m,rfl,f,_⟩⟩:=e
 ·cases b
 ·cases b;exact f
def jE(a:Kr):Kr:=(a.1,a.2.1,a.2.2.take 4)
theorem aXk{a:Kr}(b:mL w a.1 a.2.2):mL w (jE a).1 (jE a).2.2:=b.take 4
theorem aXl(H:Option Addr)(a2:Nat)(b:List Kr)(c:Nat)(c9:c<=1000)(w:World)(L:wU w H b):Calls zn 7 #[.slice H b.length a2,.int .i64 c] w λo V=>∃v,o=.returned v/\yT w.heap.size V v ((b.take c).map jE)/\aB w V:=by
 have t:=aA L;obtain ⟨b4,hK,a7,a8,a9⟩:=info_parts aXi;clear L;go_enter Tryz.func7,Tryz.ntmps7;go_wp2;go_loopw [5,6] (λb5 y wr=>∃a:Nat,y=.int .i64 a/\a<=b.length/\a<=c/\yT w.heap.size wr b5 ((b.take a).map jE)/\aB w wr) (λ_ y _=>b.length-(intOf y).toNat);case atStart=>exact ⟨0,rfl,by omega,by omega,⟨World.ownsRow_nil _ _ _ _,λg k=>by simp at k⟩,Below.refl _ _⟩
 case round=>
  obtain ⟨a,rfl,c6,c7,j,i⟩:=hrel;by_cases b1:a<b.length/\a<c
  ·obtain ⟨p,c3⟩:=b1;obtain ⟨c0,d1,rfl,O⟩:=t.o.cell a p;obtain ⟨x,b0⟩:=t.o.raw _ (zz p);have I:(a:Int)<(b.length:Int):=by omega
   have a4:(a:Int)<(c:Int):=by omega
   have D:aM ((b.take (a+1)).map jE=(b.take a).map jE++[jE b[a]]):=aA (by rw [zw p,List.map_append];rfl);have a1:aM (∀g∈(b.take a).map jE++[jE b[a]],mL w g.1 g.2.2):=aA (by
    rw [<-D.o];intro g k;obtain ⟨b8,b3,rfl⟩:=zr.1 k;exact aXk (t.o.raw b8 (zg b3)).1)
   have c8:((b.take a).map jE).length<=1000:=by rw [zj,zq];omega
   generalize b[a]=g at *;generalize (b.take a).map jE=Y at *;have u:=aC i O;have r:=x.below i;have N:=i.size;have m:=aA i;have b9:=aA r;have n:=aA j;obtain ⟨f,d,e⟩:=g;unfold oU at u;simp only at u b0 x r;obtain ⟨W,X,rfl⟩:=aZ j.row;clear i j O x;go_upto_if 25 with (fail);go_cut [7] (λa3 b7=>a3=.slice f (e.take 4).length d/\b7=wr);case first=>
    by_cases J:4<e.length
    ·have a6:(4:Int)<(e.length:Int):=by omega
     have a5:decide (4<e.length)=true:=fA J;have c5:4<=d:=by omega
     obtain ⟨c1,o,rfl,_⟩:=r.cell 0 (by omega);go_wp2;go_meet;case rel=>exact ⟨by rw [zq,Nat.min_eq_left (by omega)],rfl⟩
    ·have a6:decide ((4:Int)<(e.length:Int))=false:=by rw [decide_eq_false_iff_not];omega
     have a5:decide (4<e.length)=false:=gB J;go_wp2;go_meet;case rel=>exact ⟨by rw [zo (by omega)],rfl⟩
   case rest=>
    obtain ⟨rfl,T⟩:=hcut;rw [T];clear T r u;have a0:aM (oU (jE (f,d,e))=.slice f (e.take 4).length d):=aA rfl;generalize (e.take 4).length=xn at *;have E:=aA (bK n.o.row ((Below.refl _ wr).alloc (zp _) (.cells #[.slice f xn d] 25)) (zp _));have b2:∀U∈[Value.slice f xn d],U.oneCell'=true:=by intro U S;simp at S;subst S;rfl
    have A:=aA ((Below.refl _ wr).alloc (zp _) (.cells #[.slice f xn d] 25));go_wp2_with (first
     |(at_builtin;refine wpList_append_own _ rfl (.tmp 28) (.tmp 30) 22 rfl w.heap.size 25 b4 (.slice none 0 0) 1 24 zb hK a7 a8 a9 rfl (by decide) _ _ _ rfl E.o ⟨wr.heap.size,0,none⟩ 1 1 [.slice f xn d] rfl rfl (tU wr _ _ _ rfl) b2 (by unfold maxLen;omega) (by omega) (by simp;omega) ?_;intro b6 z R Q _;have G:=aA R;have C:=aA Q;clear R Q)
     |go_in)
    have P:(wr.alloc (.cells #[.slice f xn d] 25)).grownBy z (Value.slice W Y.length X).ownBlock:=C.o;have M:aB w z:=Below.grown (m.o.trans (A.o.mono N)) P (Nat.le_trans N A.o.size) (λd0 o=>aXj E.o o);have Z:aM (yT w.heap.size z b6 (Y++[jE (f,d,e)])):=aA ⟨by have:=G.o;rw [<-a0.o] at this;simpa using this,λg k=>(a1.o g k).below M⟩;clear P G C;go_roundw;case rel=>exact ⟨a+1,by go_num,by omega,by omega,by rw [D.o];exact Z.o,M⟩
    case measure=>simp [intOf];omega
  ·have n:=aA j;have m:=aA i;obtain ⟨W,X,rfl⟩:=aZ j.row;have B:aM ((b.take a).map jE=(b.take c).map jE):=aA (by
    congr 1
    rcases Nat.lt_or_ge a b.length with h|h
    ·rw [show a=c by omega]
    ·rw [zo h,zo (by omega)])
   clear j i;by_cases p:a<b.length
   ·have I:(a:Int)<(b.length:Int):=by omega
    have a4:decide ((a:Int)<(c:Int))=false:=by rw [decide_eq_false_iff_not];omega
    have c4:decide (a<c)=false:=by rw [decide_eq_false_iff_not];omega
    generalize ((b.take a).map jE).length=yn at *;go_wp2;go_ret;exact ⟨_,rfl,by rw [<-B.o];exact n.o,m.o⟩
   ·have I:decide ((a:Int)<(b.length:Int))=false:=by rw [decide_eq_false_iff_not];omega
    have c2:decide (a<b.length)=false:=by rw [decide_eq_false_iff_not];omega
    generalize ((b.take a).map jE).length=yn at *;go_wp2;go_ret;exact ⟨_,rfl,by rw [<-B.o];exact n.o,m.o⟩
end
section
open Go.RowKit Go.ChangeShapes Go.WideShapes
theorem aXm{a:Addr}(c:w.cell? (a.add (0*1))=some v):∃b d,a=⟨b,d,none⟩:=by
 obtain ⟨b,d,e⟩:=a;cases e with
 |none=>exact ⟨b,d,rfl⟩
 |some s=>
  simp only [Addr.add,zl] at c;split at c<;>simp at c
theorem aXn{m:Type}{D:TypeId×Value->m}{G:Nat}{o:List Value}{k:DataW m×List MemPlace}(f:DataW.trod D zn w 0 (λ_=>true) true G 22 o=some k):∃b n e,o=[.slice b (z0 n) e]/\wU w b n:=by
 rcases Deep.open_slice zb f with ⟨rfl,rfl⟩|⟨b,j,e,u,Z,R,S,rfl,U,V,X,O,rfl,c⟩
 ·exact ⟨none,[],0,rfl,⟨λi f=>absurd f (by simp),λk c=>by simp at c⟩⟩
 ·have N:u=e:=by simpa using O
  subst N;have B:zn.cellsOf 25=1:=by kernel_rfl
  have C:∀a,a<j->∃d:Kr,w.cell? (b.add (a*1))=some (oU d)/\mL w d.1 d.2.2/\d.2.2.length<=d.2.1:=by intro a t;obtain ⟨T,r,H⟩:=c a (by omega);rw [B] at r;obtain ⟨Y,W,I⟩:=World.cells?_some r;obtain ⟨y,l,A,rfl,P,M,_⟩:=aTp H;have x:=I 0 (by omega);rw [Deep.add_add] at x;exact ⟨(y,A,l),by simpa [oU] using x,P,M⟩
  obtain ⟨E,g⟩:=Deep.choose_lt C;refine ⟨some b,(List.range j).map E,u,by simp,⟨λi J=>?_,λk c=>?_⟩⟩
  ·have L:i<j:=by simpa using J
   obtain ⟨z,Q,rfl⟩:=aXm (g 0 (by omega)).1;obtain ⟨p,_⟩:=g i L;rw [aJh] at p;refine ⟨z,Q,rfl,?_⟩;simp only [zv,List.getElem_range];simpa using p
  ·obtain ⟨a,t,rfl⟩:=zr.1 c;exact (g a (by simpa using t)).2
end
