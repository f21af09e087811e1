import Derived.Test.YtcldkjcpofjmhaaGreatDoorONumM
import Derived.Test.YtcldkjcpofjmhaaGreatDoorLMemM
import Derived.RangeFuncNested
import Derived.RangeFuncBound
import Derived.RangeFuncCalls
import Derived.RangeFuncLeaves
open Array renaming getElem?_eq_some_iff→zu
open List renaming getElem?_eq_some_iff→zz,getElem?_eq_getElem→zy,getElem?_set→zw,length_set→zs,getElem_mem→zr,replicate→zp
open Nat renaming le_refl→zx,zero_le→zq
open Or renaming inl→zv,inr→zt
namespace Go.Proofs.YtcldkjcpofjmhaaGreatDoor
open Value renaming int→zn
open World renaming cell?→zo
set_option maxHeartbeats 4000000
set_option maxRecDepth 100000
section
inductive dY(B:Nat->Nat->Prop):Nat->Nat->Prop
 | refl (i):dY B i i
 | base {i j}:B i j->dY B i j
 | symm {i j}:dY B i j->dY B j i
 | trans {i j k}:dY B i j->dY B j k->dY B i k
theorem dY.le{B R:Nat->Nat->Prop}(h1:∀i,R i i)(h2:∀i j,R i j->R j i)(h3:∀i j k,R i j->R j k->R i k)(hB:∀i j,B i j->R i j){i j:Nat}(h:dY B i j):R i j:=by
 induction h with
 | refl i=>exact h1 i
 | base h=>exact hB _ _ h
 | symm _ ih=>exact h2 _ _ ih
 | trans _ _ a b=>exact h3 _ _ _ a b
theorem dY.mono{B B':Nat->Nat->Prop}(h:∀i j,B i j->dY B' i j){i j:Nat}(k:dY B i j):dY B' i j:=k.le dY.refl (λ_ _=>dY.symm) (λ_ _ _=>dY.trans) h
def aD(L:List Nd):Gr:=⟨λi=>(L[i]?).getD (⟨#[]⟩,0),λi=>match L[i]? with | some n=>fI (L.drop (i+1)) (bK n) (i+1) | none=>[]⟩
theorem nM{L:List Nd}{i:Nat}(h:(aD L).named i):∃n,L[i]?=some n/\aF n=false:=by
 unfold Gr.named aD at h;simp only at h;cases hl:L[i]? with
 | none=>rw [hl] at h;simp only [Option.getD_none] at h;rw [tK] at h;cases h
 | some n=>rw [hl] at h;exact ⟨n,rfl,h⟩
theorem gS{L:List Nd}{i:Nat}{n:Nd}(h:L[i]?=some n):(aD L).named i↔aF n=false:=by unfold Gr.named aD;simp [h]
theorem oH{L:List Nd}{i:Nat}{n:Nd}(h:L[i]?=some n):(aD L).lab i=n:=by simp [aD,h]
theorem gH{L:List Nd}{i:Nat}{n:Nd}(h:L[i]?=some n):(aD L).ch i=fI (L.drop (i+1)) (bK n) (i+1):=by simp [aD,h]
theorem uY(L:List Nd):(aD L).Arity:=by intro i j hi hj e;obtain ⟨n,h1,_⟩:=nM hi;obtain ⟨m,h2,_⟩:=nM hj;rw [oH h1,oH h2] at e;rw [gH h1,gH h2,uL,uL,e]
structure gD(F:List Nat)(rt d:Nat->Nat):Prop where
 lt:∀p q:Nat,F[p]?=some q->q<F.length
 root:∀p:Nat,F[p]?=some p->rt p=p
 step:∀p q:Nat,F[p]?=some q->q≠p->rt p=rt q/\d q<d p
 out:∀p:Nat,F.length<=p->rt p=p
theorem gD.isRoot{F:List Nat}{rt d:Nat->Nat}(h:gD F rt d):∀(n p:Nat),d p<=n->p<F.length->F[rt p]?=some (rt p):=by
 intro n;induction n with
 | zero=>
  intro p hd hp;obtain ⟨q,hq⟩ : ∃q,F[p]?=some q:=⟨F[p],zy hp⟩;by_cases e:q=p
  ·subst e;rw [h.root _ hq];exact hq
  ·have:=(h.step p q hq e).2;omega
 | succ n ih=>
  intro p hd hp;obtain ⟨q,hq⟩ : ∃q,F[p]?=some q:=⟨F[p],zy hp⟩;by_cases e:q=p
  ·subst e;rw [h.root _ hq];exact hq
  ·have hs:=h.step p q hq e;rw [hs.1];exact ih q (by omega) (h.lt p q hq)
theorem gD.rootAt{F:List Nat}{rt d:Nat->Nat}(h:gD F rt d){p:Nat}(hp:p<F.length):F[rt p]?=some (rt p):=h.isRoot _ p (zx _) hp
theorem gD.rt_lt{F:List Nat}{rt d:Nat->Nat}(h:gD F rt d){p:Nat}(hp:p<F.length):rt p<F.length:=(zz.1 (h.rootAt hp)).1
theorem gD.rt_rt{F:List Nat}{rt d:Nat->Nat}(h:gD F rt d)(p:Nat):rt (rt p)=rt p:=by
 by_cases hp:p<F.length
 ·exact h.root _ (h.rootAt hp)
 ·rw [h.out p (by omega),h.out p (by omega)]
def fQ(rt:Nat->Nat)(a b p:Nat):Nat:=if rt p=a then b else rt p
def dJ(rt d:Nat->Nat)(a b p:Nat):Nat:=if rt p=a then d p+d b+1 else d p
theorem gD.join{F:List Nat}{rt d:Nat->Nat}(h:gD F rt d){a b:Nat}(ha:F[a]?=some a)(hb:F[b]?=some b)(hne:a≠b):gD (F.set a b) (fQ rt a b) (dJ rt d a b):=by
 have hbl:=(zz.1 hb).1;have hal:=(zz.1 ha).1;have hra:=h.root a ha;have hrb:=h.root b hb;refine ⟨λp q hq=>?_,λp hp=>?_,λp q hq hpq=>?_,λp hp=>?_⟩
 ·rw [zw] at hq;rw [zs];split at hq
  ·simp at hq;omega
  ·exact h.lt p q hq
 ·rw [zw] at hp;split at hp
  ·rename_i e;subst e;simp at hp;exact absurd hp.symm hne
  ·rename_i e;have:=h.root p hp;unfold fQ;rw [this,if_neg (λx=>e x.symm)]
 ·rw [zw] at hq;split at hq
  ·rename_i e;subst e;simp at hq;subst hq;unfold fQ dJ;rw [hra,hrb,if_pos rfl,if_neg (λx=>hne x.symm),if_neg (λx=>hne x.symm),if_pos rfl];exact ⟨rfl,by omega⟩
  ·obtain ⟨h1,h2⟩:=h.step p q hq hpq;unfold fQ dJ;rw [h1];refine ⟨rfl,?_⟩;split <;> omega
 ·rw [zs] at hp;unfold fQ;rw [h.out p hp,if_neg (by omega)]
theorem aIr{rt:Nat->Nat}{a b:Nat}(p q:Nat):fQ rt a b p=fQ rt a b q↔rt p=rt q\/(rt p=a/\rt q=b)\/(rt p=b/\rt q=a):=by
 unfold fQ;by_cases h1:rt p=a <;> by_cases h2:rt q=a
 ·simp [h1,h2]
 ·rw [if_pos h1,if_neg h2,h1];constructor
  ·intro e;exact zt (zv ⟨rfl,e.symm⟩)
  ·rintro (e | ⟨_,e⟩ | ⟨_,e⟩)
   ·exact absurd e.symm h2
   ·exact e.symm
   ·exact absurd e h2
 ·rw [if_neg h1,if_pos h2,h2];constructor
  ·intro e;exact zt (zt ⟨e,rfl⟩)
  ·rintro (e | ⟨e,_⟩ | ⟨e,_⟩)
   ·exact absurd e h1
   ·exact absurd e h1
   ·exact e
 ·rw [if_neg h1,if_neg h2];constructor
  ·exact zv
  ·rintro (e | ⟨e,_⟩ | ⟨_,e⟩)
   ·exact e
   ·exact absurd e h1
   ·exact absurd e h2
def mA(F:List Nat):Nat:=(List.range F.length).countP λp=>F[p]? == some p
theorem aIs{F:List Nat}{a b:Nat}(ha:F[a]?=some a)(hne:a≠b):mA (F.set a b)<mA F:=by
 have hal:=(zz.1 ha).1;unfold mA;rw [zs];refine aG8 _ _ _ (λp _ hp=>?_) a (by simpa using hal) ?_ ?_
 ·rw [zw] at hp;split at hp
  ·rename_i e;subst e;simp at hp;omega
  ·exact hp
 ·rw [zw];simp [hal];omega
 ·simp [ha]
def dQ(G:Gr)(E Q:Nat->Nat->Prop):Prop:=∀x y,E x y->G.named x->G.named y->G.lab x=G.lab y/\∀(k p q:Nat),(G.ch x)[k]?=some p->(G.ch y)[k]?=some q->dY (λi j=>E i j\/Q i j) p q
structure tL(E:Nat->Nat->Prop):Prop where
 refl:∀i,E i i
 symm:∀i j,E i j->E j i
 trans:∀i j k,E i j->E j k->E i k
theorem qP(rt:Nat->Nat):tL λp q=>rt p=rt q:=⟨λ_=>rfl,λ_ _ h=>h.symm,λ_ _ _ h k=>h.trans k⟩
def tM(Q:Nat->Nat->Prop)(a b:Nat)(i j:Nat):Prop:=Q i j\/(i=a/\j=b)
theorem dQ.mono{G:Gr}{E Q Q':Nat->Nat->Prop}(h:dQ G E Q)(k:∀i j,Q i j->Q' i j):dQ G E Q':=λx y e hx hy=>by
 obtain ⟨h1,h2⟩:=h x y e hx hy;exact ⟨h1,λn p q hp hq=>(h2 n p q hp hq).mono λi j hij=>dY.base (hij.imp id (k i j))⟩
theorem dQ.same{G:Gr}{E Q:Nat->Nat->Prop}{a b:Nat}(h:dQ G E (tM Q a b))(hab:E a b):dQ G E Q:=λx y e hx hy=>by
 obtain ⟨h1,h2⟩:=h x y e hx hy;refine ⟨h1,λn p q hp hq=>(h2 n p q hp hq).mono λi j hij=>?_⟩;rcases hij with hij | hij | ⟨rfl,rfl⟩
 ·exact dY.base (zv hij)
 ·exact dY.base (zt hij)
 ·exact dY.base (zv hab)
def mB(E E':Nat->Nat->Prop)(a b:Nat):Prop:=∀p q,E' p q↔E p q\/(E p a/\E q b)\/(E p b/\E q a)
theorem mB.le{E E':Nat->Nat->Prop}{a b:Nat}(h:mB E E' a b){p q:Nat}(e:E p q):E' p q:=(h p q).2 (zv e)
theorem mB.ab{E E':Nat->Nat->Prop}{a b:Nat}(h:mB E E' a b)(hE:tL E):E' a b:=(h a b).2 (zt (zv ⟨hE.refl a,hE.refl b⟩))
theorem mB.eqv{E E' Q Q':Nat->Nat->Prop}{a b:Nat}(h:mB E E' a b)(hE:tL E)(hQ:∀i j,Q i j->Q' i j){p q:Nat}(e:dY (λi j=>E i j\/tM Q a b i j) p q):dY (λi j=>E' i j\/Q' i j) p q:=
 e.mono λi j hij=>by
  rcases hij with hij | hij | ⟨rfl,rfl⟩
  ·exact dY.base (zv (h.le hij))
  ·exact dY.base (zt (hQ _ _ hij))
  ·exact dY.base (zv (h.ab hE))
theorem dQ.var{G:Gr}{E E' Q:Nat->Nat->Prop}{a b:Nat}(h:dQ G E (tM Q a b))(hE:tL E)(hm:mB E E' a b)(hv:(∀p,E p a->¬G.named p)\/∀p,E p b->¬G.named p):dQ G E' Q:=λx y e hx hy=>by
 rcases (hm x y).1 e with e | ⟨e1,e2⟩ | ⟨e1,e2⟩
 ·obtain ⟨h1,h2⟩:=h x y e hx hy;exact ⟨h1,λn p q hp hq=>hm.eqv hE (λ_ _=>id) (h2 n p q hp hq)⟩
 ·rcases hv with hv | hv
  ·exact absurd hx (hv x e1)
  ·exact absurd hy (hv y e2)
 ·rcases hv with hv | hv
  ·exact absurd hy (hv y e2)
  ·exact absurd hx (hv x e1)
def oI(G:Gr)(Q:Nat->Nat->Prop)(a b k:Nat)(i j:Nat):Prop:=Q i j\/∃n,k<=n/\(G.ch a)[n]?=some i/\(G.ch b)[n]?=some j
theorem dQ.name{G:Gr}{E E' Q:Nat->Nat->Prop}{a b ra rb:Nat}(h:dQ G E (tM Q a b))(hE:tL E)(hm:mB E E' a b)(hA:G.Arity)(h1:E a ra)(h2:E b rb)(n1:G.named ra)(n2:G.named rb)(hl:G.lab ra=G.lab rb):dQ G E' (oI G Q ra rb 0):=by
 have key:∀x y,E x a->E y b->G.named x->G.named y->G.lab x=G.lab y/\∀(k p q:Nat),(G.ch x)[k]?=some p->(G.ch y)[k]?=some q->dY (λi j=>E' i j\/oI G Q ra rb 0 i j) p q:=by
  intro x y ex ey hx hy;obtain ⟨a1,a2⟩:=h x ra (hE.trans _ _ _ ex h1) hx n1;obtain ⟨b1,b2⟩:=h y rb (hE.trans _ _ _ ey h2) hy n2;refine ⟨a1.trans (hl.trans b1.symm),λk p q hp hq=>?_⟩;have hk1:k<(G.ch ra).length:=by rw [<-hA x ra hx n1 a1];exact (zz.1 hp).1
  have hk2:k<(G.ch rb).length:=by rw [<-hA y rb hy n2 b1];exact (zz.1 hq).1
  have c1:=hm.eqv hE (Q':=oI G Q ra rb 0) (λi j hij=>zv hij) (a2 k p _ hp (zy hk1));have c2:=hm.eqv hE (Q':=oI G Q ra rb 0) (λi j hij=>zv hij) (b2 k q _ hq (zy hk2));exact c1.trans ((dY.base (zt (zt ⟨k,zq _,zy hk1,zy hk2⟩))).trans c2.symm)
 intro x y e hx hy;rcases (hm x y).1 e with e | ⟨e1,e2⟩ | ⟨e1,e2⟩
 ·obtain ⟨h3,h4⟩:=h x y e hx hy;exact ⟨h3,λn p q hp hq=>hm.eqv hE (λi j hij=>zv hij) (h4 n p q hp hq)⟩
 ·exact key x y e1 e2 hx hy
 ·obtain ⟨h3,h4⟩:=key y x e2 e1 hy hx;exact ⟨h3.symm,λk p q hp hq=>(h4 k q p hq hp).symm⟩
theorem dQ.part{G:Gr}{E Q:Nat->Nat->Prop}{a b k p q:Nat}(h:dQ G E (oI G Q a b k))(hp:(G.ch a)[k]?=some p)(hq:(G.ch b)[k]?=some q):dQ G E (tM (oI G Q a b (k+1)) p q):=
 h.mono λi j hij=>by
  rcases hij with hij | ⟨n,h1,h2,h3⟩
  ·exact zv (zv hij)
  ·by_cases e:n=k
   ·subst e;rw [hp] at h2;rw [hq] at h3;simp at h2 h3;exact zt ⟨h2.symm,h3.symm⟩
   ·exact zv (zt ⟨n,by omega,h2,h3⟩)
theorem dQ.allParts{G:Gr}{E Q:Nat->Nat->Prop}{a b k:Nat}(h:dQ G E (oI G Q a b k))(hk:(G.ch a).length<=k):dQ G E Q:=
 h.mono λi j hij=>by
  rcases hij with hij | ⟨n,h1,h2,_⟩
  ·exact hij
  ·have:=(zz.1 h2).1;omega
theorem dQ.done{G:Gr}{E B:Nat->Nat->Prop}(h:dQ G E λ_ _=>False)(hE:tL E)(hs:∀i j,E i j->Cl G B i j)(hb:∀i j,B i j->E i j):(∀i j,E i j↔Cl G B i j)/\eW G (Cl G B):=by
 have hd:gR G E:=⟨hE.refl,hE.symm,hE.trans,λi j k p q hij hi hj hp hq=>((h i j hij hi hj).2 k p q hp hq).le hE.refl hE.symm hE.trans λi j hij=>by
  rcases hij with hij | hij
  ·exact hij
  ·exact hij.elim⟩
 have hiff:∀i j,E i j↔Cl G B i j:=λi j=>⟨hs i j,Cl.le hd hb⟩
 exact ⟨hiff,λi j hij hi hj=>(h i j ((hiff i j).2 hij) hi hj).1⟩
end
section
open Go.RowKit Go.Shelf Go.WideMaps
theorem aIt:(Tryz.prog.info? 4).map (λi=>(i.zero,i.size,i.bytes))=some (some (.bool false),1,1):=by kernel_rfl
theorem aU9(n:Nat):(madeCells #[.bool false] (n*1)).toList=(zp n false).map Value.bool:=by
 apply List.ext_getElem?;intro j;by_cases hj:j<n
 ·simp [madeCells,hj,Nat.mod_one]
 ·simp [madeCells,hj]
def uZ:Value->Nat
 | .bool true=>1
 | _=>0
def sC(P:Tb)(D:List Bool)(l:List Nat):Bool:=l.all λx=>dn P D x
theorem aUa(P:Tb)(D:List Bool)(l:List Nat)(q:Nat)(h:q<l.length):sC P D (l.take (q+1))=(sC P D (l.take q) && dn P D l[q]):=by simp only [sC,List.take_succ_eq_append_getElem h,List.all_append,List.all_cons,List.all_nil,Bool.and_true]
theorem sD{w:World}{B:Nat}{v:Value}{l:List Nat}(h:w.ownsRow B 3 1 v l.length (l.map λx:Nat=>zn .i64 x)) :
  ∃a cap,v=.slice a l.length cap/\∀k (h:k<l.length),∃g,a=some ⟨g,0,none⟩/\w.cell? ⟨g,k,none⟩=some (.int .i64 l[k]):=by
 have h':w.ownsRow B 3 1 v (l.map λx:Nat=>(x:Int)).length ((l.map λx:Nat=>(x:Int)).map (zn .i64)):=by simpa [List.map_map,Function.comp_def] using h
 obtain ⟨a,cap,e,hc⟩:=aAv h';refine ⟨a,cap,by simpa using e,λk hk=>?_⟩;obtain ⟨g,h1,h2⟩:=hc k (by simpa using hk);exact ⟨g,h1,by simpa using h2⟩
def aUb(P:Tb)(v:Value):Prop:=∃b:Bool,v=.bool b/\(b=true↔∀i,i<P.length->bF (aV P) (aZ P) i)
theorem aUc(B tp:Nat)(v:Value)(P:Tb)(w:World)(h:bT w B tp v P)(hf:P.length<=1000000)(hok:gP P)(hcl:wI P)(hps:∀p∈P,p.1.parts.length<=1000000) :
  Calls Tryz.prog 70 #[.pointer (some ⟨tp,0,none⟩)] w λe w'=>∃v,e=.returned v/\aUb P v/\Below w.heap.size w w':=by
 obtain ⟨iB,hB,hB0,hB1,hB2⟩:=info_parts aIt;obtain ⟨a,cap,rfl,_⟩:=h.shape;have hcell:=h.cell;have HT:=aA h;have HOK:=aA hok;have HCL:=aA hcl;have HPS:=aA hps;clear h hok hcl hps;go_enter Tryz.func70,Tryz.ntmps70;go_wp2_with (first
  | (at_make;refine wpList_make_full _ rfl _ _ 64 rfl w.heap.size 4 iB (.bool false) 1 Tryz.underlying64 hB hB0 hB1 .i64 .i64 _ _ P.length rfl rfl rfl rfl ?m1 ?m2 ?m3 ?_)
  | go_in)
 case m1=>rw [hB2];omega
 case m2=>unfold maxLen;omega
 case m3=>simp
 intro w2 ho2 hg2;have HE0:Hid (qB w w.heap.size P.length (zp P.length false) w2):=aA (by
  refine ⟨by simp,?_,(Below.refl _ _).grown hg2 (zx _) (by simp)⟩;have e:=aU9 P.length;rw [Nat.mul_one] at e;rw [e] at ho2;exact ho2)
 clear ho2 hg2;have HS0:Hid (rT P (zp P.length false)):=aA (by
  intro i hi hd;rw [wH _ _ _ hi] at hd;simp [List.getD,HOK.out.cls i hi] at hd)
 go_wp2;go_loopw [4] (λm wr=>∃(b:Bool) (D:List Bool),m=.bool b/\qB w w.heap.size P.length D wr/\rT P D/\(b=false->∀i,i<P.length->yX P D i)) (λm wr=>2*(yZ wr w.heap.size P.length).countP (λb=>!b)+uZ m);case atStart=>exact ⟨true,_,rfl,HE0.out,HS0.out,by simp⟩
 case round=>
  obtain ⟨b,D,rfl,hE,hS,hQ⟩:=hrel;cases b with
  | true=>
   have HE:=aA hE;have HS:=aA hS;have HD:=aA (aGd hE.len λk hk=>wJ hE.row hE.len k hk);clear hE hS hQ;rename World=>wo
   go_wp2;go_loopw [4,5] (λm i wi=>∃(b:Bool) (k:Nat) (D':List Bool),k<=P.length/\m=.bool b/\i=.int .i64 k/\qB w w.heap.size P.length D' wi/\rT P D'/\(b=false->D'=D/\∀j,j<k->yX P D j)/\(b=true->(D'.countP λb=>!b)<D.countP λb=>!b)/\((D'.countP λb=>!b)<=D.countP λb=>!b)) (λ_ i _=>P.length-(intOf i).toNat);case atStart=>exact ⟨false,0,D,zq _,rfl,rfl,HE.out,HS.out,λ_=>⟨rfl,λj h=>by omega⟩,by simp,zx _⟩
   case round=>
    obtain ⟨b,k,D',hk,rfl,rfl,hE,hS,hb0,hb1,hb2⟩:=hrel;have hT:=HT.out.below hE.low;have c1:=hT.cell;by_cases hlt:k<P.length
    ·have hlti:(k:Int)<(P.length:Int):=by omega
     obtain ⟨a',cap',e',hc⟩:=hT.shape;obtain ⟨g,rfl,q1,q2,q3,e3⟩:=hc k hlt;simp at e';obtain ⟨rfl,rfl⟩:=e';clear q1 q2 q3;have hcb:=HOK.out.cls k hlt;have hlen:=hE.len;have f3:=wJ hE.row hE.len P[k].1.cls (by omega);have hdn:=wH P D' k hlt;have HDS:=λ(he:bF (aV P) (aZ P) k)=>rT.set HCL.out hS hlt he
     have HEO:=λ(r:Int)=>aQ1 (r:=r) HCL.out HOK.out hS hlt
     have hfn:=aQ3 D' P[k].1.cls (by omega);have HC:=aA hc;have CT:=aA (aG2 B tp _ P P[k].1.cls wr hT hf);have fz:=hE.row.frozenAt P[k].1.cls;have HHD:=aA (show ∀(h:Nat) (hl:h<P.length),P[h].1.cls=P[k].1.cls->aZ P k h from λh hl e=>(aZ.iff hlt hl).2 e.symm);generalize P[k].1.cls=c at *;have HE1:=aA hE;have HS1:=aA hS;have HB0:=aA hb0;have HB1:=aA hb1;have HB2:=aA hb2;have HDN:=aA hdn;have HDS':=aA HDS;have HEO':=aA HEO;have HFN:=aA hfn;have hci:(c:Int)<(P.length:Int):=by omega
     clear hE hS hb0 hb1 hb2 hdn HDS HEO hfn hT hc;cases hd:D'.getD c false with
     | true=>
      rw [hd] at f3;have HDT:=aA (HDN.out.trans hd);clear hd;go_wp2;go_roundw;case rel=>
       refine ⟨b,k+1,D',by omega,rfl,by go_num,HE1.out,HS1.out,λe=>⟨(HB0.out e).1,λj hj=>?_⟩,HB1.out,HB2.out⟩;by_cases hjk:j<k
       ·exact (HB0.out e).2 j hjk
       ·have:j=k:=by omega
        subst this;rw [<-(HB0.out e).1];exact zv HDT.out
      case measure=>simp [intOf];omega
     | false=>
      rw [hd] at f3;have HFL:=aA (HFN.out hd);have HDF:=aA hd;clear hd;go_wp2_with (first
       | (go_at_call 71;refine (aB CT).mono ?_)
       | go_in)
      rename World=>wi
      rintro e w1 ⟨r,rfl,hr,d,rfl⟩;rcases hr with ⟨rfl,hno⟩ | ⟨h,rfl,hl,hc,hv⟩
      ·have HEK:=aA (HEO'.out (-1) (zv ⟨rfl,hno⟩) (λh e=>by omega));clear hno;go_wp2;go_roundw;case rel=>
        have:=HFL.out;have:=HB2.out;exact ⟨true,k+1,D'.set c true,by omega,rfl,by go_num,(HE1.out.drewN d).set (zx _) c,HDS'.out HEK.out,by simp,λ_=>by omega,by omega⟩
       case measure=>simp [intOf];omega
      ·have hhi:(h:Int)<(P.length:Int):=by omega
       obtain ⟨g',hg',q1,q2,e4,q5⟩:=HC.out h hl;simp at hg';subst hg';clear q1 q2 q5;have hT1:=HT.out.below HE1.out.low;have hpp:=hT1.parts P[h] (zr _);have hpb:=HPS.out P[h] (zr _);have hpl:=HOK.out.parts h hl;have hek:(∀p∈P[h].1.parts,dn P D' p=true)->bF (aV P) (aZ P) k:=λha=>HEO'.out h (zt ⟨h,rfl,hl,hc,hv⟩) (λh' e hl'=>by
        have:h=h':=by omega
        subst this;exact ha)
       have HEK:=aA hek;clear hek;have HQ:=aA (λ(p:Nat) (hp:p∈P[h].1.parts) (hd:dn P D' p=false)=>(zt ⟨h,hl,HHD.out h hl hc,hv,p,hp,hd⟩ : yX P D' k));obtain ⟨pa,pcap,hpv,hpc⟩:=sD hpp;rw [hpv] at e4;generalize P[h].1.parts=l at *;have HPC:=aA hpc;have HPL:=aA hpl;clear hpp hpv hT1 hpc hpl hc hv;go_wp2;go_loopw [8,9] (λa p wx=>∃q:Nat,q<=l.length/\p=.int .i64 q/\a=.bool (sC P D' (l.take q))/\∃d',wx=wi.drewN d') (λ_ p _=>l.length-(intOf p).toNat);case atStart=>exact ⟨0,zq _,rfl,rfl,_,rfl⟩
       case round=>
        obtain ⟨q,hq,rfl,rfl,d',rfl⟩:=hrel;by_cases hql:q<l.length
        ·have hqli:(q:Int)<(l.length:Int):=by omega
         obtain ⟨g5,rfl,e5⟩:=HPC.out q hql;have hpn:=HPL.out l[q] (zr _);obtain ⟨g',hg',q1,q2,q3,e6⟩:=HC.out l[q] hpn;simp at hg';subst hg';have hcq:=HOK.out.cls l[q] hpn;have hl1:=HE1.out.len;have f6:=wJ HE1.out.row HE1.out.len P[l[q]].1.cls (by omega);have HPT:=aA (aUa P D' l q hql);rw [<-wH P D' l[q] hpn] at f6;generalize P[l[q]].1.cls=cq at *;generalize dn P D' l[q]=dq at *;generalize l[q]=pq at *;have hpni:(pq:Int)<(P.length:Int):=by omega
         have hcqi:(cq:Int)<(P.length:Int):=by omega
         clear q1 q2 q3;cases hpd:sC P D' (l.take q) with
         | true=>
          rw [hpd] at HPT;go_wp2;go_quiet (fail);go_wp2;go_roundw;case rel=>exact ⟨q+1,by omega,by go_num,by rw [HPT.out];simp,by first | exact jT _ _ _ | exact ⟨_,rfl⟩⟩
          case measure=>simp [intOf];omega
         | false=>
          rw [hpd] at HPT;go_wp2;go_quiet (fail);go_wp2;go_roundw;case rel=>exact ⟨q+1,by omega,by go_num,by rw [HPT.out];simp,by first | exact jT _ _ _ | exact ⟨_,rfl⟩⟩
          case measure=>simp [intOf];omega
        ·have hqli:¬((q:Int)<(l.length:Int)):=by omega
         have hqe:q=l.length:=by omega
         rw [hqe,List.take_length];cases hpd:sC P D' l with
         | true=>
          have HA:Hid (∀p∈l,dn P D' p=true):=aA (by simpa [sC] using hpd);clear hpd;go_wp2;go_roundw;case rel=>
           have:=HFL.out;have:=HB2.out;exact ⟨true,k+1,D'.set c true,by omega,rfl,by go_num,(HE1.out.drewN d').set (zx _) c,HDS'.out (HEK.out HA.out),by simp,λ_=>by omega,by omega⟩
          case measure=>simp [intOf];omega
         | false=>
          have HA:Hid (∃p∈l,dn P D' p=false):=aA (by simpa [sC] using hpd);clear hpd;go_wp2;go_roundw;case rel=>
           refine ⟨b,k+1,D',by omega,rfl,by go_num,HE1.out.drewN d',HS1.out,λe=>⟨(HB0.out e).1,λj hj=>?_⟩,HB1.out,HB2.out⟩;by_cases hjk:j<k
           ·exact (HB0.out e).2 j hjk
           ·have:j=k:=by omega
            subst this;rw [<-(HB0.out e).1];obtain ⟨p,hp,hd⟩:=HA.out;exact HQ.out p hp hd
          case measure=>simp [intOf];omega
    ·have hlti:¬((k:Int)<(P.length:Int)):=by omega
     have HE1:=aA hE;have HS1:=aA hS;have HB0:=aA hb0;have HB1:=aA hb1;have HB2:=aA hb2;clear hE hS hb0 hb1 hb2 hT;go_wp2;go_roundw;case rel=>exact ⟨b,D',rfl,HE1.out,HS1.out,λe i hi=>by rw [(HB0.out e).1];exact (HB0.out e).2 i (by omega)⟩
     case measure=>
      rw [HD.out,aGd HE1.out.len λk hk=>wJ HE1.out.row HE1.out.len k hk];have:=HB2.out;cases b with
      | true=>have:=HB1.out rfl;simp [uZ];omega
      | false=>simp [uZ];omega
  | false=>
   have HE:=aA hE;have HS:=aA hS;have HQ:=aA (hQ rfl);have hT:=HT.out.below hE.low;have c1:=hT.cell;clear hE hS hQ;rename World=>wo
   have HT1:=aA hT;clear hT;go_wp2;go_loopw [10] (λi wi=>∃k:Nat,k<=P.length/\i=.int .i64 k/\(∀j,j<k->dn P D j=true)/\wi=wo) (λi _=>P.length-(intOf i).toNat);case atStart=>exact ⟨0,zq _,rfl,λj h=>by omega,rfl⟩
   case round=>
    obtain ⟨k,hk,rfl,hall,rfl⟩:=hrel;by_cases hlt:k<P.length
    ·have hlti:(k:Int)<(P.length:Int):=by omega
     obtain ⟨a',cap',e',hc⟩:=HT1.out.shape;obtain ⟨g,rfl,q1,q2,q3,e3⟩:=hc k hlt;simp at e';obtain ⟨rfl,rfl⟩:=e';clear q1 q2 q3;have hcb:=HOK.out.cls k hlt;have hlen:=HE.out.len;have f3:=wJ HE.out.row HE.out.len P[k].1.cls (by omega);rw [<-wH P D k hlt] at f3;have HA:=aA hall;generalize P[k].1.cls=c at *;have hci:(c:Int)<(P.length:Int):=by omega
     clear hc hall;cases hd:dn P D k with
     | true=>
      rw [hd] at f3;have HD:=aA hd;clear hd;go_wp2;go_roundw;case rel=>
       refine ⟨k+1,by omega,by go_num,λj hj=>?_,by first | rfl | trivial⟩;by_cases hjk:j<k
       ·exact HA.out j hjk
       ·have:j=k:=by omega
        subst this;exact HD.out
      case measure=>simp [intOf];omega
     | false=>
      rw [hd] at f3;have HD:=aA hd;clear hd;go_wp2;go_ret;refine ⟨_,rfl,⟨_,rfl,λe=>by simp at e,λe=>?_⟩,HE.out.low⟩;have:=aQ2 HOK.out HQ.out (e k hlt) hlt;rw [HD.out] at this;cases this
    ·have hlti:¬((k:Int)<(P.length:Int)):=by omega
     have HA:=aA hall;clear hall;go_wp2;go_ret;exact ⟨_,rfl,⟨_,rfl,λ_ i hi=>HS.out i hi (HA.out i (by omega)),λ_=>rfl⟩,HE.out.low⟩
def eD(L:List Nd):List Nat:=(List.range L.length).map λp=>p+aI (L.drop p) 1
theorem gT(L:List Nd):(eD L).length=L.length:=by simp [eD]
theorem vA(L:List Nd)(p:Nat)(h:p<L.length):(eD L)[p]?=some (p+aI (L.drop p) 1):=by simp [eD,h]
abbrev iJ(l:List Nat):List Value:=l.map λx:Nat=>zn .i64 x
structure bE(w:World)(B tb:Nat)(vn ve vl vs vm:Value)(L:List Nd)(F:List Nat)(S:List Int):Prop where
 box:w.heap[tb]?=some (.cells #[vn,ve,vl,vs,vm] 137)
 high:B<=tb
 rn:w.ownsRow B 36 2 vn L.length (aH L)
 re:w.ownsRow B 3 1 ve L.length (iJ (eD L))
 rl:w.ownsRow B 3 1 vl L.length (iJ F)
 rs:w.ownsRow B 3 1 vs L.length (S.map (zn .i64))
 lf:F.length=L.length
 ls:S.length=L.length
 few:L.length<=1000000
 short:∀n∈L,n.1.size<=140737488355328
 ab:ve.ownBlock≠vl.ownBlock
 ac:ve.ownBlock≠vs.ownBlock
 bc:vl.ownBlock≠vs.ownBlock
section
variable {w:World}{B tb:Nat}{vn ve vl vs vm:Value}{L:List Nd}{F:List Nat}{S:List Int}
theorem bE.c0(h:bE w B tb vn ve vl vs vm L F S):w.cell? ⟨tb,0,none⟩=some vn:=by simp [zo,h.box]
theorem bE.c1(h:bE w B tb vn ve vl vs vm L F S):w.cell? ⟨tb,1,none⟩=some ve:=by simp [zo,h.box]
theorem bE.c2(h:bE w B tb vn ve vl vs vm L F S):w.cell? ⟨tb,2,none⟩=some vl:=by simp [zo,h.box]
theorem bE.c3(h:bE w B tb vn ve vl vs vm L F S):w.cell? ⟨tb,3,none⟩=some vs:=by simp [zo,h.box]
theorem aCo{w:World}{B:Nat}{v:Value}{l:List Nat}{n:Nat}(h:w.ownsRow B 3 1 v n (iJ l))(hl:l.length=n) :
  ∃a cap,v=.slice a n cap/\∀k (h:k<l.length),∃g,a=some ⟨g,0,none⟩/\w.cell? ⟨g,k,none⟩=some (.int .i64 l[k]):=by
 subst hl;exact sD h
theorem aUd{w:World}{B:Nat}{v:Value}{l:List Int}{n:Nat}(h:w.ownsRow B 3 1 v n (l.map (zn .i64)))(hl:l.length=n) :
  ∃a cap,v=.slice a n cap/\∀k (h:k<l.length),∃g,a=some ⟨g,0,none⟩/\w.cell? ⟨g,k,none⟩=some (.int .i64 l[k]):=by
 subst hl;exact aAv h
theorem bE.below(h:bE w B tb vn ve vl vs vm L F S){wx:World}(k:Below w.heap.size w wx):bE wx B tb vn ve vl vs vm L F S:=
 ⟨by rw [k.block tb (zu.1 h.box).1,h.box],h.high,aU h.rn k (zx _),aU h.re k (zx _),aU h.rl k (zx _),aU h.rs k (zx _),h.lf,h.ls,h.few,h.short,h.ab,h.ac,h.bc⟩
theorem bE.drewN(h:bE w B tb vn ve vl vs vm L F S)(d:Nat):bE (w.drewN d) B tb vn ve vl vs vm L F S:=h.below (aJ ⟨d,rfl⟩)
theorem bE.grown(h:bE w B tb vn ve vl vs vm L F S){wx:World}{o:Option Nat}(hg:w.grownBy wx o)(h0:o≠some tb)(h1:vn.ownBlock=none\/vn.ownBlock≠o)(h2:ve.ownBlock=none\/ve.ownBlock≠o)(h3:vl.ownBlock=none\/vl.ownBlock≠o)(h4:vs.ownBlock=none\/vs.ownBlock≠o):bE wx B tb vn ve vl vs vm L F S:=
 ⟨by rw [hg.block tb (zu.1 h.box).1 (λe=>h0 e.symm),h.box],h.high,cG h.rn hg h1,cG h.re hg h2,cG h.rl hg h3,cG h.rs hg h4,h.lf,h.ls,h.few,h.short,h.ab,h.ac,h.bc⟩
theorem wY{w:World}{B:Nat}{e:TypeId}{size:Nat}{v:Value}{n:Nat}{xs:List Value}(h:w.ownsRow B e size v n xs){r:Nat}(hr:v.ownBlock=some r):∃o:Obj,w.heap[r]?=some o/\o.isCells=true:=by
 obtain ⟨_,⟨rfl,_⟩ | ⟨g,cap,cur,rfl,_,hg,_⟩⟩:=h
 ·simp [Value.ownBlock] at hr
 ·simp [Value.ownBlock] at hr;subst hr;exact ⟨_,hg,rfl⟩
theorem wZ{w:World}{B:Nat}{e:TypeId}{size:Nat}{v:Value}{n:Nat}{xs:List Value}(h:w.ownsRow B e size v n xs){o:Option Nat}(ho:∀r,o=some r->∃x:Obj,w.heap[r]?=some x/\x.isCells=false):v.ownBlock=none\/v.ownBlock≠o:=by
 cases hv:v.ownBlock with
 | none=>exact zv rfl
 | some g=>
  right;intro e;obtain ⟨x,h1,h2⟩:=ho g e.symm;obtain ⟨y,h3,h4⟩:=wY h hv;rw [h1] at h3;simp at h3;subst h3;rw [h2] at h4;cases h4
theorem bE.others(h:bE w B tb vn ve vl vs vm L F S){wx:World}{o:Option Nat}(hg:w.grownBy wx o)(ho:∀r,o=some r->∃x:Obj,w.heap[r]?=some x/\x.isCells=false):bE wx B tb vn ve vl vs vm L F S:=
 h.grown hg (λe=>by obtain ⟨x,h1,h2⟩:=ho tb e;rw [h.box] at h1;simp at h1;subst h1;cases h2) (wZ h.rn ho) (wZ h.re ho) (wZ h.rl ho) (wZ h.rs ho)
theorem aIu(F:List Nat)(a b:Nat):(iJ F).set a (.int .i64 b)=iJ (F.set a b):=by rw [<-List.map_set]
theorem bE.lead{gl cl:Nat}(h:bE w B tb vn ve (.slice (some ⟨gl,0,none⟩) L.length cl) vs vm L F S)(a b:Nat):bE (w.setCell ⟨gl,a,none⟩ (.int .i64 b)) B tb vn ve (.slice (some ⟨gl,0,none⟩) L.length cl) vs vm L (F.set a b) S/\w.grownBy (w.setCell ⟨gl,a,none⟩ (.int .i64 b)) (some gl):=by
 have hg:=bQ w ⟨gl,a,none⟩ (.int .i64 b);refine ⟨⟨?_,h.high,cG h.rn hg ?_,cG h.re hg (zt h.ab),?_,cG h.rs hg (zt λe=>h.bc e.symm),by rw [zs];exact h.lf,h.ls,h.few,h.short,h.ab,h.ac,h.bc⟩,hg⟩
 ·rw [hg.block tb (zu.1 h.box).1 (λe=>cD h.rl h.box (by decide) e.symm),h.box]
 ·rcases bV h.rn h.rl (by decide) with e | e
  ·exact zv e
  ·exact zt e
 ·have r:=(h.rl.stored a (.int .i64 b)).1;rw [aIu] at r;exact r
end
theorem aCp(B tb:Nat)(vn ve vl vs vm:Value)(L:List Nd)(F:List Nat)(S:List Int)(rt d:Nat->Nat)(p:Nat)(w:World)(h:bE w B tb vn ve vl vs vm L F S)(hF:gD F rt d)(hp:p<L.length) :
  Calls Tryz.prog 114 #[.pointer (some ⟨tb,0,none⟩),.int .i64 p] w λe w'=>e=.returned (.int .i64 (rt p))/\w'=w:=by
 obtain ⟨al,cl,rfl,hl⟩:=aCo h.rl h.lf;have c2:=h.c2;have HL:=aA hl;have HF:=aA hF;have hlf:=h.lf;have hfew:=h.few;have HLF:=aA hlf;clear hl hF h hlf;go_enter Tryz.func114,Tryz.ntmps114;go_wp2;go_loop [1] (λq=>∃k:Nat,k<L.length/\rt k=rt p/\q=.int .i64 k) (λq=>d (intOf q).toNat);case atStart=>exact ⟨p,hp,rfl,rfl⟩
 case round=>
  obtain ⟨k,hk,hr,rfl⟩:=hrel;obtain ⟨g,rfl,e1⟩:=HL.out k (by rw [HLF.out];exact hk);have hki:(k:Int)<(L.length:Int):=by omega
  have hkf:k<F.length:=by rw [HLF.out];exact hk
  have hq:F[k]?=some F[k]:=zy hkf;have hql:=HF.out.lt k _ hq;have hst:=HF.out.step k _ hq;have hro:=HF.out.root k;generalize F[k]=q at *;by_cases e:q=k
  ·have HR:Hid (rt p=k):=aA (by rw [<-hr];exact hro (by rw [hq,e]));have hb:((q:Int) != (k:Int))=false:=by rw [e];simp
   clear hst hro hq hr;subst e;clear hb;go_wp2;go_ret;exact ⟨kH (by rw [HR.out]),rfl⟩
  ·have hb:((q:Int) != (k:Int))=true:=by rw [bne_iff_ne];omega
   have HS:=aA (hst e);have HR:=aA hr;have HQ:=aA (show q<L.length by rw [<-HLF.out];exact hql);clear hst hro hq hr hql;go_wp2;go_round;case rel=>exact ⟨q,HQ.out,by rw [<-HS.out.1];exact HR.out,rfl⟩
   case measure=>have:=HS.out.2;simpa [intOf] using this
end
end Go.Proofs.YtcldkjcpofjmhaaGreatDoor
