import Derived.Test.YtenobhkjiebhaaaGreatDoorGTerm1S18
import Derived.Lib.AppendZeros
import Derived.Test.YtenobhkjiebhaaaGreatDoorUNewS18
open Bool renaming true->zp,false->zn,and_eq_true->z3
open List renaming length->Z,eq_nil_of_length_eq_zero->zk,length_append->zi,getElem_mem->zd,take_of_length_le->zb,zipWith->za,map_append->z0,take_length->z2
open Nat renaming le_refl->zr,zero_le->zq
open Option renaming some->V,none->zl
open Prod renaming fst->zu
namespace Go.Proofs.YtenobhkjiebhaaaGreatDoor
open Go renaming World->Y,Value->U
open _root_.Go.Proofs.Tryz renaming prog->zm,underlying180->zh,underlying71->z1
open Value renaming ownBlock->zj
open World renaming cell?->zx,setCell->zt,ownsRow->zs,ownsRow_nil->zo,grownBy->zg,frozen?->zf,setCell_alloc_past->ze,block_lt_of_cell?->zc
open Go.RowKit Go.WideMaps Go.Shelf
set_option maxHeartbeats 8000000
set_option maxRecDepth 100000
variable{lb mg tp:Nat}{s1:bC}{v:U}{w w1:Y}
def aJy(a l:Nat)(w:Y)(m:ByteArray)(b:List Tk)(j:Nat)(n:List Pc)(o:Nat)(q:Except Nat (bC×List Lt))(i:Ending)(f:Y):Prop:=
 Below a w f/\
  match q with
  | .ok (s1,c)=>∃d e g s,i=.returned (.bool true)/\wM a f l m b s1 j d e (n++[((o,g),s)])/\g.map zu=c
  | .error p=>∃k d e r,i=.returned (.bool false)/\fA a f l m b k j d e r/\(aH b k).pos=p
section
variable {B pb:Nat}{s:ByteArray}{T:List Tk}{g:Nat}{vC vP:U}{st:bC}{w:Y}{CV:List Pc}
theorem aJz:(Tryz.prog.info? 109).map (λa=>(a.zero,a.size,a.bytes))=V (V (.agg #[iQ 0,nQ]),2,32):=by kernel_rfl
theorem aK0{c j:Y}{a:bC}{k:Bool}{b i r:U}{d:List (Lt×U)}{l:Ending}(z:B<=w.heap.size)(y:lD T st=.ok (a,d.map zu))(o:decide ((aH T a.i).kind=46)=k)(f:dK B c pb s T a g b i mg)(u:iO B c b (CV++[((tp,d),r)]))(n:Below B w c)(e:zg c j (V pb))(q:fA B j pb s T (if (aH T a.i).kind=46 then a.i+1 else a.i) g b i (.map (V mg)))(x:l=.returned (.bool k)):aJy B pb w s T g CV tp (jO T st) l j:=by
 obtain⟨left,p,t⟩:=f.pp.box;have A:=n.size;refine⟨n.grown e (by omega) (by simpa using t),?_⟩;unfold jO;rw[y];simp only;by_cases m:(aH T a.i).kind=46
 .rw[aT m]at q ⊢;rw[fL m]at o;subst o;exact⟨b,i,d,r,x,⟨⟨_,q⟩,f.pz.kept e (p.apart f.pz (by decide)),u.take p e⟩,rfl⟩
 grind
structure wE(B pb:Nat)(w w1:Y)(s:ByteArray)(T:List Tk)(st:bC)(g:Nat)(vC vP:U)(mg:Nat)(CV:List Pc)(lb tp:Nat)(v:U):Prop where
 q:dK B w1 pb s T st g vC vP mg
 cs:iO B w1 vC CV
 low:Below B w w1
 box:w1.heap[lb]?=V (.cells #[iQ tp,v] 109)
 size:B<=w1.heap.size
theorem aTb{a:Y}(d:dK B a pb s T s1 g vC vP mg)(j:iO B a vC CV)(c:Below B w a)(m:B<=w.heap.size)(l:a.heap[lb]?=V (.cells #[iQ tp,v] 109)){e:Nat}(b:zg a w1 (V pb))(k:fA B w1 pb s T e g vC vP (.map (V mg))):wE B pb w w1 s T ⟨e,s1.vars,s1.pz⟩ g vC vP mg CV lb tp v:=by obtain⟨left,i,f⟩:=d.pp.box;have n:=c.size;have o:=b.size;refine⟨d.take b k,j.take i b,c.grown b (by omega) (by simpa using f),?_,by omega⟩;rw[b.block lb (bA l) ?_];all_goals grind[cU]
theorem wE.boxKept{b:Y}(a:wE B pb w w1 s T s1 g vC vP mg CV lb tp v)(d:dF B w1.heap.size mg w1 b):b.heap[lb]?=V (.cells #[iQ tp,v] 109):=by
 rw[d.block lb (bA a.box) (Or.inr ⟨?_,λj m l e=>?_⟩)]
 .exact a.box
 .rintro rfl;obtain⟨f,⟨k,i,c,_⟩,_⟩:=a.q.map;have:=a.box;rw[c]at this;cases this
 rw[a.box]at e;grind
theorem wE.err{a:Y}(b:wE B pb w w1 s T s1 g vC vP mg CV lb tp v)(q:B<=w.heap.size)(m:B<=lb)(d:dF B w1.heap.size mg w1 a){i:Nat}{l k:U}(c:fA B a pb s T i g vC l k)(j:U):zx a (aQ lb 1)=V v/\zf a (aQ lb 1)=zn/\Below B w (zt a (aQ lb 1) j)/\fA B (zt a (aQ lb 1) j) pb s T i g vC l k:=by
 have f:=b.boxKept d;obtain⟨left,r,p⟩:=c.box;obtain⟨n,o,t⟩:=c.glyph;have e:=b.low.trans (d.below b.size);have u:=e.size;refine⟨by unfold zx;rw[f];rfl,by unfold zf;rw[f];rfl,e.grown (cD _ _ _) (by omega) (by simpa using m),c.far (cD _ _ _) ?_ ?_⟩;all_goals grind[cU]
theorem wE.ok{a:Y}{o:bC}(c:wE B pb w w1 s T s1 g vC vP mg CV lb tp v)(y:B<=w.heap.size)(q:B<=lb)(t:zj vC≠V lb)(i:dF B w1.heap.size mg w1 a){p f:U}{P:List (Lt×U)}(u:dK B a pb s T o g vC p mg)(m:zs a w1.heap.size 55 2 f (Z P) (bH P))(j:∀e∈P,zs a w1.heap.size 52 2 e.2 (Z e.1.2) (aV e.1.2)):zx a (aQ lb 1)=V v/\zf a (aQ lb 1)=zn/\wE B pb w (zt a (aQ lb 1) f) s T o g vC p mg CV lb tp f/\lA (zt a (aQ lb 1) f) B (P,f):=by
 have b:=c.boxKept i;obtain⟨x,r,_⟩:=c.q.map;have k:=c.low.trans (i.below c.size);have z:=k.size;have d:=cD a (aQ lb 1) f;have n:=c.size;refine⟨by unfold zx;rw[b];rfl,by unfold zf;rw[b];rfl,⟨u.other b d,(c.cs.kept r i).other b t d,k.grown d (by omega) (by simpa using q),heap_setCell_same a lb 1 _ _ _ b,by have:=d.size;omega⟩,(fM m n).kept d (Or.inr (aD4 m b (by decide))),λe l=>(fM (j e l) n).kept d (Or.inr (aD4 (j e l) b (by decide)))⟩
theorem aTc(e7:∀d3,(aH T d3).kind∈jU)(g2:∀d3,(aH T d3).txt.size<=1000000)(b1:s.size<=3000)(h8:Z T<=1000000)(a9:wM B w pb s T st g vC vP CV)(P:B<=w.heap.size)(c:Z st.pz<=st.i)(i9:Z CV<=st.i):Calls zm 50 #[pQ pb] w λk i6=>aJy B pb w s T g CV (aH T st.i).pos (jO T st) k i6:=by
 have j1:=@run_makeMap zm;obtain⟨j5,c9⟩:=a9.pp;have j0:=c9.lt;obtain⟨left,R,_⟩:=c9.box;have c7:=R.c2;have e1:∀d,zx (w.alloc d) (aQ pb 2)=V (iQ (aH T st.i).pos):=λd=>aC (aI w d) c7
 have h2:=R.c6;have h4:=R.soft 6;have f7:=R.lt;obtain⟨b6,b7,rfl⟩:=aZ a9.cs.row;have d7:=O a9;have a8:=O e7;have g6:=O g2;clear a9 R c9 e7 g2;obtain⟨tp,b2⟩:∃tp,(aH T st.i).pos=tp:=⟨_,rfl⟩;rw[b2]at c7;simp only[b2]at e1 ⊢;have i8:=O b2;clear b2;go_enter Tryz.func50,Tryz.ntmps50;go_upto_region 3 with(fail);have e8:((zt w (aQ pb 6) (.map (V (w.heap.size+1)))).alloc (.cells #[iQ tp,nQ] 109)).alloc (.map #[] 0)=zt ((w.alloc (.cells #[iQ tp,nQ] 109)).alloc (.map #[] 0)) (aQ pb 6) (.map (V (w.heap.size+1))):=by rw[ze _ _ _ _ (by simp;omega),ze _ _ _ _ f7]
 have g0:=aWk d7.o P #[iQ tp,nQ] e8;have g1:w.heap.size<(((zt w (aQ pb 6) (.map (V (w.heap.size+1)))).alloc (.cells #[iQ tp,nQ] 109)).alloc (.map #[] 0)).heap.size:=by simp[zt];omega
 generalize ((zt w (aQ pb 6) (.map (V (w.heap.size+1)))).alloc (.cells #[iQ tp,nQ] 109)).alloc (.map #[] 0)=W at *;have f6:=wS d7.o.cs.row;generalize w.heap.size+1=mg at *;have u:=P;obtain⟨lb,f5⟩:∃lb,w.heap.size=lb:=⟨_,rfl⟩;rw[f5]at g1 f6 g0 P f7;simp only[f5];obtain⟨e6,e4,e3,e9⟩:=g0;clear e8 c7 e1 h2 h4;have o:=O e6;have H:=O e4;have D:=O e3;have M:=O e9;clear e6 e4 e3 e9;have f:=O (oQ 102 (by decide) (by decide) (by decide) a8.o b1 o.o.pp);rw[show fF 102=36 from rfl]at f;by_cases E:(aH T st.i).kind=102
 .rw[aT E,fL E]at f;go_upto_region 8 with(first
   |(go_at_call 87;refine(aD f).mono ?_;rintro k a ⟨rfl,e,c⟩;have J:=O e;have d8:=O c;clear e c)
   |go_in)
  have b0:=o.o.take J.o d8.o;obtain⟨j3,f2,h7⟩:=o.o.pp.box;have f3:=H.o.take f2 J.o;have f1:Below B w a:=D.o.grown J.o (by have:=D.o.size;omega) (by simpa using h7);have g3:a.heap[lb]?=V (.cells #[iQ tp,nQ] 109):=by rw[J.o.block lb g1 (by simp;omega)];exact M.o
  have q:=O b0;have I:=O f3;have b:=O f1;have r:=O g3;have L:aE (lD T st=.ok (⟨st.i+1,[],st.pz⟩,[])):=O (by rw[lD,aT E]);clear b0 f2 f3 f1 g3 o H D M J d8 f;obtain⟨i0,S,h6⟩:=q.o.pp.box;have a6:=S.c4;have d5:zx a (aQ lb 0)=V (iQ tp):=by unfold zx;rw[r.o];rfl
  have F:zx a (aQ lb 1)=V (nQ):=by unfold zx;rw[r.o];rfl
  have d4:∀d,zx (a.alloc d) (aQ pb 4)=V (.slice b6 (Z CV) b7):=λd=>aC (aI a d) a6
  have h9:=b.o.size;clear S;go_cut [] (λC=>∃A,dK B C pb s T ⟨st.i+1,[],st.pz⟩ g A vP mg/\iO B C A (CV++[((tp,[]),nQ)])/\Below B w C);case first=>
   refine tT ?_;have d0:=O (q.o.below (aN (w1:=a.drew) ⟨1,rfl⟩));have a0:=O (I.o.below (aN (w1:=a.drew) ⟨1,rfl⟩));have c8:aE (Below B w a.drew):=O ⟨b.o.os,b.o.tape,b.o.output,b.o.size,b.o.block⟩;have d1:aE (lA a.drew B ([],nQ)):=O ⟨zo _ _ _ _,λj4 m=>by simp at m⟩;go_region_law (refine dG aJz z1 (a0.out.row.alloc _) ?_;intro i2 b8 z a1;obtain⟨h1,h3,l⟩:=aM0 d0.out a0.out c8.out u d1.out z a1;have c2:=O l;obtain⟨i4,i5,rfl⟩:=aZ z;clear z a1 l);all_goals
    refine tU ?_;go_wp2_with fail;go_meet;case rel=>exact⟨_,c2.o⟩
  case rest=>
   obtain⟨A,x,Q,N⟩:=hcut;have n:=O (oQ 46 (by decide) (by decide) (by decide) a8.o b1 x.pp);rw[show fF 46=46 from rfl]at n;have c4:=O x;have c0:=O Q;have b9:=O N;clear x Q N q I b r a6 d4 d5 F;obtain⟨g8,X⟩:∃c6,decide ((aH T (⟨st.i+1,[],st.pz⟩:bC).i).kind=46)=c6:=⟨_,rfl⟩;rw[X]at n;go_wp2_with(first
    |(go_at_call 87;refine(aD n).mono ?_;rintro k i7 ⟨rfl,a2,a4⟩;have c1:=O a2;have c3:=O a4;clear a2 a4)
    |go_in)
   go_ret;exact aK0 u L.o X c4.o c0.o b9.o c1.o c3.o rfl
 rw[aS E,gG E]at f;have a7:aE (lD T st=fR T (Z T+1) ⟨st.i,[],st.pz⟩ []):=O (by rw[lD,aS E]);have G:=O (λw1 (b0:dK B w1 pb s T ⟨st.i,[],st.pz⟩ g (.slice b6 (Z CV) b7) vP mg) (h5:B<=w1.heap.size)=>aWi a8.o g6.o b1 h8 b0 h5 c (zq _));have c5:=O (λw1 (e:zg W w1 (V pb)) (c:fA B w1 pb s T st.i g (.slice b6 (Z CV) b7) vP (.map (V mg)))=>aTb o.o H.o D.o u M.o e c);cases m:fR T (Z T+1) ⟨st.i,[],st.pz⟩ []with
 |error p=>
  rw[m]at G;have L:aE (jO T st=.error p):=O (by rw[jO,a7.o,m]);clear m a7 o H D M;go_wp2_with(first
   |(go_at_call 87;refine(aD f).mono ?_;rintro k w1 ⟨rfl,e,c⟩;have i:=O (c5.o w1 e c);clear e c)
   |(go_at_call 88;refine(G.o _ i.o.q i.o.size).mono ?_;rintro k b8 ⟨a3,g7,i1,h0,j2,j7,j6,rfl,l,f8⟩;obtain⟨F,e2,a5⟩:=i.o.err u P a3 l (.slice g7 i1 h0);have j:=O a5;have g4:=O f8;clear a3 l f8 a5)
   |go_in)
  go_ret;refine⟨j.o.1,?_⟩;rw[L.o];exact⟨_,_,_,_,rfl,j.o.2,g4.o⟩
 |ok y=>
  obtain⟨b5,g9⟩:=y;rw[m]at G;have e0:aE (lD T st=.ok (b5,g9)):=O (by rw[a7.o,m]);clear m a7 o H D M;go_upto_region 8 with(first
   |(go_at_call 87;refine(aD f).mono ?_;rintro k w1 ⟨rfl,e,c⟩;have i:=O (c5.o w1 e c);clear e c)
   |(go_at_call 88;refine(G.o _ i.o.q i.o.size).mono ?_;rintro k b8 ⟨a3,t,j8,i3,rfl,f9,d2,f0,e5⟩;obtain⟨b3,b4,rfl⟩:=aZ d2;obtain⟨F,e2,a5,f4⟩:=i.o.ok u P f6 a3 f9 d2 f0;have j:=O a5;have d6:=O f4;have d9:=O e5;clear a3 f9 d2 f0 a5 e5 f4)
   |go_in)
  have L:aE (lD T st=.ok (b5,t.map zu)):=O (by rw[e0.o,d9.o]);clear c5 G f i e0 d9 F e2;generalize zt b8 (aQ lb 1) (.slice b3 (Z t) b4)=a at *;have q:=O j.o.q;have I:=O j.o.cs;have b:=O j.o.low;have r:=O j.o.box;have g5:=O d6.o;clear j d6;obtain⟨i0,S,h6⟩:=q.o.pp.box;have a6:=S.c4;have d5:zx a (aQ lb 0)=V (iQ tp):=by unfold zx;rw[r.o];rfl
  have F:zx a (aQ lb 1)=V (.slice b3 (Z t) b4):=by unfold zx;rw[r.o];rfl
  have d4:∀d,zx (a.alloc d) (aQ pb 4)=V (.slice b6 (Z CV) b7):=λd=>aC (aI a d) a6
  have h9:=b.o.size;clear S;go_cut [] (λC=>∃A,dK B C pb s T b5 g A i3 mg/\iO B C A (CV++[((tp,t),.slice b3 (Z t) b4)])/\Below B w C);case first=>
   refine tT ?_;have d0:=O (q.o.below (aN (w1:=a.drew) ⟨1,rfl⟩));have a0:=O (I.o.below (aN (w1:=a.drew) ⟨1,rfl⟩));have c8:aE (Below B w a.drew):=O ⟨b.o.os,b.o.tape,b.o.output,b.o.size,b.o.block⟩;have d1:aE (lA a.drew B (t,.slice b3 (Z t) b4)):=O g5.o;go_region_law (refine dG aJz z1 (a0.out.row.alloc _) ?_;intro i2 b8 z a1;obtain⟨h1,h3,l⟩:=aM0 d0.out a0.out c8.out u d1.out z a1;have c2:=O l;obtain⟨i4,i5,rfl⟩:=aZ z;clear z a1 l);all_goals
    refine tU ?_;go_wp2_with fail;go_meet;case rel=>exact⟨_,c2.o⟩
  case rest=>
   obtain⟨A,x,Q,N⟩:=hcut;have n:=O (oQ 46 (by decide) (by decide) (by decide) a8.o b1 x.pp);rw[show fF 46=46 from rfl]at n;have c4:=O x;have c0:=O Q;have b9:=O N;clear x Q N q I b r a6 d4 d5 F;obtain⟨g8,X⟩:∃c6,decide ((aH T (b5:bC).i).kind=46)=c6:=⟨_,rfl⟩;rw[X]at n;go_wp2_with(first
    |(go_at_call 87;refine(aD n).mono ?_;rintro k i7 ⟨rfl,a2,a4⟩;have c1:=O a2;have c3:=O a4;clear a2 a4)
    |go_in)
   go_ret;exact aK0 u L.o X c4.o c0.o b9.o c1.o c3.o rfl
end
def aTd(a k:Nat)(w:Y)(l:ByteArray)(b:List Tk)(i:Nat)(m:Except Nat (bC×List (Nat×List Lt)))(g:Ending)(e:Y):Prop:=
 Below a w e/\
  match m with
  | .ok (s1,cs)=>∃c d f,g=.returned (.bool true)/\wM a e k l b s1 i c d f/\f.map lM=cs
  | .error p=>∃j c d n,g=.returned (.bool false)/\fA a e k l b j i c d n/\(aH b j).pos=p
structure TLq(B pb:Nat)(w:Y)(s:ByteArray)(T:List Tk)(g:Nat)(r:Except Nat (bC×List (Nat×List Lt)))(k:Nat)(wr:Y)(st:bC)(vC vP:U)(CV:List Pc):Prop where
 t:wM B wr pb s T st g vC vP CV
 low:Below B w wr
 eq:r=gX T k st (CV.map lM)
 fuel:Z T<st.i+k
 pl:Z st.pz<=st.i
 few:Z CV<=st.i
theorem aTe{g o:Nat}{q:ByteArray}{a:List Tk}{u:Nat}{G H:U}{e:List Pc}{b:bC}(P:∀F,(aH a F).kind∈jU)(W:∀F,(aH a F).txt.size<=1000000)(b7:q.size<=3000)(b2:Z a<=1000000)(M:∀b c C,jO a b=.ok (c,C)->b.i<Z a->b.i<c.i/\Z c.pz<=Z b.pz+(c.i-b.i))(L:wM g w o q a b u G H e)(b1:g<=w.heap.size)(n:Z b.pz<=b.i)(Q:Z e<=b.i):Calls zm 27 #[pQ o] w λk c0=>aTd g o w q a u (gX a (Z a+1) b (e.map lM)) k c0:=by
 have A:aE (TLq g o w q a u (gX a (Z a+1) b (e.map lM)) (Z a+1) w b G H e):=O ⟨L,dP,rfl,by omega,n,Q⟩;obtain⟨f,D⟩:∃f,gX a (Z a+1) b (e.map lM)=f:=⟨_,rfl⟩;rw[D]at A;simp only[D];have I:=O P;have b0:=O W;have a5:=O M;clear L D P W n Q M;go_enter Tryz.func27,Tryz.ntmps27;go_wp2;go_loopg [] (Z a+1) (λb9 wr=>∃c a1 a3 s,TLq g o w q a u f b9 wr c a1 a3 s);exact⟨b,G,H,e,A.o⟩;clear A;obtain⟨c,a1,a3,s,d⟩:=hrel;obtain⟨c6,x⟩:=d.t.pp;have b4:=x.lt;obtain⟨left,E,c2⟩:=x.box;have c3:=d.fuel;have b6:=d.pl;have b3:=d.few;have b8:=d.low.size;have J:=E.c1;obtain⟨z,rfl⟩:∃z,gk=z+1:=⟨gk-1,by omega⟩;by_cases l:(aH a c.i).kind=101
 .rw[l,show fF 101=-1 from rfl]at J;have j:aE (f=.ok (c,s.map lM)):=O (by rw[d.eq,gX,aT l]);have i:=O d;clear d E x;go_wp2_with fail;go_ret;refine⟨i.o.low,?_⟩;rw[j.o];exact⟨_,_,_,rfl,i.o.t,rfl⟩
 have b5:(fF (aH a c.i).kind != -1)=true:=by
  simp only[bne_iff_ne];intro k;exact l (aGl _ (I.o c.i) 101 (by decide) (by rw[k];rfl))
 have r:=O (aTc I.o b0.o b7 b2 d.t (Nat.le_trans b1 b8) b6 b3);have t:=O d.eq;have i:=O d;clear d E x;obtain⟨X,R⟩:∃X,fF (aH a c.i).kind=X:=⟨_,rfl⟩;rw[R]at J b5;clear R;cases hq:jO a c with
 |error p=>
  rw[hq]at r;have j:aE (f=.error p):=O (by rw[t.o,gX,aS l,hq]);clear hq t;go_wp2_with(first
   |(go_at_call 50;refine(aD r).mono ?_;rintro k w1 ⟨m,c5,a2,a4,c7,rfl,n,S⟩;have B:=O m;have a6:=O n;have a8:=O S;clear m n S)
   |go_in)
  go_ret;refine⟨i.o.low.trans B.o,?_⟩;rw[j.o];exact⟨_,_,_,_,rfl,a6.o,a8.o⟩
 |ok y=>
  obtain⟨a0,C⟩:=y;have c4:=a5.o _ _ _ hq b4;rw[hq]at r;have j:aE (f=gX a z a0 (s.map lM++[((aH a c.i).pos,C)])):=O (by rw[t.o,gX,aS l,hq]);clear hq t;go_wp2_with(first
   |(go_at_call 50;refine(aD r).mono ?_;rintro k w1 ⟨m,a2,a4,c1,c8,rfl,T,N⟩;have B:=O m;have a9:=O T;have a7:=O N;clear m T N)
   |go_in)
  go_roundg z;case measure=>omega
  case rel=>exact⟨a0,a2,a4,_,a9.o,i.o.low.trans B.o,by rw[j.o,z0,List.map_singleton,lM,a7.o],by omega,by omega,by simp;omega⟩
theorem aTf{w:Y}{G:Array Oper}{H:List Oper}{l:Oper}{k:Act}{u:Exit->Act->Y->Prop}(y:l.guard=zl)(m o:Operand)(g:TypeId)
  (B:l.op=.call {callee:=.builtin .append,args:=#[m,o],argTypes:=#[g,g]})
  (e:Nat) (b:TypeId) (c:TypeInfo) (t:U) (a q:Nat) (E:Tryz.prog.underlying g=V (.slice b)) (z:Tryz.prog.info? b=V c) (a4:c.zero=V t) (a1:c.size=a) (R:c.bytes=q) (a5:t.cells.size=a) (a2:0<a)
  (v:U) (d:Nat) (p:List U) (D:k.eval m=v) (r:zs w e b a v d p) (J:U) (f L:Nat) (j:List U) (F:k.eval o=J) (C:zs w L b a J f j) (P:∀I∈j,I.oneCell'=zp) (a0:d+f<=maxLen) (S:(d+f)*q<=140737488355328) (Q:e<=w.heap.size)
  (x:∀n i,zs i e b a n (d+f) (p++j)->zg w i (zj v)->wpList zm G u H (k.put l.dst n) i):wpList zm G u (l::H) k w:=by
 have T:=C;obtain⟨W,⟨rfl,X⟩|⟨N,M,a8,rfl,a9,b0,b2⟩⟩:=C
 .subst X;have a3:j=[]:=zk (by omega);subst a3;refine wpList_append_own_none y m o g B e b c a E z v d p D r F ?_;exact x v w (by simpa using r) (World.grownBy.refl _ _)
 refine wpList_append_own w y m o g B e b c t a q E z a4 a1 R a5 a2 v d p D r (aQ N 0) f M j F W (λs I A=>?_) P a0 S Q (λn i a6 a7 _=>x n i a6 a7);have b1:=(eE A);have:=T.cellAt s (by omega);rw[A]at this;cases s with
 |zero=>simpa[Addr.add]using this
 |succ s=>simpa[Addr.add]using this
theorem aCn(a:List Pc):∀b (c:b<Z a),(wL a)[b*2]?=V (iQ a[b].1.1)/\(wL a)[b*2+1]?=V a[b].2:=by
 induction a with
 |nil=>intro b c;simp at c
 |cons x r ih=>
  grind[wL,List.getElem?_cons_succ]
theorem aTg(d:List Us):∀c∈jS d,c.oneCell'=true:=by intro c a;unfold jS at a;rw[List.mem_flatMap]at a;obtain⟨e,_,b⟩:=a;simp at b;rcases b with rfl|rfl|rfl<;>rfl
theorem aTh(a b:List Us):jS (a++b)=jS a++jS b:=by simp[jS]
structure aFm(p:Pc):Prop where
 short:∀q∈p.1.2,eO q.1.2
 count:aY (p.1.2.map zu)<=100000
 len:Z p.1.2<=100000
def jR(a:List Pc):List Us:=a.flatMap λb=>tV (b.1.2.map zu)
theorem aTi(a:List Pc)(b:Nat)(c:b<Z a):jR (a.take (b+1))=jR (a.take b)++tV (a[b].1.2.map zu):=by grind[jR,List.flatMap_singleton,List.take_succ_eq_append_getElem]
theorem aTj(a:List Pc)(b:Nat):Z (jR (a.take b))<=Z (jR a):=by grind[jR,zi,List.take_append_drop]
theorem aTk{R M:Nat}{N:U}{a:List Pc}(n:iO R w N a)(c2:zx w (aQ M 4)=V N)(I:∀b7∈a,aFm b7)(c4:Z a<=1000000)(c1:Z (jR a)<=1000000):Calls zm 29 #[pQ M] w λi Q=>∃v,i=.returned v/\zs Q w.heap.size 106 3 v (Z (jR a)) (jS (jR a))/\aB w Q:=by
 obtain⟨b4,a5,a6,a7,a8⟩:=info_parts aLd;obtain⟨d0,d1,rfl⟩:=aZ n.row;have e:=O n;have a2:=O I;clear n I;go_enter Tryz.func29,Tryz.ntmps29;go_wp2;go_loopw[3,11] (λb6 u wr=>∃b:Nat,b<=Z a/\u=iQ b/\zs wr w.heap.size 106 3 b6 (Z (jR (a.take b))) (jS (jR (a.take b)))/\aB w wr) (λ_ u _=>Z a-(intOf u).toNat);exact⟨0,zq _,rfl,zo _ _ _ _,dP⟩;obtain⟨b,c3,rfl,k,d⟩:=hrel;obtain⟨c5,c6,rfl⟩:=aZ k;have b3:=d.size;have x:=O d;have l:=O k;by_cases r:b<Z a
 .have j:a[b]∈a:=zd _;have f:=a2.o _ j;obtain⟨g,m,J,E⟩:=aA3 (P:=a[b].1.2) (e.o.each _ j).1 (e.o.each _ j).2 f.short (by have:=f.count;omega) (by have:=f.len;omega);obtain⟨B,b9,L⟩:=mJ e.o.row (by omega);simp at L;obtain⟨rfl,rfl⟩:=L;have z:zx w (aQ B (b*2))=V (iQ a[b].1.1):=by rw[e.o.row.cellAt _ (by omega),(aCn a b r).1]
  have A:zx w (aQ B (b*2+1))=V (.slice g a[b].1.2.length m):=by rw[e.o.row.cellAt _ (by omega),(aCn a b r).2,J]
  have c0:=aC d z;have a4:=aC d A;have a9:=f.count;have t:=aTi a b r;have b1:=aTj a (b+1);rw[t,zi]at b1;have a3:=O t;have H:Z (a[b].1.2.map zu)=a[b].1.2.length:=by simp
  rw[<-H]at a4;clear z A J f j t H;generalize a[b].1.2.map zu=c at *;generalize a[b].1.1=at0 at *;generalize jR (a.take b)=U0 at *;have S:=O (λwx (b2:bU wx g c)=>aV5 g m c wx b2 a9);have X:=O (E.below d (zr _));clear k d E;go_wp2_with(first
   |(go_at_call 51;refine(S.o _ (X.o.below (aI _ _) (zr _))).mono ?_;rintro i w1 ⟨c8,rfl,s,q⟩;have o:=(x.o.alloc b3 (.cells #[iQ at0,.slice g (Z c) m] 109));have p:=o.trans (q.mono o.size);have C:=p.size;have G:=bF (l.o.alloc _) q (zr _);have y:=O G;have a0:=O s;have T:=O p;obtain⟨c7,b8,rfl⟩:=aZ s;clear G s q o p)
   |(at_builtin;refine aTf rfl (.tmp 15) (.tmp 18) 76 rfl w.heap.size 106 b4 (.agg #[.string ⟨#[]⟩,.bool false,iQ 0]) 3 32 Tryz.underlying76 a5 a6 a7 a8 rfl (by decide) _ _ _ rfl y.o _ _ _ _ rfl a0.o (aTg _) (by unfold maxLen;omega) (by omega) C ?_;intro c9 d2 F D;have a1:=O F;have W:=O D;clear F D)
   |go_in)
  exact⟨⟨b+1,by omega,by go_num,by rw[a3.o,zi,aTh];exact a1.o,T.o.grown W.o C (λb5 i=>(bS y.o b5 i).1)⟩,by simp[intOf];omega⟩
 have b0:b=Z a:=by omega
 subst b0;clear k d;rw[z2]at l;go_wp2;go_ret;exact⟨_,rfl,by rw[z2];exact l.o,x.o⟩
theorem aTl{e:Nat}{a:TypeId}{j f b d c:Nat}{k:List U}(g:zs w e a j (sQ f b c) d k):b=d/\b<=c:=by
 obtain⟨_,⟨a,_⟩|⟨n,l,m,a,_,_,i,_⟩⟩:=g
 .cases a
 cases a;exact⟨rfl,i⟩
theorem aTm{a:ByteArray}{c b:Nat}(m:0<Z (dL a 0))(f:zs w1 w.heap.size 149 2 (sQ c (Z (dL a 0)) b) (Z (dL a 0)) (qN (dL a 0)))(i:aB w w1):∃k g,cG w.heap.size (w1.alloc (.cells #[sQ c (Z (dL a 0)) b,.int .i32 0,iQ 0,.string ⟨#[]⟩,nQ,nQ,.map zl] 74)) w1.heap.size a 0 c 0 k g 0 0 ⟨#[]⟩ (nQ) (nQ) (.map zl):=by
 obtain⟨_,l⟩:=aTl f;have d:Z (dL a 0)-1+1=Z (dL a 0):=by omega
 have e:b-1+1=b:=by omega
 have j:=i.size;refine⟨Z (dL a 0)-1,b-1,⟨?_,j,?_,by omega,rfl,zq _⟩⟩
 .rw[d,e];unfold cU;show (w1.heap.push _)[w1.heap.size]?=_;simp
 rw[Nat.zero_add,Nat.zero_add,d,e];exact bF f (aI w1 _) (zr _)
theorem aTn(a:ByteArray)(w:Y)(o:a.size<=3000):Calls zm 26 #[.string a] w λd s=>∃e b,d=.returned (pQ e)/\aB w s/\wM w.heap.size s e a (fX a 0) ⟨0,[],[]⟩ b (nQ) (nQ) []:=by
 have u:=O (aVt a w o);have f:=O (λ(A:Y) (e b r k:Nat) (C:cG w.heap.size A e a 0 b 0 r k 0 0 ⟨#[]⟩ (nQ) (nQ) (.map zl))=>(aMd (a.size+1) C o (by omega)).mono λd w1 G=>aM6 (T:=fX a 0) (i:=0) (zq _) (by omega) rfl G);have E:0<Z (dL a 0):=(aCz a a.size 0 (by omega)).1;generalize aH (fX a 0) 0=t at f;obtain⟨N,P,tp⟩:=t;simp only at f;go_enter Tryz.func26,Tryz.ntmps26;go_wp2_with(first
  |(go_at_call 48;refine(aD u).mono ?_;rintro d w1 ⟨b,B,rfl,n,g⟩;obtain⟨r,k,p⟩:=aTm E n g;have j:=O g;have z:=O p;clear n g p)
  |(go_at_call 49;refine(f.o _ _ _ _ _ z.o).mono ?_;rintro d Q ⟨rfl,m,⟨left,c⟩,l⟩;have H:=c.c1;have I:=c.c2;have J:=c.c3;have L:=c.soft;have x:=O m;have y:=O l;clear m l c)
  |go_in)
 go_ret;refine⟨_,b,rfl,?_,⟨_,y.o⟩,zo _ _ _ _,zo _ _ _ _,λM F=>by simp at F⟩;have q:=j.o.size;have D:=j.o.alloc q (.cells #[sQ b (Z (dL a 0)) B,.int .i32 0,iQ 0,.string ⟨#[]⟩,nQ,nQ,.map zl] 74);exact D.grown (tX (tX (tX x.o _) _) _) (by simp;omega) (by simpa using q)
theorem aTo{P:List Bn}{g:U}(c:zs w 0 209 2 g (Z P) (lI P))(d:∀i∈P,fN w i.2 i.1.2)(D:Z P<=60):∃v a,(Builtin.append_ #[180,180] 180 #[nQ,g]).run zm w=.ok v a/\rV w a v P:=by
 obtain⟨f,e,n,o,p⟩:=info_parts aRw;have b:=zo w w.heap.size 209 2;have m:=c;obtain⟨_,⟨rfl,s⟩|⟨l,j,A,rfl,B,E,C,F,H,G⟩⟩:=m
 .have q:P=[]:=zk s;subst q;exact⟨_,w,run_append_owned_none w w.heap.size 180 180 209 f 2 zh e _ 0 [] b,by simp,b,dP⟩
 obtain⟨v,a,u,t,r,_⟩:=run_append_own (P:=zm) w w.heap.size 180 180 209 f (.agg #[iQ 0,nQ]) 2 32 zh e n o p rfl (by decide) _ 0 [] b (aQ l 0) (Z P) j (lI P) (bGz P) (λy z x=>c.cells rfl y z x) (bH1 w P d) (by unfold maxLen;omega) (by omega) (zr _);refine⟨v,a,u,d,by simpa using t,(dP).grown r (zr _) λI k=>by simp[zj]at k⟩
theorem aK2(w:Y)(a c b:Nat):∃d,(w.drewN (a+c)).drewN b=w.drewN (a+d):=⟨c+b,by rw[World.drewN_drewN,Nat.add_assoc]⟩
def aK3(w:Y)(c d:List Nd)(a:bK)(i:Ending)(g:Y):Prop:=∃(f:U) (e:Bool),i=.returned (.tuple #[f,.bool e])/\e=(dD c d a).isSome/\(∀b,dD c d a=V b->nH g f b)/\aB w g
theorem aK4(f3 f5:Option Addr)(i7 q:Nat)(e b:List Nd)(h6:U)(y:bK)(w:Y)(g0:dI w f3 e)(g2:dI w f5 b)(l6:Z b<=q)(k7:aP e 1=zp)(k8:aP b 1=zp)(l0:Z e<=60)(i8:Z b<=60)(g3:gQ y)(j5:nH w h6 y):Calls zm 112 #[.slice f3 (Z e) i7,.slice f5 (Z b) q,h6] w λG e6=>aK3 w e b y G e6:=by
 obtain⟨k3,j1,j2,j3,j4⟩:=info_parts aRw;obtain⟨f2,g5,g1,h1⟩:=j5;have j7:Z f2<=60:=by have:=g3.few;rw[<-g5]at this;simpa using this
 obtain⟨n0,n1,h3,g4⟩:=aTo h1 g1 j7;have g6:=O h3;have i5:=O g4;have e9:=O g5;have h8:=O g0;have a8:=O g2;have i1:=O g3;clear h3 g4 g0 g2 h1 g1;go_enter Tryz.func112,Tryz.ntmps112;go_wp2_with(first
  |(at_builtin;refine Lib.wpList_append_run _ rfl _ _ _ _ rfl _ _ rfl rfl _ _ (aD g6) ?_)
  |go_in)
 clear g6;go_loopw[8,9,10] (λk5 e5 e2 wr=>∃(g a i:Nat) (c:List Bn),g<=Z e/\a<=Z b/\e2=iQ g/\e5=iQ a/\rV w wr k5 c/\gQ (c.map zu)/\aP (e.drop g) i=zp/\aP (b.drop a) i=zp/\dD e b y=dD (e.drop g) (b.drop a) (c.map zu)) (λ_ _ e2 _=>Z e-(intOf e2).toNat);exact⟨0,0,1,f2,zq _,zq _,rfl,rfl,i5.o,by rw[e9.o];exact i1.o,k7,k8,by rw[e9.o];rfl⟩;obtain⟨g,a,i,c,m4,g7,rfl,rfl,b2,d7,j,a6,o⟩:=hrel;have l5:Z c<=60:=by have:=d7.few;simpa using this
 by_cases a4:g<Z e
 .obtain⟨i,rfl⟩:∃k6,i=k6+1:=by
   cases i with
   |zero=>rw[aAq e g a4]at j;simp at j
   |succ i=>exact⟨i,rfl⟩
  have d9:a<Z b:=aE5 a6;have m3:(a:Int)<(Z b:Int):=by omega
  have j8:(g:Int)<(Z e:Int):=by omega
  obtain⟨b1,h7,rfl,f7,d4⟩:=h8.o.cell g a4;obtain⟨F,L,rfl,f8,f9⟩:=a8.o.cell a d9;have D:=b2.2.2;have i9:=aC D f7;have c1:=aC D d4;have l2:=aC D f8;have l3:=aC D f9;have i2:aE (b1<w.heap.size):=O (zc w _ d4);have H:=λe5=>aOq e b g a (c.map zu) e5 a4
  have Q:=aOr e b g a (c.map zu) a4;have P:=aOs e b g a (c.map zu) a4 d9;rw[aA2 e g i a4,z3]at j;obtain⟨a5,j⟩:=j;have S:aP (b.drop a) (1+i)=true:=by rw[<-a6];congr 1;omega
  have R:=aBg (b.drop a) 1 i S;have T:=a6;rw[aA2 b a i d9,z3]at T;generalize e[g]=nd at *;obtain⟨E,f⟩:=nd;simp only at i9 c1 H Q;have C:=O b2;have b9:=O d7;clear b2 d7 f7 d4 f8 f9 a6;by_cases J:E.toList.isEmpty=zp
  .have X:=aE4 a5 J;obtain⟨h4,h5⟩:=X;simp only at h4 h5;obtain⟨k,z⟩:∃k,k=a+aM (b.drop a) 1:=⟨_,rfl⟩;have c2:=oC (b.drop a) 1;have c3:=aOi (b.drop a) 0 (by intro s;have:=congrArg Z s;simp at this;omega);simp at c2 c3;have l7:a<k:=by omega
   have g8:k<=Z b:=by omega
   have a3:Z ((b.drop a).take (aM (b.drop a) 1))=k-a:=by simp;omega
   have l8:(a:Int)<=(k:Int):=by omega
   have l9:(k:Int)<=(q:Int):=by omega
   have m0:¬q=a:=by omega
   have m1:(0:Int)<=(a:Int):=by omega
   have e8:=O a3;have b3:=a8.o.sub a (aM (b.drop a) 1);have h9:aE (fN w (.slice (V (aQ F (L+a*2))) (k-a) (q-a)) ((b.drop a).take (aM (b.drop a) 1))):=O ⟨_,q-a,by rw[a3],b3⟩;have d0:=O (λwx (k2:dI wx (V (aQ F L)) b)=>by have:=bBt (V (aQ F L)) q b a i wx k2 i8 S g7;rw[<-z]at this;exact this);have c0:aE (aP (e.drop (g+1)) i=zp):=O (by rw[kE (n:=(E,f)) J]at j;exact j);have f0:aE (aP (b.drop k) i=zp):=O (by have:=R.2;rw[List.drop_drop,<-z]at this;exact this);have e7:=O (λwx (D:aB w wx)=>b3.below D (zr _));cases hl:look (c.map zu) f with
   |none=>
    have m:aE (dD e b y=dD (e.drop (g+1)) (b.drop k) (c.map zu++[(f,(b.drop a).take (aM (b.drop a) 1))])):=O (by rw[o,Q J hl,z]);have a0:=O (bH2 hl);have i3:=O (b9.o.snoc hl h4 h5 R.1 (by rw[a3];omega));clear o H Q P j S R T a5 z c2 c3 a3 hl b3;go_wp2_with(go_at_call 142;refine(aD d0 _ (a8.o.below D (zr _))).mono ?_;rintro G w1 ⟨rfl,u⟩;have a9:=O u;have d5:=aC u c1;clear u);have t:=C.o.below a9.o;obtain⟨c8,c9,rfl,I⟩:=aJ6 t.2.1;have p:=O t;have b0:=O I;clear t I;go_loopw[12,13] (λb7 x b8=>∃d:Nat,d<=Z c/\x=iQ d/\b7=.bool zn/\(∃r,b8=w1.drewN r)) (λ_ x _=>Z c-(intOf x).toNat);exact⟨0,zq _,rfl,rfl,⟨0,rfl⟩⟩;obtain⟨d,g9,rfl,rfl,⟨r,rfl⟩⟩:=hrel;by_cases A:d<Z c
    .obtain⟨d6,rfl,f6,a2⟩:=b0.o d A;have h0:(d:Int)<(Z c:Int):=by omega
     have N:(c[d].1.1==f)=false:=by rw[beq_eq_false_iff_ne];exact a0.o d A
     go_wp2;go_quiet (fail);go_wp2;exact⟨⟨d+1,by omega,by go_num,rfl,(by first|exact⟨_,rfl⟩|exact dT _ _ _|exact draw3 _ _ _ _)⟩,by simp[intOf];omega⟩
    have j9:¬(d:Int)<(Z c:Int):=by omega
    have d8:=O (p.o.below (aN ⟨r,rfl⟩));have j0:zx (w1.drewN r) (aQ b1 (h7+g*2+1))=V (iQ f):=d5;have e1:=d8.out.2.1;have m7:=d8.out.2.2.size;have m8:b1<(w1.drewN r).heap.size:=zc _ _ j0;have m9:=i2.o;generalize hWD:w1.drewN r=WD at *;clear hWD;have f4:zj (Value.slice c8 (Z c) c9)≠V b1:=λG=>by have:=(bS e1 _ G).1;omega
    go_wp2_with fail;go_region_held3 (λe6=>e6.cell? (aQ b1 (h7+g*2+1))=some (iQ f))
     (first
      |go_keep
      |(rw[c4.cell_far _ (by simp;omega) (Ne.symm f4)];assumption)
      |(simp;rw[c4.cell_far _ (by simp;omega) (Ne.symm f4)];assumption))
     ((refine step_append_lies _ (by rfl) _ _ _ (by rfl) w.heap.size 209 k3 _ 2 32 zh j1 j2 j3 j4 rfl (by omega) (.slice c8 (Z c) c9) (Z c) (lI c) (by rfl) ((e1.alloc _).drew) (aQ WD.heap.size 0) 1 1 [iQ f,.slice (V (aQ F (L+a*2))) (k-a) (q-a)] (by rfl) (by rfl) (World.news_of_block (cs:=#[iQ f,.slice (V (aQ F (L+a*2))) (k-a) (q-a)]) (t:=209) (fr:=(0,0)) (heap_alloc_new WD _)) (by simp[Value.oneCell']) (by omega) (by unfold maxLen;omega) (by omega) (by simp;omega) (WD.heap.size+1) (by simp) ?_;intro l4 l1 n2 h2 c4 j6 m5))
    have i4:=O (rV.more (x:=(f,(b.drop a).take (aM (b.drop a) 1))) ((d8.out.below (aI _ _)).below (aN ⟨1,rfl⟩)) h9.o h2 c4);clear h2 c4 j6 e1;go_wp2;exact⟨⟨g+1,k,i,c++[((f,(b.drop a).take (aM (b.drop a) 1)),.slice (V (aQ F (L+a*2))) (k-a) (q-a))],by omega,g8,by go_num,rfl,i4.o,by rw[z0];exact i3.o,c0.o,f0.o,by rw[z0];exact m.o⟩,by simp[intOf];omega⟩
   |some t'=>
    have a0:=O (bH3 b9.o hl);by_cases a7:t'=(b.drop a).take (aM (b.drop a) 1)
    .have d2:=O a7;have m:aE (dD e b y=dD (e.drop (g+1)) (b.drop k) (c.map zu)):=O (by rw[o,H t' J hl,aT a7,z]);clear o H Q P j S R T a5 z c2 c3 a3 hl b3 a7;go_wp2_with(go_at_call 142;refine(aD d0 _ (a8.o.below D (zr _))).mono ?_;rintro G w1 ⟨rfl,u⟩;have a9:=O u;have d5:=aC u c1;clear u);have t:=C.o.below a9.o;obtain⟨c8,c9,rfl,I⟩:=aJ6 t.2.1;have p:=O t;have b0:=O I;clear t I;have d1:=O (e7.o _ p.o.2.2);go_loopw[12,13] (λb7 x b8=>∃d:Nat,d<=Z c/\x=iQ d/\b7=.bool (yR f (c.take d))/\(∃r,b8=w1.drewN r)) (λ_ x _=>Z c-(intOf x).toNat);exact⟨0,zq _,rfl,rfl,⟨0,rfl⟩⟩;obtain⟨d,g9,rfl,rfl,⟨r,rfl⟩⟩:=hrel;by_cases A:d<Z c
     .obtain⟨d6,rfl,f6,a2⟩:=b0.o d A;have h0:(d:Int)<(Z c:Int):=by omega
      have n:=aRy f c d A;by_cases l:c[d].1.1=f
      .have N:(c[d].1.1==f)=true:=by rw[beq_iff_eq];exact l
       have W:=a0.o.2 d A l;obtain⟨e3,e4,b6,b4⟩:=p.o.1 c[d] (zd _);rw[b6]at a2;have b5:=b4.below p.o.2.2 (zr _);have B:=O (λwx (X:∃d3,wx=w1.drewN d3)=>aAr e3 (V (aQ F (L+a*2))) e4 (q-a) c[d].1.2 ((b.drop a).take (aM (b.drop a) 1)) wx (b5.drawn X) (d1.o.drawn X));rw[e8.o]at B;rw[fL l,Bool.or_true]at n;have a1:=O n;rw[W]at B;rw[W]at a2;clear n b6 b4 b5;rw[fL d2.o]at B;clear l W;go_wp2;go_quiet (fail);go_wp2;go_quiet ((go_at_call 24;refine(aD B _ ⟨_,rfl⟩).mono ?_;rintro G k9 ⟨rfl,k4,rfl⟩;exact⟨rfl,aK2 _ _ _ _⟩));go_wp2;exact⟨⟨d+1,by omega,by go_num,by rw[a1.o],(by first|exact⟨_,rfl⟩|exact dT _ _ _|exact draw3 _ _ _ _)⟩,by simp[intOf];omega⟩
      have N:(c[d].1.1==f)=false:=by rw[beq_eq_false_iff_ne];exact l
      rw[gG l,Bool.or_false]at n;have a1:=O n;clear n l;go_wp2;go_quiet (fail);go_wp2;exact⟨⟨d+1,by omega,by go_num,by rw[a1.o],(by first|exact⟨_,rfl⟩|exact dT _ _ _|exact draw3 _ _ _ _)⟩,by simp[intOf];omega⟩
     have c6:c.take d=c:=zb (by omega);rw[c6,a0.o.1];clear c6;have j9:¬(d:Int)<(Z c:Int):=by omega
     go_wp2;exact⟨⟨g+1,k,i,c,by omega,g8,by go_num,rfl,p.o.below (aN (by first|exact⟨_,rfl⟩|exact dT _ _ _|exact draw3 _ _ _ _)),b9.o,c0.o,f0.o,m.o⟩,by simp[intOf];omega⟩
    have d2:=O a7;have m:aE (dD e b y=zl):=O (by rw[o,H t' J hl,aS a7]);clear o H Q P j S R T a5 z c2 c3 a3 hl b3 a7;go_wp2_with(go_at_call 142;refine(aD d0 _ (a8.o.below D (zr _))).mono ?_;rintro G w1 ⟨rfl,u⟩;have a9:=O u;have d5:=aC u c1;clear u);have t:=C.o.below a9.o;obtain⟨c8,c9,rfl,I⟩:=aJ6 t.2.1;have p:=O t;have b0:=O I;clear t I;have d1:=O (e7.o _ p.o.2.2);go_loopw[12,13] (λb7 x b8=>∃d:Nat,d<=Z c/\x=iQ d/\b7=.bool zn/\yR f (c.take d)=zn/\(∃r,b8=w1.drewN r)) (λ_ x _=>Z c-(intOf x).toNat);exact⟨0,zq _,rfl,rfl,rfl,⟨0,rfl⟩⟩;obtain⟨d,g9,rfl,rfl,c5,⟨r,rfl⟩⟩:=hrel;by_cases A:d<Z c
    .obtain⟨d6,rfl,f6,a2⟩:=b0.o d A;have h0:(d:Int)<(Z c:Int):=by omega
     have n:=aRy f c d A;by_cases l:c[d].1.1=f
     .have N:(c[d].1.1==f)=true:=by rw[beq_iff_eq];exact l
      have W:=a0.o.2 d A l;obtain⟨e3,e4,b6,b4⟩:=p.o.1 c[d] (zd _);rw[b6]at a2;have b5:=b4.below p.o.2.2 (zr _);have B:=O (λwx (X:∃d3,wx=w1.drewN d3)=>aAr e3 (V (aQ F (L+a*2))) e4 (q-a) c[d].1.2 ((b.drop a).take (aM (b.drop a) 1)) wx (b5.drawn X) (d1.o.drawn X));rw[e8.o]at B;rw[fL l,Bool.or_true]at n;have a1:=O n;rw[W]at B;rw[W]at a2;clear n b6 b4 b5;rw[gG d2.o]at B;clear l W;go_wp2;go_quiet (fail);go_wp2;go_quiet ((go_at_call 24;refine(aD B _ ⟨_,rfl⟩).mono ?_;rintro G k9 ⟨rfl,k4,rfl⟩;exact⟨rfl,aK2 _ _ _ _⟩));go_wp2;go_ret2;exact⟨_,zn,zY rfl rfl,by rw[m.o];rfl,(λf1 s=>by rw[m.o]at s;simp at s),p.o.2.2.trans ((aN (by first|exact⟨_,rfl⟩|exact dT _ _ _|exact draw3 _ _ _ _)).mono p.o.2.2.size)⟩
     have N:(c[d].1.1==f)=false:=by rw[beq_eq_false_iff_ne];exact l
     rw[gG l,Bool.or_false]at n;have a1:=O n;have i0:=O c5;clear c5;clear n l;go_wp2;go_quiet (fail);go_wp2;exact⟨⟨d+1,by omega,by go_num,rfl,by rw[a1.o];exact i0.o,(by first|exact⟨_,rfl⟩|exact dT _ _ _|exact draw3 _ _ _ _)⟩,by simp[intOf];omega⟩
    exfalso;have c6:c.take d=c:=zb (by omega);rw[c6,a0.o.1]at c5;simp at c5
  have k1:E.toList.isEmpty=false:=by simpa using J
  have c7:aK (E,f)=false:=k1;have d6:=tJ;have m6:=rZ E b[a].1 f b[a].2;have e0:=rY (E,f) b[a];simp only at e0;by_cases M:(E,f)=b[a]
  .rw[fL M]at e0;have m:aE (dD e b y=dD (e.drop (g+1)) (b.drop (a+1)) (c.map zu)):=O (by rw[o,P c7,aT M]);have c0:=O j;have i6:aE (aP (b.drop (a+1)) (i+bI (E,f))=zp):=O (by rw[M];exact T.2);clear o H Q P j S R T a5 M J c7;go_wp2;go_quiet (fail);go_wp2;exact⟨⟨g+1,a+1,i+bI (E,f),c,by omega,by omega,by go_num,by go_num,C.o.below (aN (by first|exact⟨_,rfl⟩|exact dT _ _ _|exact draw3 _ _ _ _)),b9.o,c0.o,i6.o,m.o⟩,by simp[intOf];omega⟩
  rw[gG M]at e0;have m:aE (dD e b y=zl):=O (by rw[o,P c7,aS M]);clear o H Q P j S R T a5 M J c7;go_wp2;go_quiet (fail);go_wp2;go_ret2;exact⟨_,zn,zY rfl rfl,by rw[m.o];rfl,(λf1 s=>by rw[m.o]at s;simp at s),C.o.2.2.trans ((aN (by first|exact⟨_,rfl⟩|exact dT _ _ _|exact draw3 _ _ _ _)).mono C.o.2.2.size)⟩
 have N:e.drop g=[]:=List.drop_eq_nil_of_le (by omega);rw[N]at j o;have k0:i=0:=by simpa[aP]using j
 subst k0;have z:=aOt g7 a6;have m:aE (dD e b y=V (c.map zu)):=O (by rw[o,aOp b a (c.map zu) z]);have C:=O b2;have m2:((a:Int)==(Z b:Int))=true:=by rw[beq_iff_eq];omega
 have j8:¬(g:Int)<(Z e:Int):=by omega
 clear b2 N j o a6 z;go_wp2;go_ret2;exact⟨_,zp,zY rfl rfl,by rw[m.o];rfl,(λf1 s=>by rw[m.o]at s;simp at s;rw[<-s];exact C.o.bds),C.o.2.2⟩
def tM(T:Tb)(a b:Nat)(m:List Nat)(ns:List Bool)(f:List Lt)(i:Bool)(e:Int):Prop:=
 (¬(fU (bJ T) (Cl (bJ T) (kS T a b))/\∀c,c<Z T->bZ (bJ T) (Cl (bJ T) (kS T a b)) c)/\f=[]/\i=zn/\e=0)\/
 ((fU (bJ T) (Cl (bJ T) (kS T a b))/\∀c,c<Z T->bZ (bJ T) (Cl (bJ T) (kS T a b)) c)/\∃(g:Nat->Nat) (d:List (List Nd)),(∀j k,g j=g k↔Cl (bJ T) (kS T a b) j k)/\aU (λr l=>aX (bJ T) (Cl (bJ T) (kS T a b)) g [r] l) m d/\
  ((500<aY (bB (za Prod.mk ns d))/\f=[]/\i=zn/\e=4)\/(aY (bB (za Prod.mk ns d))<=500/\f=bB (za Prod.mk ns d)/\i=zp/\e=0)))
theorem aTp:∀(b:List (Int×Lt)) (a:List (List Nd)),dS b a=za Prod.mk (b.map λr=>r.2.1) a
 |[],_=>rfl
 |_::_,[]=>rfl
 |r::rs,l::a=>by
  grind[dS]
theorem xX:∀(b:List (Int×Lt)) (a:Nat),(∀r∈b,0<Z r.2.2)->∀p∈bO a b,a<=p/\p<a+Z (aL b)
 |[],a,_,p,hp=>by simp[bO]at hp
 |r::rs,a,h,p,hp=>by
  have f:=h r (by simp);have c:Z (aL (r::rs))=Z r.2.2+Z (aL rs):=by simp[aL]
  rw[c];simp only[bO,List.mem_cons]at hp;rcases hp with rfl|hp
  .omega
  have:=xX rs _ (λe d=>h e (by simp[d])) p hp;omega
theorem aK5{i:List Tg}{e:List (Int×Lt)}{j k:Nat}{g:List Rw}{b:Nat->Nat}{d:Tb}(x:Rows (i++aL e) g b)(N:d.map zu=g)(a6:jY d)(P:j<Z (i++aL e))(Q:k<Z (i++aL e))(a5:∀u∈e,0<Z u.2.2)
  {a0:List Lt}{a1:Bool}{M:Int} (y:tM d (b j) (b k) ((bO (Z i) e).map b) (e.map λu=>u.2.1) a0 a1 M):fD i j k e a0 a1 M:=by
 obtain⟨c,F⟩:∃c,i++aL e=c:=⟨_,rfl⟩;rw[F]at x P Q;have m:=x.laid N P Q;have b5:Z d=Z g:=by rw[<-N];simp
 have G:∀a,a<Z c->pZ c g b a=b a:=λa f=>aT f
 have W:nW c j k↔(fU (bJ d) (Cl (bJ d) (kS d (b j) (b k)))/\∀o,o<Z d->bZ (bJ d) (Cl (bJ d) (kS d (b j) (b k))) o):=by
  constructor
  .rintro⟨C,D⟩;refine⟨m.clash.1 C,λo b6=>?_⟩;obtain⟨a,f,rfl⟩:=x.onto o (by omega);rw[<-G a f];exact m.ends_to (D a f)
  rintro⟨C,D⟩;exact⟨m.clash.2 C,λa f=>m.ends_from (D (b a) (by have:=x.lt f;omega)) a (G a f)⟩
 unfold fD;rw[F];rcases y with⟨A,rfl,rfl,rfl⟩|⟨A,l,n,E,a2,L⟩
 .exact Or.inl ⟨λr=>A (W.1 r),rfl,rfl,rfl⟩
 have X:=W.2 A;have T:∀a t,l (pZ c g b a)=l (pZ c g b t)↔cX c j k a t:=λa t=>(E _ _).trans ⟨λB=>m.from B,λB=>m.to B⟩
 have a7:=xX e (Z i) a5;have b4:Z c=Z i+Z (aL e):=by rw[<-F];simp
 have b2:∀(q:List Nat) (n:List (List Nd)),(∀a∈q,a<Z c)->aU (λu I=>aX (bJ d) (Cl (bJ d) (kS d (b j) (b k))) l [u] I) (q.map b) n->∃p,aU (λa s=>aX (aF (c.map Prod.snd)) (cX c j k) (λa=>l (pZ c g b a)) [a] s) q p/\aU (λs I=>aU (gK λJ b3=>∃a,J=(l (pZ c g b a):Int)/\b3=(l (pZ c g b a):Int)) s I) p n:=by
  intro q;induction q with
  |nil=>
   intro n _ r;cases r;exact⟨[],aU.nil,aU.nil⟩
  |cons a q ih=>
   intro n S r;cases r with
   |cons J hx=>
    obtain⟨p,a9,b0⟩:=ih _ (λt a8=>S t (by simp[a8])) hx;have f:=S a (by simp);obtain⟨s,y⟩:=(X.2 a f).exp (rep:=λa=>l (pZ c g b a));obtain⟨b7,z,H⟩:=m.exp (rd:=l) y;simp only[List.map_cons,List.map_nil,G a f]at z;have a3:=z.one (Cl.isDown _ _) A.1 a6.arity (λo b1 a4=>(E o b1).2 a4) _ J;subst a3;exact⟨s::p,aU.cons y a9,aU.cons H b0⟩
 obtain⟨p,z,H⟩:=b2 (bO (Z i) e) n (λa f=>by have:=a7 a f;omega) a2;have R:=aF5 (m.pairs T E) (aEp e H);rw[aTp e n]at R;rw[<-R]at L;exact Or.inr ⟨X,λa=>l (pZ c g b a),p,T,z,L⟩
