import Derived.Test.YtenobhkjiebhaaaGreatDoorLMemS18
import Derived.Test.YtenobhkjiebhaaaGreatDoorRNamedS18
import Derived.Test.YtenobhkjiebhaaaGreatDoorText0S18
import Derived.Handy
import Derived.Deep.RegionHeld3
import Derived.Deep.RegionLaw
import Derived.Shelf.RegionOpen
import Derived.OwnWalkIn
import Derived.TacticsInMore
import Derived.LoopNIn
import Derived.LoopIn
open Array renaming getElem?_eq_getElem->zm,getElem_modify_self->zk,size_modify->zf
open Bool renaming true->zj,false->zg
open List renaming length->Z,getElem?_eq_getElem->zq,getElem_mem->zl,replicate->zi,append_nil->z9,replicate_zero->yy,prefix_append->yx,take_length->yu,prefix_refl->yt
open Nat renaming le_refl->zp,lt_of_lt_of_le->zd,le_trans->zb,zero_le->yz,zero_add->yw,zero_mul->yv
open Option renaming some->Y
open Or renaming inr->ze,inl->za
namespace Go.Proofs.YtenobhkjiebhaaaGreatDoor
open Go renaming World->zw,Value->zu
open _root_.Go.Proofs.Tryz renaming prog->zn
open Value renaming ownBlock->zt
open World renaming cell?->zx,setCell->zv,grownBy->zs,ownsRow->zr,frozen?->zo,alloc_heap_new->zh,block_lt_of_cell?->zc,frozen?_of_block->z8
open Go.RowKit Go.Shelf Go.WideMaps
set_option maxHeartbeats 8000000
set_option maxRecDepth 100000
variable{d:List Lt}{out:List Nd}{S:List TypeId}{xs:List zu}{B B' cap g hp k mp n q:Nat}{e:TypeId}{v:zu}{U V w w' wa wi:zw}
structure oB(mp:Nat)(a b:zw):Prop where
 size:a.heap.size<=b.heap.size
 block:∀k,k<a.heap.size->k≠mp->b.heap[k]?=a.heap[k]?
theorem oB.trans{mp:Nat}{a b c:zw}(f:oB mp a b)(k:oB mp b c):oB mp a c:=⟨zb f.size k.size,λl i j=>by rw[k.block l (zd i f.size) j,f.block l i j]⟩
theorem oB.of_below{a b:zw}(c:aB a b):oB mp a b:=⟨c.size,λk f _=>c.block k f⟩
theorem oB.of_grown{a b:zw}(c:zs a b (Y mp)):oB mp a b:=⟨c.size,λk f i=>c.block k f (λe=>i (by simpa using e))⟩
theorem oB.own{a b:zw}{i:Nat}(l:oB mp a b)(r:zr a B e i v n xs)(p:zt v≠Y mp):zr b B e i v n xs:=by
 obtain⟨c,⟨rfl,m⟩|⟨g,cap,j,rfl,o,f,s⟩⟩:=r
 .exact⟨c,za ⟨rfl,m⟩⟩
 refine⟨c,ze ⟨g,cap,j,rfl,o,?_,s⟩⟩;rw[l.block g (bA f) (λe=>p (by simp[zt,e])),f]
theorem oB.cell{a b:zw}(f:oB mp a b){p:Addr}{v:zu}(c:zx a p=Y v)(i:p.block≠mp):zx b p=Y v:=
 (World.cell?_of_block (f.block _ (zc a p c) i)).trans c
theorem zQ{a:DataW Unit}{b c:zw}(j:b.ownsMap zn 3 jC mp n a)(l:c.heap[mp]?=b.heap[mp]?):c.ownsMap zn 3 jC mp n a:=by obtain⟨i,f,m,o⟩:=j;exact⟨i,f,by rw[l];exact m,o⟩
def zR(a:List Nd):Prop:=∀n∈a,aK n=zj->0<=n.2/\n.2<=1000000000
structure zS(w:zw)(mp nb:Nat)(c:List Lt)(k:Nat)(Q:List (Lt×zu))(wr:zw):Prop where
 map:∃D,wr.ownsMap zn 3 jC mp (dY (c.take k)).2.length D/\sK D (dY (c.take k)).2
 row:zr wr w.heap.size 55 2 (sQ nb (Z c) (Z c)) (Z c) (bH (Q++zi (Z c-Z Q) wU))
 made:Q.map Prod.fst=(dY (c.take k)).1
 atoms:∀q∈Q,zr wr w.heap.size 52 2 q.2 (Z q.1.2) (aV q.1.2)
 once:(Q.map λq=>zt q.2).Nodup
 apart:∀q∈Q,zt q.2≠Y nb
 low:aB w wr
structure mV(w wa:zw)(mp ab m:Nat)(sn:List Int)(out:List Nd)(wi:zw):Prop where
 abe:ab=wa.heap.size
 keep:oB mp wa wi
 row:zr wi ab 52 2 (sQ ab m m) m (aV (out++zi (m-Z out) zNd))
 map:∃D,wi.ownsMap zn 3 jC mp (Z sn) D/\sK D sn
 low:aB w wi
theorem mV.below{wx:zw}{b m:Nat}{f:List Int}(a:mV w wa mp b m f out wi)(k:aB wi wx):mV w wa mp b m f out wx:=by obtain⟨i,c,j⟩:=a.map;refine⟨a.abe,a.keep.trans (oB.of_below k),bF a.row k (zp _),⟨i,zQ c (k.block mp ?_),j⟩,a.low.trans (k.mono a.low.size)⟩;obtain⟨p,o,l,_⟩:=c;exact(bA l)
theorem mV.count{i:zw}{j l:Nat}{r f:List Int}{b:DataW Unit}(a:mV w wa mp j l r out wi)(c:zs wi i (Y mp))(m:i.ownsMap zn 3 jC mp (Z f) b)(o:sK b f)(t:w.heap.size<=mp):mV w wa mp j l f out i:=by obtain⟨s,p,_⟩:=a.map;exact⟨a.abe,a.keep.trans (oB.of_grown c),a.row.kept c (ze (aN9 a.row p)),⟨b,m,o⟩,a.low.grown c a.low.size λk e=>by simp at e;omega⟩
theorem mV.box{b f:Nat}{i:List Int}(a:mV w wa mp b f i out wi)(s:b<g)(t:mp<b)(u:w.heap.size<=b)(j:Nat)(c:zu):mV w wa mp b f i out (zv wi (aQ g j) c):=by obtain⟨l,m,o⟩:=a.map;have e:=a.abe;refine⟨e,⟨by have:=a.keep.size;simpa[zv]using this,λk p r=>by rw[heap_setCell_other _ _ _ _ (by simp;omega)];exact a.keep.block k p r⟩,uX a.row (by simp[zt];omega) c,⟨l,zQ m (heap_setCell_other _ _ _ _ (by simp;omega)),o⟩,a.low.setCell (by simp;omega) c⟩
theorem mV.put{a c:Nat}{j:List Int}(b:mV w wa mp a c j out wi)(r:Z out<c)(u:mp<a)(f:w.heap.size<=a)(x:Nd):mV w wa mp a c j (out++[x]) (zv (zv wi (aQ a (Z out*2)) (.string x.1)) (aQ a (Z out*2+1)) (iQ x.2)):=by
 obtain⟨l,m,o⟩:=b.map;have e:=b.abe;have t:=(b.row.stored (Z out*2) (.string x.1)).1;have i:=(t.stored (Z out*2+1) (iQ x.2)).1;refine⟨e,⟨by have:=b.keep.size;simpa[zv]using this,λk p s=>?_⟩,?_,⟨l,zQ m ?_,o⟩,(b.low.setCell (by simpa using f) _).setCell (by simpa using f) _⟩
 .rw[heap_setCell_other _ _ _ _ (by simp;omega),heap_setCell_other _ _ _ _ (by simp;omega)];exact b.keep.block k p s
 .rw[aZ8 _ _ _ (by simp;omega),aN8 _ _ _ _ r]at i;simpa using i
 rw[heap_setCell_other _ _ _ _ (by simp;omega),heap_setCell_other _ _ _ _ (by simp;omega)]
theorem mV.cell{a m:Nat}{c:List Int}(b:mV w wa mp a m c out wi)(f:Z out<m):(∃u,zx wi (aQ a (Z out*2))=Y u)/\(∃u,zx wi (aQ a (Z out*2+1))=Y u):=by
 have i:Z (aV (out++zi (m-Z out) zNd))=m*2:=by rw[aFf];simp;omega
 constructor
 .rw[b.row.cellAt _ (by omega)];exact⟨_,zq (by omega)⟩
 rw[b.row.cellAt _ (by omega)];exact⟨_,zq (by omega)⟩
theorem aZk(w:zw)(a b:zu)(c:TypeId):zx (w.alloc (.cells #[a,b] c)) (aQ w.heap.size 0)=Y a/\zx (w.alloc (.cells #[a,b] c)) (aQ w.heap.size 1)=Y b:=by simp
theorem aZl{a:List Nd×List Int}{b:ByteArray}{c:Int}(f:b.toList.isEmpty=zj):fH a (b,c)=(a.1++[(b,(qU a.2 c).2)],(qU a.2 c).1):=by grind[qU,gW,fH,aK]
theorem aZm{b:List Nd×List Int}{a:ByteArray}{c:Int}(f:a.toList.isEmpty=zg):fH b (a,c)=(b.1++[(a,c)],b.2):=by grind[fH,aK]
theorem aGz{f:Nat}(b:zr w B e f v n xs)(a:zt v=Y g):g<w.heap.size:=by
 obtain⟨_,⟨rfl,_⟩|⟨j,cap,i,rfl,_,c,_⟩⟩:=b
 .simp[zt]at a
 simp[zt]at a;subst a;exact(bA c)
theorem zS.next{c:zw}{J:Obj}{j:Nat}{b:List Lt}{f:List (Lt×zu)}{l:Bool}{a:List Nd}(i:zS w mp j b k f c)(y:j≠mp)(I:w.heap.size<=j)(a1:k<Z b)
  (A:dY (b.take (k+1))=iZ (dY (b.take k)) (l,a))
  (o:mV w (c.alloc J) mp (c.heap.size+1) (Z a) (eF a (dY (b.take k)).2).2 (eF a (dY (b.take k)).2).1 wi):(∃u,zx wi (aQ j (k*2))=Y u)/\(∃u,zx wi (aQ j (k*2+1))=Y u)/\zo wi (aQ j (k*2))=zg/\zo wi (aQ j (k*2+1))=zg/\
  zS w mp j b (k+1) (f++[((l,(eF a (dY (b.take k)).2).1),sQ (c.heap.size+1) (Z a) (Z a))]) (zv (zv wi (aQ j (k*2)) (.bool l)) (aQ j (k*2+1)) (sQ (c.heap.size+1) (Z a) (Z a))):=by
 have z:Z f=k:=by have C:=congrArg Z i.made;rw[(sD _).1]at C;simp at C;omega
 have E:aB c (c.alloc J):=aI _ _;have R:=(xV a (dY (b.take k)).2).1;have a3:j<c.heap.size:=aGz i.row rfl;have p:=o.keep.own (bF i.row E (zp _)) (by simp[zt];exact y);have a2:Z (bH (f++zi (Z b-Z f) wU))=Z b*2:=by
  have:∀s:List (Lt×zu),Z (bH s)=Z s*2:=by
   intro s;induction s with
   |nil=>rfl
   |cons x r ih=>rw[aGv];simp[ih];omega
  rw[this];simp;omega
 obtain⟨L,P,Q⟩:=o.map;refine⟨?_,?_,p.frozenAt _,p.frozenAt _,?_⟩
 .rw[p.cellAt _ (by omega)];exact⟨_,zq (by omega)⟩
 .rw[p.cellAt _ (by omega)];exact⟨_,zq (by omega)⟩
 have T:=(p.stored (k*2) (.bool l)).1;have t:=(T.stored (k*2+1) (sQ (c.heap.size+1) (Z a) (Z a))).1;have M:=aZ9 (f++zi (Z b-Z f) wU) k ((l,(eF a (dY (b.take k)).2).1),sQ (c.heap.size+1) (Z a) (Z a)) (by simp;omega);refine⟨⟨L,?_,?_⟩,?_,?_,?_,?_,?_,?_⟩
 .rw[A];exact zQ P (by rw[heap_setCell_other _ _ _ _ (by simpa using λe=>y e.symm),heap_setCell_other _ _ _ _ (by simpa using λe=>y e.symm)])
 .rw[A];exact Q
 .rw[show (bH (f++zi (Z b-Z f) wU)).set (k*2) (.bool l)=(bH (f++zi (Z b-Z f) wU)).set (k*2) (.bool (((l,(eF a (dY (b.take k)).2).1),(sQ (c.heap.size+1) (Z a) (Z a))):Lt×zu).1.1) from rfl]at t;rw[M]at t;have H:=aN8 f wU ((l,(eF a (dY (b.take k)).2).1),sQ (c.heap.size+1) (Z a) (Z a)) (Z b) (by omega);rw[z]at H;rw[z,H]at t;simpa[z]using t
 .rw[A,List.map_append,i.made];rfl
 .intro q hqm;rcases List.mem_append.1 hqm with hqm|hqm
  .obtain⟨W,N,_⟩:=i.map;have m:=o.keep.own (bF (i.atoms q hqm) E (zp _)) (aN9 (i.atoms q hqm) N);have F:=i.apart q hqm;exact uX (uX m (by simpa using λe=>F e.symm) _) (by simpa using λe=>F e.symm) _
  simp at hqm;subst hqm;have m:=fM o.row (show w.heap.size<=c.heap.size+1 by have:=i.low.size;omega);rw[show Z a-(eF a (dY (b.take k)).2).1.length=0 by omega]at m;simp only[yy,z9]at m;simp only[R];exact uX (uX m (by simp[zt];omega) _) (by simp[zt];omega) _
 .rw[List.map_append,List.nodup_append];refine⟨i.once,by simp,?_⟩;intro X D a0 G;simp at G;subst G;simp only[List.mem_map]at D;obtain⟨q,hqm,rfl⟩:=D;intro e;have:=aGz (g:=c.heap.size+1) (i.atoms q hqm) e;omega
 .intro q hqm;rcases List.mem_append.1 hqm with hqm|hqm
  .exact i.apart q hqm
  simp at hqm;subst hqm;simp[zt];omega
 exact(o.low.setCell (by simpa using I) _).setCell (by simpa using I) _
theorem aZn(a:Option Addr)(f6:Nat)(c:List Lt)(w:zw)(c3:bU w a c)(o:∀i7∈c,zR i7.2)(j6:aY c<=100000)(k0:Z c<=100000):Calls zn 90 #[.slice a (Z c) f6] w λe w'=>∃(d6:Nat) (H:List (Lt×zu)),e=.returned (sQ d6 (Z c) (Z c))/\zS w w.heap.size d6 c (Z c) H w':=by
 obtain⟨i5,g3,g4,g5,g6⟩:=info_parts qJ;obtain⟨i6,g7,g8,I,g9⟩:=info_parts kK;have k2:=@run_makeMap zn;have e3:=O c3;have e9:=O o;clear c3 o;go_enter Tryz.func90,Tryz.ntmps90;go_wp2_with(first
  |(at_make;refine wpList_make_full _ rfl _ _ 36 rfl w.heap.size 55 i5 (.agg #[.bool false,nQ]) 2 Tryz.underlying36 g3 g4 g5 .i64 .i64 _ _ (Z c) rfl rfl rfl rfl ?m1 ?m2 ?m3 ?_)
  |go_in)
 case m1=>rw[g6];omega
 case m2=>unfold maxLen;omega
 case m3=>simp
 intro b4 C m;have e7:aE (zS w w.heap.size (w.heap.size+1) c 0 [] b4):=O (by
  have h7:(w.alloc (.map #[] 0)).ownsMap zn 3 jC w.heap.size 0 (.map []):=World.ownsMap_made _ _ _ _;refine⟨⟨.map [],zQ h7 (m.block _ (by simp) (by simp)),sK.start⟩,?_,rfl,by simp,by simp,by simp,(aI _ _).grown m (by simp) (by simp)⟩;rw[aZd]at C;simpa using C)
 clear C m;go_wp2;go_loopw[16] (λx wr=>∃(k:Nat) (H:List (Lt×zu)),k<=Z c/\x=iQ k/\zS w w.heap.size (w.heap.size+1) c k H wr) (λx _=>Z c-(intOf x).toNat);exact⟨0,[],yz _,rfl,e7.o⟩;rename zw=>wo
 obtain⟨k,H,j8,rfl,A⟩:=hrel;have J:=A.low;have h1:=J.size;by_cases a5:k<Z c
 .have h6:(k:Int)<(Z c:Int):=by omega
  obtain⟨j1,k6,T,X,rfl,b7,b9,a3⟩:=e3.o.cell k a5;have f7:=aC J b7;have g0:=aC J b9;have b3:=e9.o c[k] (zl _);have i3:=xW c c[k] (zl _);have d4:=aJv c k a5;generalize c[k]=r at *;obtain⟨W,f⟩:=r;simp only at f7 g0 a3 b3 i3;have h2:=aZk wo (.bool W) (.slice T (Z f) X) 55;have j:aB wo (wo.alloc (.cells #[.bool W,.slice T (Z f) X] 55)):=aI _ _;obtain⟨h3,c5⟩:=h2;have z:=O A;have f3:=O a3;have f1:=O b3;have e8:=O d4;clear A a3 b3 d4 b7 b9 J;go_wp2_with(first
   |(at_make;refine wpList_make_full _ rfl _ _ 50 rfl (wo.heap.size+1) 52 i6 (.agg #[.string ⟨#[]⟩,iQ 0]) 2 Tryz.underlying50 g7 g8 I .i64 .i64 _ _ (Z f) rfl rfl rfl rfl ?n1 ?n2 ?n3 ?_)
   |go_in)
  case n1=>rw[g9];omega
  case n2=>unfold maxLen;omega
  case n3=>simp
  intro e1 a7 t;obtain⟨wa,p⟩:∃wa,wa=wo.alloc (.cells #[.bool W,.slice T (Z f) X] 55):=⟨_,rfl⟩;have b0:wo.heap.size+1=wa.heap.size:=by rw[p];simp
  have e4:aE (mV w wa w.heap.size (wo.heap.size+1) (Z f) (dY (c.take k)).2 [] e1):=O (by
   obtain⟨G,u,L⟩:=z.o.map;rw[<-p]at t j;rw[aZc]at a7;have c9:w.heap.size<wo.heap.size:=by obtain⟨f9,f5,a4,_⟩:=u;exact(bA a4)
   refine⟨b0,⟨t.size,λq h8 _=>t.block q h8 (by simp)⟩,by simpa using a7,⟨G,zQ u ?_,L⟩,(z.o.low.trans (j.mono h1)).grown t (by omega) (by simp)⟩;rw[t.block _ (by omega) (by simp),j.block _ c9])
  have a6:w.heap.size<wo.heap.size+1:=by omega
  have f4:cQ e1 wo.heap.size 1 (.slice T (Z f) X):=t.cell c5 (by simp);have f2:=O p;have a8:=xV;clear a7 t;have j0:=O b0;have k4:wo.heap.size+1<=wa.heap.size:=by omega
  clear p b0;go_wp2;clear f4 h3 c5 j;go_loopw[28] (λx wi=>∃b:Nat,b<=Z f/\x=iQ b/\mV w wa w.heap.size (wo.heap.size+1) (Z f) (eF (f.take b) (dY (c.take k)).2).2 (eF (f.take b) (dY (c.take k)).2).1 wi) (λx _=>Z f-(intOf x).toNat);exact⟨0,yz _,rfl,e4.o⟩;obtain⟨b,j7,rfl,i⟩:=hrel;have a9:=a8 (f.take b) (dY (c.take k)).2;have d3:=sD (c.take k);have c6:=yX c k;have d5:Z (f.take b)=b:=by simp;omega
  by_cases c8:b<Z f
  .have h4:(b:Int)<(Z f:Int):=by omega
   obtain⟨j3,k7,rfl,b8,c0⟩:=f3.o.cell b c8;have f8:=aC i.low b8;have g1:=aC i.low c0;have d2:=aJr f (dY (c.take k)).2 b c8;have b2:=f1.o f[b] (zl _);generalize eF (f.take b) (dY (c.take k)).2=R at *;generalize f[b]=nd at *;obtain⟨out,P⟩:=R;obtain⟨E,r⟩:=nd;simp only at f8 g1 i a9 b2;have d1:Z out=b:=by omega
   have h9:Z P<=1000000:=by omega
   have j9:=i.keep.size;have h0:aB wr (wr.alloc (.cells #[.string E,iQ r] 52)):=aI _ _;have F:=O (λi8=>sJ E r i8);have k1:=i.low.size;have j5:wo.heap.size+1<wr.heap.size:=by obtain⟨⟨l0,i0⟩,_⟩:=i.cell (by omega);exact zc wr _ i0
   have b5:=O i;have y:=O d1;have b6:=O d2;have f0:=O b2;clear i d1 d2 b2 b8 c0 a9 a8 d3 c6 d5 h0;by_cases o:E.toList.isEmpty=zj
   .have i4:=f0.o o;obtain⟨i1,i2⟩:=i4;have a1:=O (b6.o.trans (aZl o));rw[o]at F;clear o;go_wp2_with(first
     |(go_at_call 123;refine(aD e2).mono ?_;rintro e b4 ⟨i9,rfl,C,d0,m⟩;have c4:=e5.o.count m C d0 (zp _);have k8:=m.cell d7 (by simp;omega);have k9:=m.cell d8 (by simp;omega);have j4:zo b4 (aQ wr.heap.size 1)=false:=(by rw[z8 (m.block _ (by simp;omega) (by simp;omega))];exact g2);have l:=c4.box (g:=wr.heap.size) (by omega) a6 (by omega) 1 (iQ (qU P r).2);obtain⟨⟨d9,M⟩,⟨e0,N⟩⟩:=l.cell (by have:=y.o;omega);have c1:=l.row.frozenAt (b*2);have c2:=l.row.frozenAt (b*2+1);have s:=l.put (by have:=y.o;omega) a6 (by omega) (E,(qU P r).2);rw[y.o]at M N s;have a0:=O s;clear C d0 m c4 l s)
     |(go_at_call 89;refine(aD F _).mono ?_;rintro e Q ⟨rfl,j⟩;obtain⟨d7,d8,D⟩:=lN j;have g2:zo Q (aQ wr.heap.size 1)=false:=(by rw[z8 (j.block _ (by simp))];simp);have a2:=b5.o.below D;have k3:=D.size;have k5:wr.heap.size<Q.heap.size:=(by have:=j.size;simp at this;omega);obtain⟨G,u,L⟩:=a2.map;have e2:=O (aZ7 w.heap.size G P r Q u L i1 i2 h9);have e5:=O a2;clear j D a2 u L))
    exact⟨⟨b+1,by omega,by go_num,by rw[a1.o];exact a0.o⟩,by simp[intOf];omega⟩
   have b1:E.toList.isEmpty=false:=by simpa using o
   have a1:=O (b6.o.trans (aZm b1));rw[b1]at F;clear o b1;go_wp2_with(first
    |(go_at_call 89;refine(aD F _).mono ?_;rintro e Q ⟨rfl,j⟩;obtain⟨d7,d8,D⟩:=lN j;have l:=b5.o.below D;obtain⟨⟨d9,M⟩,⟨e0,N⟩⟩:=l.cell (by have:=y.o;omega);have c1:=l.row.frozenAt (b*2);have c2:=l.row.frozenAt (b*2+1);have s:=l.put (by have:=y.o;omega) a6 (by omega) (E,r);rw[y.o]at M N s;have a0:=O s;clear j D l s))
   exact⟨⟨b+1,by omega,by go_num,by rw[a1.o];exact a0.o⟩,by simp[intOf];omega⟩
  have h4:¬((b:Int)<(Z f:Int)):=by omega
  have c7:b=Z f:=by omega
  rw[c7,yu]at i;have p:=f2.o;have c9:w.heap.size<wo.heap.size:=by obtain⟨G,u,_⟩:=z.o.map;obtain⟨f9,f5,a4,_⟩:=u;exact(bA a4)
  have j2:cQ wr wo.heap.size 0 (.bool W):=i.keep.cell (by rw[p];simp) (by simp;omega);rw[p]at i;obtain⟨⟨d9,M⟩,⟨e0,N⟩,c1,c2,I⟩:=z.o.next (by omega) (by omega) a5 e8.o i
  have e6:=O I;clear I i p c7 a9 d3 c6 d5 a8;go_wp2;exact⟨⟨k+1,_,by omega,by go_num,e6.o⟩,by simp[intOf];omega⟩
 have h6:¬((k:Int)<(Z c:Int)):=by omega
 have h5:k=Z c:=by omega
 rw[h5]at A;have z:=O A;clear A;go_wp2;go_ret;exact⟨_,rfl,_,z.o⟩
theorem zT{a:Option Addr}{P:List (Lt×zu)}{c:List Lt}(j:zr w' B 55 2 (.slice a (Z c) cap) (Z P) (bH P))(f:P.map Prod.fst=c)(o:∀b∈P,fN w' b.2 b.1.2)(i:Z c<=4398046511104):bU w' a c:=by subst f;obtain⟨l,m,e,p⟩:=tL j;simp at e;obtain⟨rfl,_⟩:=e;refine⟨i,λk r=>?_⟩;grind[zl,fN,bH]
structure zU(w:zw)(c:List Lt)(v:zu)(nb:Nat)(Q:List (Lt×zu))(w':zw):Prop where
 val:v=sQ nb (Z (bB c)) (Z (bB c))
 made:Q.map Prod.fst=bB c
 row:zr w' w.heap.size 55 2 (sQ nb (Z (bB c)) (Z (bB c))) (Z (bB c)) (bH Q)
 atoms:∀q∈Q,zr w' w.heap.size 52 2 q.2 (Z q.1.2) (aV q.1.2)
 once:(Q.map λq=>zt q.2).Nodup
 apart:∀q∈Q,zt q.2≠Y nb
 low:aB w w'
theorem aNg(i:Option Addr)(u:Nat)(a:List Lt)(w:zw)(Q:bU w i a)(E:∀f∈a,zR f.2)(R:aY a<=100000)(T:Z a<=100000):Calls zn 52 #[.slice i (Z a) u] w λe w'=>∃v r c,e=.returned v/\zU w a v r c w':=by
 have I:=O (aN6 i u a w Q);obtain⟨N,P,x⟩:=sC a;have J:=O (λa' cp' wx (a1:bU wx a' (eG a))=>aZn a' cp' (eG a) wx a1 (λf W=>E f (x f W)) (by omega) (by omega));have a3:Z (eG a)<=100000:=by omega
 clear N P x E R T;go_enter Tryz.func52,Tryz.ntmps52;go_wp2_with(first
  |(go_at_call 90;refine(aD J F G H L.o).mono ?_;rintro e a4 ⟨r,c,rfl,b⟩;have M:=O b;clear b)
  |(go_at_call 91;refine(aD I).mono ?_;rintro e H ⟨v,t,rfl,j,z,o,m⟩;obtain⟨F,G,rfl⟩:=aZ o;have l:Z t=Z (eG a):=(by rw[<-j];simp);have L:=O (zT (w':=H) (B:=w.heap.size) (a:=F) (P:=t) (c:=eG a) (cap:=G) (by rw[<-l];exact o) j (λa2 hp=>(z a2 hp).below m (zp _)) (by omega));rw[l];have s:=O m;clear j z o m l))
 go_ret;have b:=M.o;have X:Z c=Z (eG a):=by have y:=congrArg Z b.made;rw[(sD _).1]at y;simpa using y
 have C:Z (bB a)=Z (eG a):=by unfold bB;exact(sD _).1
 have A:=b.made;rw[yu]at A;have p:=s.o.size;have D:=b.row;rw[X,Nat.sub_self,yy,z9]at D;exact⟨_,r,c,rfl,by rw[C];rfl,A,by rw[C];exact fM D p,λq a0=>fM (b.atoms q a0) p,b.once,b.apart,s.o.trans (b.low.mono p)⟩
def bP(B:Nat)(w:zw)(v:zu)(out:List Lt):Prop:=∃a:List (Lt×zu),a.map Prod.fst=out/\zr w B 55 2 v (Z a) (bH a)/\(∀q∈a,jB w B q.2 q.1.2)/\((a.map Prod.snd).filterMap zt).Nodup
theorem bP.nil(B:Nat)(w:zw):bP B w (nQ) []:=⟨[],rfl,World.ownsRow_nil _ _ _ _,λq a=>by simp at a,by simp⟩
structure Mv(S:List TypeId)(B:Nat)(W W':zw):Prop where
 os:W'.os=W.os
 tape:W'.tape=W.tape
 output:W'.output=W.output
 size:W.heap.size<=W'.heap.size
 keep:∀k o,W.heap[k]?=Y o->(k<B\/∀cs T,o=.cells cs T (0,0)->T∉S)->W'.heap[k]?=Y o
theorem Mv.refl(S:List TypeId)(B:Nat)(a:zw):Mv S B a a:=⟨rfl,rfl,rfl,zp _,λ_ _ b _=>b⟩
theorem Mv.trans{S:List TypeId}{B:Nat}{U V W:zw}(a:Mv S B U V)(k:Mv S B V W):Mv S B U W:=
 ⟨k.os.trans a.os,k.tape.trans a.tape,k.output.trans a.output,zb a.size k.size,λc f i b=>k.keep c f (a.keep c f i b) b⟩
theorem Mv.mono{S':List TypeId}(a:Mv S B U V)(c:∀t∈S,t∈S')(l:B'<=B):Mv S' B' U V:=
 ⟨a.os,a.tape,a.output,a.size,λi o f ho=>a.keep i o f (by
  rcases ho with ho|ho
  .exact za (by omega)
  exact ze (λb T e j=>ho b T e (c _ j)))⟩
theorem Mv.of_below(a:aB U V):Mv S B U V:=
 ⟨a.os,a.tape,a.output,a.size,λc _ b _=>(a.block c (bA b)).trans b⟩
theorem Mv.of_grown{j:Option Nat}(a:zs U V j)(o:∀k,j=Y k->B<=k/\∃f b,U.heap[k]?=Y (.cells f b (0,0))/\b∈S):Mv S B U V:=
 ⟨a.os,a.tape,a.output,a.size,λi r c ho=>(a.block i (bA c) (by
  intro e;obtain⟨p,f,b,l,m⟩:=o i e.symm;rw[l]at c;cases c;rcases ho with ho|ho
  .omega
  exact ho f b rfl m)).trans c⟩
theorem Mv.cells(c:Mv S B U V){k:Nat}{b:Array zu}{a:TypeId}(i:U.heap[k]?=Y (.cells b a (0,0)))(f:a∉S):V.heap[k]?=Y (.cells b a (0,0)):=
 c.keep k _ i (ze (λl j e=>by cases e;exact f))
theorem Mv.below(a:Mv S B U V)(f:B<=U.heap.size):Below B U V:=
 ⟨a.os,a.tape,a.output,a.size,λk c=>by
  obtain⟨o,b⟩:∃o,U.heap[k]?=Y o:=⟨_,zm (by omega)⟩;rw[a.keep k o b (za c),b]⟩
theorem Mv.keepsFrom(a:Mv S B U V):KeepsFrom B' U V:=
 ⟨a.size,λk f _ b c=>a.keep k f b (ze (λj i e=>by subst e;cases c))⟩
theorem Mv.row(c:Mv S B U V){e:TypeId}{z:Nat}{v:zu}{n:Nat}{xs:List zu}(m:zr U B' e z v n xs)(j:e∉S):zr V B' e z v n xs:=by
 obtain⟨a,⟨rfl,f⟩|⟨g,cap,b,rfl,i,l,o⟩⟩:=m
 .exact⟨a,za ⟨rfl,f⟩⟩
 exact⟨a,ze ⟨g,cap,b,rfl,i,c.cells l j,o⟩⟩
theorem Mv.clause(b:Mv S B U V){v:zu}{a:List Lt}(i:bP B' U v a)(c:55∉S)(f:52∉S):bP B' V v a:=by grind[Mv.row,bP,jB,bH,aV]
theorem Mv.boxed(b:Mv S B U V){k:Nat}{a:TypeId}{v:zu}(f:Boxed U k a v)(c:a∉S):Boxed V k a v:=b.cells f c
theorem Mv.kps(a:Mv S B U V):dH S U V:=⟨a.size,λ_ _ _ b c=>a.cells b c⟩
theorem dH.row(c:dH S U V){e:TypeId}{z:Nat}{v:zu}{n:Nat}{xs:List zu}(m:zr U B' e z v n xs)(j:e∉S):zr V B' e z v n xs:=by
 obtain⟨a,⟨rfl,f⟩|⟨g,cap,b,rfl,i,l,o⟩⟩:=m
 .exact⟨a,za ⟨rfl,f⟩⟩
 exact⟨a,ze ⟨g,cap,b,rfl,i,c.kc _ _ _ l j,o⟩⟩
theorem dH.clause(b:dH S U V){v:zu}{a:List Lt}(i:bP B' U v a)(c:55∉S)(f:52∉S):bP B' V v a:=by grind[dH.row,bP,jB,bH,aV]
theorem dH.boxed(b:dH S U V){k:Nat}{a:TypeId}{v:zu}(f:Boxed U k a v)(c:a∉S):Boxed V k a v:=b.kc _ _ _ f c
structure kB(c:List Lt):Prop where
 len:Z c<=8
 term:∀x∈c,aP x.2 1=zj/\Z x.2<=60
theorem aH0{n:Nd}(a:dQ n=zj):n.1.size<=80:=by
 unfold dQ at a;split at a
 .rename_i b;have:n.1.size=0:=by
   simp[aK]at b;have:=congrArg Z b;rw[ByteArray.toList_eq]at this;simpa using this
  omega
 simp at a;exact(aPs _ a.1).2
theorem aH1:∀(a:List Nd) (q:Nat),aP a q=zj->∀n∈a,dQ n=zj
 |[],_,_,n,hn=>by simp at hn
 |x::r,q,h,n,hn=>by
  unfold aP at h;split at h
  .cases h
  split at h
  .rename_i b;rcases List.mem_cons.1 hn with rfl|hn
   .exact b
   exact aH1 r _ h n hn
  cases h
theorem kB.nodes{a:List Lt}(b:kB a){x:Lt}(c:x∈a):Z x.2<=60/\0<Z x.2/\∀k (b:k<Z x.2),x.2[k].1.size<=80:=by obtain⟨f,i⟩:=b.term x c;grind[aH0,aP,aH1,zl]
theorem mB{b:List Lt}(a:bD b=zj):kB b:=by simp only[bD,Bool.and_eq_true,bN,decide_eq_true_eq,List.all_eq_true]at a;exact⟨a.1.1.1,λf c=>aOh (a.1.2 f c)⟩
theorem bP.lits{a:List Lt}(i:bP B w v a)(j:kB a):∃b cap,v=.slice b (Z a) cap/\Z a<=cap/\bU w b a/\kQ w b a:=by
 obtain⟨f,l,c,t,u⟩:=i;subst l;obtain⟨b,cap,rfl⟩:=aZ c;refine⟨b,cap,by simp,?_,zT (P:=f) (by simpa using c) rfl (λq s=>?_) (by have:=j.len;omega),?_⟩
 .obtain⟨_,⟨e,p⟩|⟨g,m,o,e,_,_,r,_⟩⟩:=c;all_goals grind
 all_goals grind[kB.nodes,aHf,wC,fN,kQ,bP,jB,bH]
structure Cd where
 r:Int
 a:Int
 b:Int
 i:Int
 j:Int
 ad:Option Addr
 ln:Nat
 cp:Nat
 wt:Int
 nm:Int
 c:List Lt
def Cd.cells(x:Cd):List zu:=[iQ x.r,iQ x.a,iQ x.b,iQ x.i,iQ x.j,.slice x.ad x.ln x.cp,iQ x.wt,iQ x.nm]
def Cd.agg(x:Cd):zu:=.agg #[iQ x.r,iQ x.a,iQ x.b,iQ x.i,iQ x.j,.slice x.ad x.ln x.cp,iQ x.wt,iQ x.nm]
def kC(a:List Cd):List zu:=a.flatMap Cd.cells
theorem aZo:(Tryz.prog.info? 124).map (λa=>(a.zero,a.size,a.bytes))=Y (Y (.agg #[iQ 0,iQ 0,iQ 0,iQ 0,iQ 0,nQ,iQ 0,iQ 0]),8,80):=by kernel_rfl
theorem aNh(a:List Cd):Z (kC a)=Z a*8:=by
 induction a with
 |nil=>rfl
 |cons x r ih=>simp[kC,Cd.cells]at ih ⊢;omega
theorem zV(b:Cd)(a:List Cd):kC (b::a)=b.cells++kC a:=rfl
theorem aZp(a b:List Cd):kC (a++b)=kC a++kC b:=by simp[kC]
theorem aDq(a:Cd):Z a.cells=8:=rfl
theorem uZ:∀(b:List Cd) (k:Nat) (c:k<Z b) (a:Nat),a<8->(kC b)[k*8+a]?=(b[k]).cells[a]?
 |[],k,c,_,_=>by simp at c
 |x::b,0,_,a,ht=>by rw[zV,List.getElem?_append_left (by rw[aDq];omega)];simp
 |x::b,k+1,c,a,ht=>by
  have:=uZ b k (by simpa using c) a ht;rw[zV,List.getElem?_append_right (by rw[aDq];omega),aDq,show (k+1)*8+a-8=k*8+a by omega,this];simp
def aDr(c:List zu)(b:Nat)(a:Cd):List zu:=(((((((c.set b (iQ a.r)).set (b+1) (iQ a.a)).set (b+2) (iQ a.b)).set (b+3) (iQ a.i)).set (b+4) (iQ a.j)).set (b+5) (.slice a.ad a.ln a.cp)).set (b+6) (iQ a.wt)).set (b+7) (iQ a.nm)
theorem aNi:∀(a:List Cd) (k:Nat) (b:Cd),k<Z a->aDr (kC a) (k*8) b=kC (a.set k b)
 |[],k,_,h=>by simp at h
 |y::a,0,b,_=>by simp[aDr,kC,Cd.cells]
 |y::a,k+1,b,h=>by
  have:=aNi a k b (by simpa using h);rw[List.set_cons_succ,zV,zV,<-this];have c:(k+1)*8=k*8+8:=by omega
  simp only[aDr,c];simp[Cd.cells]
theorem aNj{f:Nat}(j:zr w B e f (sQ g n cap) n xs)(k:Nat)(b:zu):zr (zv w (aQ g k) b) B e f (sQ g n cap) n (xs.set k b):=by
 obtain⟨l,⟨a,_⟩|⟨x,u,i,a,m,c,o,r,t,s⟩⟩:=j
 .cases a
 simp at a;obtain⟨rfl,rfl⟩:=a;refine⟨by simpa using l,ze ⟨g,cap,i.setIfInBounds k b,rfl,m,?_,o,r,by simpa using t,?_⟩⟩
 .have p:=(bA c);show (w.heap.modify g _)[g]?=_;rw[zm (by rw[zf];exact p),zk];rw[(Array.getElem?_eq_some_iff.1 c).2];rfl
 rw[<-s];simp[List.take_set]
structure dR(B:Nat)(w:zw)(hp:Nat)(v:zu)(L:List Cd):Prop where
 box:w.heap[hp]?=Y (.cells #[v,.func (.func 62) #[] #[]] 168 (0,0))
 row:zr w B 124 8 v (Z L) (kC L)
 base:B<=hp
theorem dR.c0{b:List Cd}(a:dR B w hp v b):zx w (aQ hp 0)=Y v/\zx w (aQ hp 1)=Y (.func (.func 62) #[] #[]):=⟨by simp[zx,a.box],by simp[zx,a.box]⟩
theorem dR.cells{a:List Cd}(f:dR B w hp v a){k:Nat}(b:k<Z a):∃g cap,v=sQ g (Z a) cap/\zx w (aQ g (k*8))=Y (iQ a[k].r)/\zx w (aQ g (k*8+1))=Y (iQ a[k].a)/\zx w (aQ g (k*8+2))=Y (iQ a[k].b)/\zx w (aQ g (k*8+3))=Y (iQ a[k].i)/\
   zx w (aQ g (k*8+4))=Y (iQ a[k].j)/\zx w (aQ g (k*8+5))=Y (.slice a[k].ad a[k].ln a[k].cp)/\zx w (aQ g (k*8+6))=Y (iQ a[k].wt)/\zx w (aQ g (k*8+7))=Y (iQ a[k].nm):=by
 obtain⟨j,⟨_,e⟩|⟨g,cap,i,rfl,hb,l,o⟩⟩:=f.row
 .omega
 have c:=f.row;have m:=aNh a;refine⟨g,cap,rfl,?_,?_,?_,?_,?_,?_,?_,?_⟩
 .rw[c.cellAt (k*8) (by omega)];exact uZ a k b 0 (by omega)
 .rw[c.cellAt (k*8+1) (by omega)];exact uZ a k b 1 (by omega)
 .rw[c.cellAt (k*8+2) (by omega)];exact uZ a k b 2 (by omega)
 .rw[c.cellAt (k*8+3) (by omega)];exact uZ a k b 3 (by omega)
 .rw[c.cellAt (k*8+4) (by omega)];exact uZ a k b 4 (by omega)
 .rw[c.cellAt (k*8+5) (by omega)];exact uZ a k b 5 (by omega)
 .rw[c.cellAt (k*8+6) (by omega)];exact uZ a k b 6 (by omega)
 rw[c.cellAt (k*8+7) (by omega)];exact uZ a k b 7 (by omega)
def jM(w:zw)(g a:Nat)(x:Cd):zw:=zv (zv (zv (zv (zv (zv (zv (zv w (aQ g a) (iQ x.r)) (aQ g (a+1)) (iQ x.a)) (aQ g (a+2)) (iQ x.b)) (aQ g (a+3)) (iQ x.i)) (aQ g (a+4)) (iQ x.j)) (aQ g (a+5)) (.slice x.ad x.ln x.cp)) (aQ g (a+6)) (iQ x.wt)) (aQ g (a+7)) (iQ x.nm)
theorem aZq{a:List Cd}{x:Cd}(c:zr w B e 8 (sQ g n cap) n (kC a))(b:k<Z a):zr (jM w g (k*8) x) B e 8 (sQ g n cap) n (kC (a.set k x)):=by rw[<-aNi a k x b];unfold jM aDr;grind[aNj]
theorem aNk(w:zw)(g m:Nat)(x:Cd):zs w (jM w g m x) (Y g):=by
 unfold jM;have a:∀(f:zw) (k:Nat) (v:zu),zs w f (Y g)->zs w (zv f (aQ g k) v) (Y g):=λf k v b=>by
  have c:=cD f (aQ g k) v;exact⟨c.os.trans b.os,c.tape.trans b.tape,c.output.trans b.output,zb b.size c.size,λl i j=>(c.block l (zd i b.size) j).trans (b.block l i j)⟩
 refine a _ _ _ (a _ _ _ (a _ _ _ (a _ _ _ (a _ _ _ (a _ _ _ (a _ _ _ (a _ _ _ ?_)))))));exact⟨rfl,rfl,rfl,zp _,λ_ _ _=>rfl⟩
theorem aZr(w:zw)(g a q:Nat)(x:Cd)(b:q<a\/a+8<=q):zx (jM w g a x) (aQ g q)=zx w (aQ g q):=by unfold jM;iterate 8 rw[World.cell?_setCell_other _ _ _ _ (by intro b;simp only[Addr.mk.injEq]at b;omega)]
theorem dR.frozen{a:List Cd}(b:dR B w hp (sQ g n cap) a)(q:Nat):zo w (aQ g q)=false:=by
 obtain⟨_,⟨e,_⟩|⟨j,f,i,e,l,c,_⟩⟩:=b.row
 .cases e
 simp at e;obtain⟨rfl,_⟩:=e;simp[zo,c]
def kX(x a:Cd):Bool:=if x.wt=a.wt then decide (x.nm<a.nm) else decide (x.wt<a.wt)
theorem aNl(a b:Cd)(w:zw):Calls zn 62 #[a.agg,b.agg] w λe w'=>e=.returned (.bool (kX a b))/\aB w w':=by
 unfold Cd.agg;go_enter Tryz.func62,Tryz.ntmps62;go_wp2
 .have f:a.wt≠b.wt:=by simpa using ‹(a.wt != b.wt)=zj›
  go_ret;exact⟨by simp[kX,f],(aI w _).alloc (by simp) _⟩
 have c:a.wt=b.wt:=by simpa using ‹(a.wt != b.wt)=zg›
 go_ret;exact⟨by simp[kX,c],(aI w _).alloc (by simp) _⟩
theorem dR.below{b:List Cd}(a:dR B w hp v b)(hb:aB w w'):dR B w' hp v b:=
 ⟨(hb.block _ (bA a.box)).trans a.box,bF a.row hb (zp _),a.base⟩
theorem dR.put{b:List Cd}{x:Cd}(a:dR B w hp (sQ g n cap) b)(j:n=Z b)(i:k<Z b):dR B (jM w g (k*8) x) hp (sQ g n cap) (b.set k x)/\zs w (jM w g (k*8) x) (Y g):=by
 subst j;obtain⟨_,⟨e,_⟩|⟨o,l,m,e,_,f,_⟩⟩:=a.row
 .cases e
 simp at e;obtain⟨rfl,rfl⟩:=e;have c:=aNk w g (k*8) x;refine⟨⟨?_,?_,a.base⟩,c⟩
 .rw[c.block hp (bA a.box) (by
   intro e;cases e;rw[a.box]at f;cases f)]
  exact a.box
 have:=aZq (x:=x) a.row i;simpa using this
theorem nL{c f i:zw}{b:Option Nat}(a:zs c f b)(k:zs f i b):zs c i b:=
 ⟨k.os.trans a.os,k.tape.trans a.tape,k.output.trans a.output,zb a.size k.size,λm j l=>(k.block m (zd j a.size) l).trans (a.block m j l)⟩
theorem dR.mv{b:List Cd}(f:dR B w hp v b)(j:zs w w' (zt v)):Mv [124] B w w':=by
 refine Mv.of_grown j (λk a=>?_);obtain⟨_,⟨rfl,_⟩|⟨g,cap,c,rfl,i,l,_⟩⟩:=f.row
 .cases a
 cases a;exact⟨i,c,_,l,by simp⟩
def nM(a:List Cd)(b c:Nat)(f:b<Z a)(i:c<Z a):List Cd:=(a.set b a[c]).set c a[b]
theorem aBd{a:List Cd}{b c:Nat}(f:b<Z a)(i:c<Z a):Z (nM a b c f i)=Z a:=by simp[nM]
theorem aNm(B hp:Nat)(v:zu)(a:List Cd)(f b:Nat)(w:zw)(i:dR B w hp v a)(j:f<Z a)(l:b<Z a)(a1:f≠b):Calls zn 153 #[pQ hp,iQ f,iQ b] w λe w'=>(∃s,e=.returned s)/\dR B w' hp v (nM a f b j l)/\zs w w' (zt v):=by
 obtain⟨g,cap,rfl,a3,a4,a5,a6,a7,a8,a9,b0⟩:=i.cells j;obtain⟨R,Q,e,u,y,z,A,C,D,E,F⟩:=i.cells l;cases e;have P:=i.c0.1;have X:=i.frozen;have T:(f:Int)<(Z a:Int):=by omega
 have W:(b:Int)<(Z a:Int):=by omega
 have c:=λt (a2:t<8)=>aZr w g (f*8) (b*8+t) a[b] (by omega)
 have p:=(c 0 (by omega)).trans u;have G:=(c 1 (by omega)).trans y;have H:=(c 2 (by omega)).trans z;have I:=(c 3 (by omega)).trans A;have J:=(c 4 (by omega)).trans C;have L:=(c 5 (by omega)).trans D;have M:=(c 6 (by omega)).trans E;have N:=(c 7 (by omega)).trans F;clear c;unfold jM at p G H I J L M N;simp only[Nat.add_zero]at p;have r:=O i;clear i;go_enter Tryz.func153,Tryz.ntmps153;have a0:Tryz.prog.follows .mixedOrders=true:=by kernel_rfl
 go_region;go_end0;have m:=r.o.put (x:=a[b]) rfl j;have o:=m.1.put (k:=b) (x:=a[f]) (by simp) (by simpa using l);refine⟨⟨_,rfl⟩,?_,?_⟩
 .exact o.1.below (aN ⟨1,rfl⟩)
 exact nL (nL m.2 o.2) (jL (aN ⟨1,rfl⟩))
def fI:Nat->List Cd->Nat->List Cd
 |0,L,_=>L
 |f+1,L,k=>if h:0<k/\k<Z L then (if kX (L[k]'h.2) (L[(k-1) / 2]'(by omega)) then fI f (nM L k ((k-1) / 2) h.2 (by omega)) ((k-1) / 2) else L) else L
theorem aH2:∀(f:Nat) (a:List Cd) (k:Nat),Z (fI f a k)=Z a
 |0,_,_=>rfl
 |f+1,a,k=>by
  unfold fI;split
  .split
   .rw[aH2 f];exact aBd _ _
   rfl
  rfl
def aNn(w:zw)(g k:Nat)(a:Cd):Prop:=zx w (aQ g (k*8))=Y (iQ a.r)/\zx w (aQ g (k*8+1))=Y (iQ a.a)/\zx w (aQ g (k*8+2))=Y (iQ a.b)/\zx w (aQ g (k*8+3))=Y (iQ a.i)/\
 zx w (aQ g (k*8+4))=Y (iQ a.j)/\zx w (aQ g (k*8+5))=Y (.slice a.ad a.ln a.cp)/\zx w (aQ g (k*8+6))=Y (iQ a.wt)/\zx w (aQ g (k*8+7))=Y (iQ a.nm)
theorem dR.at{L:List Cd}(a:dR B w hp v L){k:Nat}(b:k<Z L):∃g cap,v=sQ g (Z L) cap/\aNn w g k L[k]:=a.cells b
theorem aZs{f:Nat}{a:List Cd}(j:0<k)(c:k<Z a):∃(b:Nat) (i:b<Z a),((k:Int)-1).tdiv 2=(b:Int)/\b<k/\fI (f+1) a k=if kX a[k] a[b] then fI f (nM a k b c i) b else a:=by grind[fI]
def zW(hp g n cap q c:Nat)(a b:Cd)(w':zw):Prop:=zx w' (aQ hp 0)=Y (sQ g n cap)/\zx w' (aQ hp 1)=Y (.func (.func 62) #[] #[])/\zx w' (aQ g (q*8))=Y (iQ a.r)/\zx w' (aQ g (q*8+1))=Y (iQ a.a)/\zx w' (aQ g (q*8+2))=Y (iQ a.b)/\zx w' (aQ g (q*8+3))=Y (iQ a.i)/\zx w' (aQ g (q*8+4))=Y (iQ a.j)/\zx w' (aQ g (q*8+5))=Y (.slice a.ad a.ln a.cp)/\zx w' (aQ g (q*8+6))=Y (iQ a.wt)/\zx w' (aQ g (q*8+7))=Y (iQ a.nm)/\zx w' (aQ g (c*8))=Y (iQ b.r)/\zx w' (aQ g (c*8+1))=Y (iQ b.a)/\zx w' (aQ g (c*8+2))=Y (iQ b.b)/\zx w' (aQ g (c*8+3))=Y (iQ b.i)/\zx w' (aQ g (c*8+4))=Y (iQ b.j)/\zx w' (aQ g (c*8+5))=Y (.slice b.ad b.ln b.cp)/\zx w' (aQ g (c*8+6))=Y (iQ b.wt)/\zx w' (aQ g (c*8+7))=Y (iQ b.nm)
theorem zW.below{a:Nat}{x y:Cd}(b:zW hp g n cap q a x y w)(hb:aB w w'):zW hp g n cap q a x y w':=by grind[Below.at',zW]
theorem dR.two{a:List Cd}{b:Nat}(c:dR B w hp (sQ g (Z a) cap) a)(f:q<Z a)(i:b<Z a):zW hp g (Z a) cap q b a[q] a[b] w:=by grind[dR.c0,dR.cells,zW]
theorem aZt(B hp:Nat)(v:zu)(i:List Cd)(k:Nat)(w:zw)(H:dR B w hp v i)(a7:k<Z i)(b5:Z i<=1000000000):Calls zn 132 #[pQ hp,iQ k] w λe w'=>(∃R,e=.returned R)/\dR B w' hp v (fI k i k)/\zs w w' (zt v):=by
 have W:=O H;clear H;go_enter Tryz.func132,Tryz.ntmps132;go_wp2;go_loopw[1] (λA wr=>∃(q f:Nat) (a:List Cd),A=iQ q/\q<Z a/\q<=f/\Z a=Z i/\dR B wr hp v a/\zs w wr (zt v)/\fI f a q=fI k i k) (λA _=>(intOf A).toNat);exact⟨k,k,i,rfl,a7,zp _,rfl,W.o,⟨rfl,rfl,rfl,zp _,λ_ _ _=>rfl⟩,rfl⟩;obtain⟨q,f,a,rfl,l,b6,L,j,o,c⟩:=hrel;by_cases a5:0<q
 .obtain⟨f,rfl⟩:∃a4,f=a4+1:=⟨f-1,by omega⟩;obtain⟨b,p,a6,c1,Q⟩:=aZs (f:=f) a5 l;rw[Q]at c;obtain⟨g,cap,rfl,_⟩:=j.at l;have N:=j.two l p;have T:=O (λ(m:zw) (b3:dR B m hp (sQ g (Z a) cap) a)=>aNm B hp _ a q b m b3 l p (by omega));generalize hM':nM a q b l p=M' at *;have M:Z M'=Z a:=by rw[<-hM'];exact aBd _ _
  have C:=O (λ(m:zw) (b2:∃d,m=wr.drewN d)=>(aNl a[q] a[b] m).mono (R':=λe r=>e=.returned (.bool (kX a[q] a[b]))/\aB wr r) (λe r c=>by
   obtain⟨d,rfl⟩:=b2;exact⟨c.1,(aN ⟨d,rfl⟩).trans c.2⟩))
  generalize a[q]=x at *;generalize a[b]=y at *;unfold Cd.agg at C;have a3:=O N;obtain⟨e2,e3,f2,f3,f4,f5,f6,f7,f8,f9,e4,e5,e6,e7,e8,e9,f0,f1⟩:=N;have s:=O j;have t:=O o;have E:=O c;have a2:=O (show Z a=Z i from L);have b8:(0:Int)<(q:Int):=by omega
  have b9:(0:Int)<=(q:Int):=by omega
  have c2:(0:Int)<=(b:Int):=by omega
  have b7:(q:Int)<(Z a:Int):=by omega
  have c0:(b:Int)<(Z a:Int):=by omega
  have a9:wrap64 ((q:Int)-1)=(q:Int)-1:=by unfold wrap64;omega
  have b1:wrap64 (b:Int)=(b:Int):=by unfold wrap64;omega
  have b0:wrap64 (((q:Int)-1).tdiv 2)=(b:Int):=by rw[a6];unfold wrap64;omega
  clear c Q j o hM' L;generalize hml:Z a=ml at *;have a1:=O hml;clear hml;go_wp2;go_region_held3 (λw'=>cQ w' hp 0 (sQ g ml cap)/\cQ w' hp 1 (.func (.func 62) #[] #[])/\cQ w' g (q*8) (iQ x.r)/\cQ w' g (q*8+1) (iQ x.a)/\cQ w' g (q*8+2) (iQ x.b)/\cQ w' g (q*8+3) (iQ x.i)/\cQ w' g (q*8+4) (iQ x.j)/\cQ w' g (q*8+5) (.slice x.ad x.ln x.cp)/\cQ w' g (q*8+6) (iQ x.wt)/\cQ w' g (q*8+7) (iQ x.nm)/\cQ w' g (b*8) (iQ y.r)/\cQ w' g (b*8+1) (iQ y.a)/\cQ w' g (b*8+2) (iQ y.b)/\cQ w' g (b*8+3) (iQ y.i)/\cQ w' g (b*8+4) (iQ y.j)/\cQ w' g (b*8+5) (.slice y.ad y.ln y.cp)/\cQ w' g (b*8+6) (iQ y.wt)/\cQ w' g (b*8+7) (iQ y.nm)) (go_keep)
   (first
    |(go_at_call 62;refine(aD C _ (by first|exact⟨0,rfl⟩|exact⟨1,rfl⟩|exact⟨_,rfl⟩)).mono ?_;rintro e r ⟨rfl,u⟩;obtain⟨c3,c4,d3,d4,d5,d6,d7,d8,d9,e0,c5,c6,c7,c8,c9,d0,d1,d2⟩:=a3.o.below u;have D:=O u;clear u)
    |go_in)
  have J:=s.o.below D.o;have F:=O J;have G:=O (nL t.o (jL D.o));clear J a9 b0 b1;go_wp2_with(first
   |(go_at_call 153;refine(aD T r F.o).mono ?_;rintro e e1 ⟨⟨R,rfl⟩,I,P⟩;have X:=O I;have a0:=O (nL G.o P);clear I P)
   |go_in)
  .have z:kX x y=false:=by simpa using ‹(!kX x y)=zj›
   refine bodyPost_ret (results_none rfl _ _ _) rfl ?_;have c:=E.o;rw[aS (by simp[z])]at c;rw[<-c];exact⟨⟨_,rfl⟩,by rw[a1.o];exact F.o,G.o⟩
  have z:kX x y=true:=by simpa using ‹(!kX x y)=zg›
  go_roundw;case rel=>
   have c:=E.o;rw[aT z]at c;exact⟨b,f,M',rfl,by rw[M];exact p,by omega,by rw[M];exact a2.o,X.o,a0.o,c⟩
  case measure=>simp[intOf];omega
 have a8:q=0:=by omega
 subst a8;have b4:fI f a 0=a:=by
  cases f with
  |zero=>rfl
  |succ f=>unfold fI;rw[dif_neg (by omega)]
 rw[b4]at c;have s:=O j;have t:=O o;clear j o;go_wp2;go_end0;rw[<-c];exact⟨⟨_,rfl⟩,s.o,t.o⟩
def fJ(a:List Cd)(q:Nat):Nat->Nat
 |0=>q
 |t+1=>if h:2*q+1+t<Z a/\fJ a q t<Z a then (if kX (a[2*q+1+t]'h.1) (a[fJ a q t]'h.2) then 2*q+1+t else fJ a q t) else fJ a q t
theorem aH3(a:List Cd)(q:Nat):∀t,fJ a q t=q\/(q<fJ a q t/\fJ a q t<2*q+1+t/\fJ a q t<Z a)
 |0=>za rfl
 |t+1=>by
  unfold fJ;split
  .split
   .right;omega
   rcases aH3 a q t with h|h
   .exact za h
   right;omega
  rcases aH3 a q t with h|h
  .exact za h
  right;omega
theorem aNo{a:List Cd}{t:Nat}(b:Z a<=2*q+1+t):fJ a q (t+1)=fJ a q t:=by
 conv=>lhs;unfold fJ
 rw[dif_neg (by omega)]
theorem aZu{a:List Cd}{b:Nat}(c:2*q+1+b<Z a)(f:fJ a q b<Z a):fJ a q (b+1)=if kX a[2*q+1+b] a[fJ a q b] then 2*q+1+b else fJ a q b:=by
 conv=>lhs;unfold fJ
 rw[dif_pos ⟨c,f⟩]
def kY:Nat->List Cd->Nat->List Cd
 |0,L,_=>L
 |f+1,L,q=>if h:fJ L q 2≠q/\q<Z L/\fJ L q 2<Z L then kY f (nM L q (fJ L q 2) h.2.1 h.2.2) (fJ L q 2) else L
theorem aNp:∀(f:Nat) (a:List Cd) (q:Nat),Z (kY f a q)=Z a
 |0,_,_=>rfl
 |f+1,a,q=>by
  unfold kY;split
  .rw[aNp f];exact aBd _ _
  rfl
theorem aNq{f:Nat}{a:List Cd}(b:fJ a q 2=q):kY f a q=a:=by
 cases f with
 |zero=>rfl
 |succ f=>unfold kY;rw[dif_neg (by omega)]
theorem aNr{f:Nat}{a:List Cd}{b:Nat}(j:fJ a q 2=b)(l:b≠q)(c:q<Z a)(i:b<Z a):kY (f+1) a q=kY f (nM a q b c i) b:=by grind[kY]
theorem aZv(B hp:Nat)(v:zu)(f:List Cd)(w:zw)(h:dR B w hp v f)(e2:Z f<=1000000000):Calls zn 133 #[pQ hp,iQ 0] w λe w'=>(∃a7,e=.returned a7)/\dR B w' hp v (kY (Z f) f 0)/\zs w w' (zt v):=by
 obtain⟨M,E,rfl⟩:=aZ h.row;have c5:=O h;clear h;go_enter Tryz.func133,Tryz.ntmps133;go_wp2;go_loopw[1] (λa6 wr=>∃(q l:Nat) (b:List Cd),a6=iQ q/\(q<Z b\/q=0)/\Z b<=q+l/\Z b=Z f/\dR B wr hp (.slice M (Z f) E) b/\zs w wr (zt (Value.slice M (Z f) E))/\kY l b q=kY (Z f) f 0) (λa6 _=>Z f-(intOf a6).toNat);exact⟨0,Z f,f,rfl,ze rfl,by omega,rfl,c5.o,⟨rfl,rfl,rfl,zp _,λ_ _ _=>rfl⟩,rfl⟩;obtain⟨q,l,b,rfl,f1,f0,b7,D,I,G⟩:=hrel;have f2:q<=Z f:=by omega
 have r:=O D;have s:=O I;have P:=O G;have R:=O b7;clear G D I b7;go_wp2;go_loopw[4,5] (λa d wr=>∃c:Nat,c<=2/\a=iQ (fJ b q c)/\d=iQ (2*q+1+c:Nat)/\dR B wr hp (.slice M (Z f) E) b/\zs w wr (zt (Value.slice M (Z f) E))) (λ_ d _=>2*q+3-(intOf d).toNat);exact⟨0,by omega,rfl,by simp,r.o,s.o⟩;obtain⟨c,d5,rfl,rfl,D,I⟩:=hrel;have a5:=aH3 b q c;have e0:=D.c0.1;have r:=O D;have s:=O I;clear D I;by_cases c0:c<=1/\2*q+1+c<Z f
 .obtain⟨e5,d2⟩:=c0;have W:=R.o;have p:fJ b q c<Z b:=by omega
  have a0:2*q+1+c<Z b:=by omega
  have c1:=aZu a0 p;obtain⟨d,z⟩:∃d,2*q+1+c=d:=⟨_,rfl⟩;obtain⟨a,x⟩:∃a,fJ b q c=a:=⟨_,rfl⟩;have b2:aE (∃i j,i=b[2*q+1+c]/\j=b[fJ b q c]/\fJ b q (c+1)=if kX i j then d else a):=O ⟨_,_,rfl,rfl,by rw[<-z,<-x];exact c1⟩;obtain⟨i,j,c2,c3,b9⟩:=b2.o;have T:=r.o;rw[<-W]at T;obtain⟨g,cap,c8,d0⟩:=T.at a0;clear d0;cases c8;have X:=T.two a0 p;rw[<-c2,<-c3,W]at X;simp only[z,x]at X ⊢;have a9:=O (λ(c4:zw) (d6:∃e,c4=wr.drewN e)=>(aNl i j c4).mono (R':=λe a8=>e=.returned (.bool (kX i j))/\aB wr a8) (λe a8 G=>by
   obtain⟨c7,rfl⟩:=d6;exact⟨G.1,(aN ⟨c7,rfl⟩).trans G.2⟩))
  unfold Cd.agg at a9;have c6:=O X;obtain⟨h1,h2,i1,i2,i3,i4,i5,i6,i7,i8,h3,h4,h5,h6,h7,h8,h9,i0⟩:=X;have d8:=O p;have b1:=O b9;have e8:(d:Int)<=2*(q:Int)+2:=by omega
  have e9:(0:Int)<=(d:Int):=by omega
  have e4:(0:Int)<=(a:Int):=by omega
  have e7:(d:Int)<(Z f:Int):=by omega
  have e3:(a:Int)<(Z f:Int):=by omega
  have e6:d<=2*q+2:=by omega
  have b3:=O (show d=2*q+1+c from z.symm);clear c1 c2 c3 T a5 W z x b9 b2 p a0 d2;generalize hml:Z f=ml at *;have d9:=O hml;clear hml;go_wp2;go_region_held3 (λw'=>cQ w' hp 0 (sQ g ml E)/\cQ w' hp 1 (.func (.func 62) #[] #[])/\cQ w' g (d*8) (iQ i.r)/\cQ w' g (d*8+1) (iQ i.a)/\cQ w' g (d*8+2) (iQ i.b)/\cQ w' g (d*8+3) (iQ i.i)/\cQ w' g (d*8+4) (iQ i.j)/\cQ w' g (d*8+5) (.slice i.ad i.ln i.cp)/\cQ w' g (d*8+6) (iQ i.wt)/\cQ w' g (d*8+7) (iQ i.nm)/\cQ w' g (a*8) (iQ j.r)/\cQ w' g (a*8+1) (iQ j.a)/\cQ w' g (a*8+2) (iQ j.b)/\cQ w' g (a*8+3) (iQ j.i)/\cQ w' g (a*8+4) (iQ j.j)/\cQ w' g (a*8+5) (.slice j.ad j.ln j.cp)/\cQ w' g (a*8+6) (iQ j.wt)/\cQ w' g (a*8+7) (iQ j.nm)) (go_keep)
   (first
    |(go_at_call 62;refine(aD a9 _ (by first|exact⟨0,rfl⟩|exact⟨1,rfl⟩|exact⟨_,rfl⟩)).mono ?_;rintro e a8 ⟨rfl,p⟩;obtain⟨f3,f4,g3,g4,g5,g6,g7,g8,g9,h0,f5,f6,f7,f8,f9,g0,g1,g2⟩:=c6.o.below p;have b0:=O p;clear p)
    |go_in)
  have A:=O (r.o.below b0.o);have C:=O (nL s.o (jL b0.o));go_wp2
  .have a4:kX i j=true:=by assumption
   go_roundw;case rel=>
    have F:=b1.o;rw[aT a4]at F;have:=b3.o;exact⟨c+1,by omega,by rw[F],by have:(d:Int)+1=((2*q+1+(c+1):Nat):Int):=(by omega);rw[<-this],A.o,C.o⟩
   case measure=>simp[intOf];omega
  have a4:kX i j=false:=by assumption
  go_roundw;case rel=>
   have F:=b1.o;rw[aS (by simp[a4])]at F;have:=b3.o;exact⟨c+1,by omega,by rw[F],by have:(d:Int)+1=((2*q+1+(c+1):Nat):Int):=(by omega);rw[<-this],A.o,C.o⟩
  case measure=>simp[intOf];omega
 have W:=R.o;have b8:fJ b q 2=fJ b q c:=by
  rcases Nat.lt_or_ge c 2 with h|h
  .have u:Z b<=2*q+1+c:=by omega
   have b4:=aNo u;rcases(show c=0\/c=1 by omega)with rfl|rfl
   .rw[aNo (t:=1) (by omega),b4]
   exact b4
  rw[show c=2 by omega]
 rw[<-b8]at a5 ⊢;obtain⟨a,x⟩:∃a,fJ b q 2=a:=⟨_,rfl⟩;rw[x]at a5 ⊢;have d4:¬(2*q+1+c<=2*q+2)\/¬(2*q+1+c<Z f):=by omega
 obtain⟨d,z⟩:∃d,2*q+1+c=d:=⟨_,rfl⟩;rw[z]at d4 ⊢;have Q:=O x;clear x b8 c0 d5 z;have N:=O (λ(b5:q<Z b) (b6:a<Z b) (d3:q≠a)=>aNm B hp (.slice M (Z f) E) b q a wr r.o b5 b6 d3);by_cases b5:d<=2*q+2
 .have b6:¬d<Z f:=by omega
  have c9:(d:Int)<=2*(q:Int)+2:=by omega
  have e1:¬(d:Int)<(Z f:Int):=by omega
  by_cases y:a=q
  .subst y;go_wp2;refine bodyPost_ret (results_none rfl _ _ _) rfl ?_;rw[<-P.o,aNq Q.o];exact⟨⟨_,rfl⟩,r.o,s.o⟩
  have o:q<Z b:=by omega
  have m:a<Z b:=by omega
  have d1:¬(a:Int)=(q:Int):=by omega
  obtain⟨l,rfl⟩:∃a3,l=a3+1:=⟨l-1,by omega⟩;have H:=aNr (f:=l) Q.o y o m;have L:=aBd o m;have a1:=O (aD N o m (λe=>y e.symm));generalize nM b q a o m=M' at *;have a2:=O H;have t:=O L;clear H L N;go_wp2_with(first
   |(go_at_call 153;refine(aD a1).mono ?_;rintro e d7 ⟨⟨a7,rfl⟩,u,J⟩;have A:=O u;have C:=O (nL s.o J);clear u J)
   |go_in)
  exact⟨⟨a,l,M',rfl,za (by rw[t.o];exact m),by rw[t.o];omega,by rw[t.o];exact R.o,A.o,C.o,by rw[<-P.o,a2.o]⟩,by simp[intOf];omega⟩
 have c9:¬(d:Int)<=2*(q:Int)+2:=by omega
 by_cases y:a=q
 .subst y;go_wp2;refine bodyPost_ret (results_none rfl _ _ _) rfl ?_;rw[<-P.o,aNq Q.o];exact⟨⟨_,rfl⟩,r.o,s.o⟩
 have o:q<Z b:=by omega
 have m:a<Z b:=by omega
 have d1:¬(a:Int)=(q:Int):=by omega
 obtain⟨l,rfl⟩:∃a3,l=a3+1:=⟨l-1,by omega⟩;have H:=aNr (f:=l) Q.o y o m;have L:=aBd o m;have a1:=O (aD N o m (λe=>y e.symm));generalize nM b q a o m=M' at *;have a2:=O H;have t:=O L;clear H L N;go_wp2_with(first
  |(go_at_call 153;refine(aD a1).mono ?_;rintro e d7 ⟨⟨a7,rfl⟩,u,J⟩;have A:=O u;have C:=O (nL s.o J);clear u J)
  |go_in)
 exact⟨⟨a,l,M',rfl,za (by rw[t.o];exact m),by rw[t.o];omega,by rw[t.o];exact R.o,A.o,C.o,by rw[<-P.o,a2.o]⟩,by simp[intOf];omega⟩
theorem dR.frz{a:List Cd}(b:dR B w hp v a)(k:Nat):zo w (aQ hp k)=false:=by simp[zo,b.box]
theorem dR.more{a:zw}{f:zu}{i:List Cd}{x:Cd}(b:dR B w hp v i)(m:zr a B 124 8 f (Z i+1) (kC i++x.cells))(l:zs w a (zt v)):zx a (aQ hp 0)=Y v/\zo a (aQ hp 0)=zg/\dR B (zv a (aQ hp 0) f) hp f (i++[x])/\Mv [124,168] B w (zv a (aQ hp 0) f):=by
 have c:a.heap[hp]?=Y (.cells #[v,.func (.func 62) #[] #[]] 168 (0,0)):=by rw[l.block hp (bA b.box) (λe=>eX b.row b.box (by decide) e.symm)];exact b.box
 have t:=eX m c (by decide);have s:=(bA c);refine⟨by simp[zx,c],by simp[zo,c],⟨?_,?_,b.base⟩,?_⟩
 .show (a.heap.modify hp _)[hp]?=_;rw[zm (by rw[zf];exact s),zk,(Array.getElem?_eq_some_iff.1 c).2];rfl
 .have:=eW m (cD a (aQ hp 0) f) (ze t);rw[aZp];simpa[kC]using this
 refine Mv.trans (V:=a) (Mv.of_grown l (λk j=>?_)) (Mv.of_grown (cD a (aQ hp 0) f) (λk j=>by cases j;exact⟨b.base,_,_,c,by simp⟩));obtain⟨_,⟨rfl,_⟩|⟨g,cap,o,rfl,p,r,_⟩⟩:=b.row
 .cases j
 cases j;exact⟨p,o,_,r,by simp⟩
theorem aZw(B hp:Nat)(v:zu)(c:List Cd)(a:Cd)(w:zw)(l:dR B w hp v c)(b1:Z c<=1000000)(b0:B<=w.heap.size):Calls zn 100 #[pQ hp,a.agg] w λe w'=>(∃E,e=.returned E)/\∃a5,dR B w' hp a5 (fI (Z c) (c++[a]) (Z c))/\Mv [124,168] B w w':=by
 obtain⟨F,G,rfl⟩:=aZ l.row;have I:=O l;clear l;unfold Cd.agg;go_enter Tryz.func100,Tryz.ntmps100;go_wp2_with fail;obtain⟨b,D,i,f⟩:∃b,w.alloc (.cells #[iQ a.r,iQ a.a,iQ a.b,iQ a.i,iQ a.j,.slice a.ad a.ln a.cp,iQ a.wt,iQ a.nm] 124)=b/\aB w b/\b.heap[w.heap.size]?=Y (.cells #[iQ a.r,iQ a.a,iQ a.b,iQ a.i,iQ a.j,.slice a.ad a.ln a.cp,iQ a.wt,iQ a.nm] 124 (0,0)):=⟨_,rfl,aI w _,zh w _⟩;simp only[D];clear D;have m:=I.o.below i;have x:=m.c0.1;have X:∀r,zx (b.alloc r) (aQ hp 0)=Y (.slice F (Z c) G):=λr=>aC (aI b r) x
 have L:zx b (aQ w.heap.size 0)=Y (iQ a.r):=by simp[zx,f]
 have M:zx b (aQ w.heap.size 1)=Y (iQ a.a):=by simp[zx,f]
 have N:zx b (aQ w.heap.size 2)=Y (iQ a.b):=by simp[zx,f]
 have P:zx b (aQ w.heap.size 3)=Y (iQ a.i):=by simp[zx,f]
 have Q:zx b (aQ w.heap.size 4)=Y (iQ a.j):=by simp[zx,f]
 have R:zx b (aQ w.heap.size 5)=Y (.slice a.ad a.ln a.cp):=by simp[zx,f]
 have T:zx b (aQ w.heap.size 6)=Y (iQ a.wt):=by simp[zx,f]
 have W:zx b (aQ w.heap.size 7)=Y (iQ a.nm):=by simp[zx,f]
 have a4:=i.size;have o:=m.below (aN ⟨1,rfl⟩);have C:zr b.drew B 124 8 (.slice F (Z c) G) (Z c) (kC c):=o.row;have t:=O o;have s:=O i;have b3:Tryz.prog.follows .mixedOrders=true:=by kernel_rfl
 clear m f o i;go_region_law (refine dG aZo Tryz.underlying166 (C.alloc _) ?_ (news:=a.cells);intro b4 a8 p z;obtain⟨a0,a1,y,A⟩:=dR.more (t.o.below ((Below.refl _ b.drew).alloc (zp _) _)) p z;have j:=O y;have u:=O A;obtain⟨a6,a7,rfl⟩:=aZ p;clear p z y A);all_goals
  have a9:=j.o.c0.1;have J:=O ((Mv.of_below (S:=[124,168]) (B:=B) (s.o.trans (((aN ⟨1,rfl⟩).alloc (zp _) _).mono a4))).trans u.o);clear a0 a1 u t s L M N P Q R T W x X C;generalize zv a8 (aQ hp 0) (.slice a6 (Z c+1) a7)=w4 at *;have H:=O (aZt B hp _ (c++[a]) (Z c) w4 j.o (by simp) (by simp;omega));have b2:((Z c:Int)+1)-1=(Z c:Int):=by omega
  go_wp2_with(first
   |(go_at_call 132;refine(aD H).mono ?_;rintro e b5 ⟨⟨E,rfl⟩,a2,a3⟩)
   |go_in)
  go_end0;exact⟨⟨_,rfl⟩,_,a2,J.o.trans ((j.o.mv a3).mono (by simp) (zp _))⟩
def kD:Cd:=⟨0,0,0,0,0,none,0,0,0,0,[]⟩
def iC(a:List Cd):List Cd:=match a.getLast? with
 |none=>[]
 |some y=>kY (Z a-1) ((a.set 0 y).take (Z a-1)) 0
theorem aZx(w:zw):∃a,(w.alloc (.cells #[iQ 0,iQ 0,iQ 0,iQ 0,iQ 0,nQ,iQ 0,iQ 0] 124)).alloc (.cells #[iQ 0,iQ 0,iQ 0,iQ 0,iQ 0,nQ,iQ 0,iQ 0] 124)=a/\aB w a/\a.heap.size=w.heap.size+2/\
  a.heap[w.heap.size]?=Y (.cells #[iQ 0,iQ 0,iQ 0,iQ 0,iQ 0,nQ,iQ 0,iQ 0] 124 (0,0))/\a.heap[w.heap.size+1]?=Y (.cells #[iQ 0,iQ 0,iQ 0,iQ 0,iQ 0,nQ,iQ 0,iQ 0] 124 (0,0)):=by
 refine⟨_,rfl,(aI w _).alloc (by simp) _,by simp,(Below.heap_alloc _ _ _ (by simp)).trans (zh w _),?_⟩;have:=zh (w.alloc (.cells #[iQ 0,iQ 0,iQ 0,iQ 0,iQ 0,nQ,iQ 0,iQ 0] 124)) (.cells #[iQ 0,iQ 0,iQ 0,iQ 0,iQ 0,nQ,iQ 0,iQ 0] 124);rwa[World.size_alloc]at this
theorem aZy(B hp:Nat)(v:zu)(w:zw)(a:dR B w hp v []):Calls zn 101 #[pQ hp] w λe w'=>e=.returned (.tuple #[kD.agg,.bool zg])/\aB w w':=by
 obtain⟨i,j,rfl⟩:=aZ a.row;simp only[List.length_nil]at a;have f:=a.c0.1;have l:∀b c,zx ((w.alloc b).alloc c) (aQ hp 0)=Y (.slice i 0 j):=λb c=>aC ((aI w b).alloc (by simp) c) f
 clear a f;go_enter Tryz.func101,Tryz.ntmps101;go_wp2;refine bodyPost_ret (v:=.tuple #[kD.agg,.bool zg]) (by simp[results,Tryz.results101,go_sem,kD,Cd.agg];try rfl) rfl ?_;exact⟨rfl,(aI w _).alloc (by simp) _⟩
def kZ(w:zw)(a:Nat)(x:Cd):Prop:=w.heap[a]?=Y (.cells #[iQ x.r,iQ x.a,iQ x.b,iQ x.i,iQ x.j,.slice x.ad x.ln x.cp,iQ x.wt,iQ x.nm] 124 (0,0))
theorem kZ.cells{b:Nat}{x:Cd}(a:kZ w b x):zx w (aQ b 0)=Y (iQ x.r)/\zx w (aQ b 1)=Y (iQ x.a)/\zx w (aQ b 2)=Y (iQ x.b)/\zx w (aQ b 3)=Y (iQ x.i)/\zx w (aQ b 4)=Y (iQ x.j)/\zx w (aQ b 5)=Y (.slice x.ad x.ln x.cp)/\zx w (aQ b 6)=Y (iQ x.wt)/\zx w (aQ b 7)=Y (iQ x.nm):=by refine⟨?_,?_,?_,?_,?_,?_,?_,?_⟩<;>simp[zx,show w.heap[b]?=_ from a]
theorem kZ.frz{a:Nat}{c:Cd}(b:kZ w a c)(k:Nat):zo w (aQ a k)=false:=by simp[zo,show w.heap[a]?=_ from b]
theorem kZ.grown{a:Nat}{x:Cd}{c:Option Nat}(b:kZ w a x)(f:zs w w' c)(i:Y a≠c):kZ w' a x:=(f.block a (bA b) i).trans b
theorem kZ.below{a:Nat}{x:Cd}(b:kZ w a x)(hb:aB w w'):kZ w' a x:=(hb.block a (bA b)).trans b
theorem kZ.put{b:Nat}{x y:Cd}(j:kZ w b x):kZ (jM w b 0 y) b y:=by
 have a:∀(c:zw) (f:Array zu) (k:Nat) (v:zu),c.heap[b]?=Y (.cells f 124 (0,0))->(zv c (aQ b k) v).heap[b]?=Y (.cells (f.setIfInBounds k v) 124 (0,0)):=λc f k v i=>by
  have l:=(bA i);show (c.heap.modify b _)[b]?=_;rw[zm (by rw[zf];exact l),zk,(Array.getElem?_eq_some_iff.1 i).2];rfl
 unfold kZ jM;simp only[yw];rw[a _ _ 7 _ (a _ _ 6 _ (a _ _ 5 _ (a _ _ 4 _ (a _ _ 3 _ (a _ _ 2 _ (a _ _ 1 _ (a _ _ 0 _ j)))))))];simp
theorem aNs:∀(b:List Cd) (a:Nat),(kC b).take (a*8)=kC (b.take a)
 |[],a=>by simp[kC]
 |x::b,0=>by simp[kC]
 |x::b,a+1=>by
  rw[zV,List.take_succ_cons,zV,<-aNs b a,show (a+1)*8=Z x.cells+a*8 by rw[aDq];omega,List.take_length_add_append]
theorem dR.other{b:Nat}{c:List Cd}(a:dR B w hp v c)(f:zs w w' (Y b))(j:hp≠b)(i:zt v≠Y b):dR B w' hp v c:=
 ⟨(f.block hp (bA a.box) (by simp;omega)).trans a.box,eW a.row f (ze i),a.base⟩
theorem dR.shrink{b:List Cd}(a:dR B w hp (sQ g n cap) b){m:Nat}(o:m<=Z b):dR B (zv w (aQ hp 0) (sQ g m cap)) hp (sQ g m cap) (b.take m)/\zs w (zv w (aQ hp 0) (sQ g m cap)) (Y hp):=by
 have l:=(bA a.box);have r:=eX a.row a.box (by decide);refine⟨⟨?_,?_,a.base⟩,cD w (aQ hp 0) _⟩
 .show (w.heap.modify hp _)[hp]?=_;rw[zm (by rw[zf];exact l),zk,(Array.getElem?_eq_some_iff.1 a.box).2];rfl
 refine eW ?_ (cD w (aQ hp 0) _) (ze (by simpa[zt]using r));obtain⟨y,⟨e,_⟩|⟨x,u,f,e,i,j,z,p,t,s⟩⟩:=a.row
 .cases e
 simp at e;obtain⟨rfl,_,rfl⟩:=e;have c:Z (b.take m)=m:=by simp;omega
 rw[c];refine⟨by rw[aNh,c],ze ⟨g,cap,f,rfl,i,j,by omega,p,t,?_⟩⟩;rw[<-aNs,<-s,List.take_take,Nat.min_eq_left (Nat.mul_le_mul_right 8 o)]
theorem dR.get{a:List Cd}(b:dR B w hp (sQ g n cap) a){k:Nat}{x:Cd}(c:a[k]?=Y x):aNn w g k x:=by grind[dR.at,List.getElem?_eq_some_iff]
theorem aZz(B hp:Nat)(v:zu)(f:List Cd)(w:zw)(T:dR B w hp v f)(W:0<Z f)(k0:Z f<=1000000)(h7:B<=w.heap.size):Calls zn 101 #[pQ hp] w λe w'=>e=.returned (.tuple #[f[0].agg,.bool zj])/\∃j3,dR B w' hp j3 (iC f)/\Mv [124,168] B w w':=by
 obtain⟨a,N⟩:∃a,Z f=a+1:=⟨Z f-1,by omega⟩;obtain⟨g,cap,rfl,h8⟩:=T.at W;clear h8;obtain⟨b,a7⟩:∃b,f[a]=b:=⟨_,rfl⟩;obtain⟨c,a6⟩:∃c,f[0]=c:=⟨_,rfl⟩;have d8:iC f=kY a ((f.set 0 b).take a) 0:=by
  unfold iC;have:f.getLast?=Y b:=by rw[List.getLast?_eq_getElem?,N,Nat.add_sub_cancel,zq (by omega),a7]
  rw[this,N];rfl
 rw[a6,d8];clear d8;have e9:f[a]?=Y b:=by rw[zq (by omega),a7]
 have e8:f[0]?=Y c:=by rw[zq W,a6]
 have c3:=O e8;have c4:=O e9;have I:=O N;have k8:(Z f:Int)-1=(a:Int):=by omega
 have k5:¬((Z f:Int)=0):=by omega
 have k4:(0:Int)<(Z f:Int):=by omega
 have l0:(a:Int)<(Z f:Int):=by omega
 have k9:(a:Int)<=(Z f:Int):=by omega
 have l1:(0:Int)<=(a:Int):=by omega
 have l2:wrap64 ((Z f:Int)-1)=(a:Int):=by unfold wrap64;omega
 have G:=O T;clear T a6 a7 N e8 e9 W;generalize hle:Z f=ml at *;have H:=O hle;clear hle;go_enter Tryz.func101,Tryz.ntmps101;obtain⟨j,i4,X,i2,d9,d5⟩:=aZx w;have J:=G.o.below X;have c5:=J.c0.1;have h3:∀i,zx (j.alloc i) (aQ hp 0)=Y (sQ g ml cap):=λi=>aC (aI j i) c5
 obtain⟨r,s,t,u,x,y,z,A⟩:=J.get c3.o;simp only[yv,yw]at r s t u x y z A;have g5:=λi=>aC (aI j i) r
 have g6:=λi=>aC (aI j i) s
 have g7:=λi=>aC (aI j i) t
 have g8:=λi=>aC (aI j i) u
 have g9:=λi=>aC (aI j i) x
 have h0:=λi=>aC (aI j i) y
 have h1:=λi=>aC (aI j i) z
 have h2:=λi=>aC (aI j i) A
 have b8:=O J;clear J;have k7:Tryz.prog.follows .mixedOrders=true:=by kernel_rfl
 go_wp2;clear i4;go_region;have k2:g<w.heap.size:=(bS G.o.row g rfl).2;have k3:hp<w.heap.size:=(bA G.o.box);have k6:(a:Int)<=(cap:Int):=by
  obtain⟨_,⟨e,_⟩|⟨j9,j5,j6,e,_,_,k1,_⟩⟩:=G.o.row
  .cases e
  simp at e;have:=H.o;omega
 have i3:∃l,(j.alloc (.cells #[iQ c.r,iQ c.a,iQ c.b,iQ c.i,iQ c.j,.slice c.ad c.ln c.cp,iQ c.wt,iQ c.nm] 124)).drew=l/\aB j l/\kZ l (w.heap.size+2) c:=by refine⟨_,rfl,(aI j _).trans ((aN ⟨1,rfl⟩).mono (by simp)),?_⟩;rw[<-i2];exact zh j _
 obtain⟨l,e4,D,c8⟩:=i3;simp only[e4];clear e4;have e0:kZ l w.heap.size kD:=kZ.below (w:=j) d9 D;have d6:kZ l (w.heap.size+1) kD:=kZ.below (w:=j) d5 D;have o:=b8.o.below D;have b9:=O (Mv.of_below (S:=[124,168]) (B:=B) (bE X D));clear d9 d5 D X b8 c5 h3 r s t u x y z A g5 g6 g7 g8 g9 h0 h1 h2;have h4:=o.c0.1;obtain⟨r,s,t,u,x,y,z,A⟩:=o.get c3.o;simp only[yv,yw]at r s t u x y z A;obtain⟨a9,b0,b1,b2,b3,b4,b5,b6⟩:=o.get c4.o;have a2:=o.frozen;have Q:=O o;clear o;go_wp2;go_region;have a4:=Q.o.put (k:=0) (x:=b) H.o.symm (by have:=I.o;have:=H.o;omega);have e5:(zv (zv (zv (zv (zv (zv (zv (zv l (aQ g 0) (iQ b.r)) (aQ g 1) (iQ b.a)) (aQ g 2) (iQ b.b)) (aQ g 3) (iQ b.i)) (aQ g 4) (iQ b.j)) (aQ g 5) (.slice b.ad b.ln b.cp)) (aQ g 6) (iQ b.wt)) (aQ g 7) (iQ b.nm))=jM l g (0*8) b:=rfl;simp only[e5];clear e5 r s t u x y z A a9 b0 b1 b2 b3 b4 b5 b6 h4 a2;have a0:Below (jM l g (0*8) b).heap.size (jM l g (0*8) b) (jM l g (0*8) b).drew:=aN ⟨1,rfl⟩;have C:=a4.1.below a0;have E:=nL a4.2 (jL a0);have e1:=e0.grown E (by simp;omega);have d7:=d6.grown E (by simp;omega);have c9:=c8.grown E (by simp;omega);have c0:=O (b9.o.trans ((Q.o.mv (w':=(jM l g (0*8) b).drew) E).mono (by simp) (zp _)));clear a4 a0 E e0 d6 c8 b9 Q;generalize (jM l g (0*8) b).drew=w4 at *;have f0:(f.set 0 b)[a]?=Y b:=by
  have c6:=c4.o;have h6:=(eE c6);by_cases i1:a=0
  .subst i1;simp[h6]
  rw[List.getElem?_set_ne (by omega)];exact c6
 have h5:=C.c0.1;obtain⟨a9,b0,b1,b2,b3,b4,b5,b6⟩:=C.get f0;obtain⟨f1,f2,f3,f4,f5,f6,f7,f8⟩:=d7.cells;simp only[kD]at f1 f2 f3 f4 f5 f6 f7 f8;have a2:=C.frozen;have R:=O C;clear C;go_wp2;go_region;have F:Z (f.set 0 b)=ml:=by rw[List.length_set];exact H.o
 have a5:=R.o.put (k:=a) (x:=kD) F.symm (by rw[F];have:=I.o;omega);have e6:(zv (zv (zv (zv (zv (zv (zv (zv w4 (aQ g (a*8)) (iQ 0)) (aQ g (a*8+1)) (iQ 0)) (aQ g (a*8+2)) (iQ 0)) (aQ g (a*8+3)) (iQ 0)) (aQ g (a*8+4)) (iQ 0)) (aQ g (a*8+5)) (nQ)) (aQ g (a*8+6)) (iQ 0)) (aQ g (a*8+7)) (iQ 0))=jM w4 g (a*8) kD:=rfl;simp only[e6];clear e6 f1 f2 f3 f4 f5 f6 f7 f8 a9 b0 b1 b2 b3 b4 b5 b6 h5 a2;have a1:Below (jM w4 g (a*8) kD).heap.size (jM w4 g (a*8) kD) (jM w4 g (a*8) kD).drew:=aN ⟨1,rfl⟩;have p:=a5.1.below a1;have L:=nL a5.2 (jL a1);have e2:=e1.grown L (by simp;omega);have d0:=c9.grown L (by simp;omega);have c1:=O (c0.o.trans ((R.o.mv (w':=(jM w4 g (a*8) kD).drew) L).mono (by simp) (zp _)));clear a5 a1 L e1 d7 c9 c0 R;generalize (jM w4 g (a*8) kD).drew=w5 at *;have j4:=p.c0.1;have j7:=p.frz;have m:=p.shrink (m:=a) (by rw[List.length_set,F];have:=I.o;omega);have d4:((f.set 0 b).set a kD).take a=(f.set 0 b).take a:=by rw[List.take_set_of_le (zp _)]
 rw[d4]at m;have e3:=e2.grown m.2 (by simp;omega);have d1:=d0.grown m.2 (by simp;omega);have g2:=O (c1.o.trans (Mv.of_grown (S:=[124,168]) (B:=B) m.2 (λk a3=>by cases a3;exact⟨p.base,_,_,p.box,by simp⟩)));have i0:Z ((f.set 0 b).take a)=a:=by rw[List.length_take,F];have:=I.o;omega
 have b7:=O (aZv B hp _ ((f.set 0 b).take a) _ m.1 (by omega));rw[i0]at b7;have g4:=O e3;have f9:=O d1;have g0:=O m.1;clear e2 d0 c1 p m e3 d1 d4 f0 F;go_wp2_with(first
  |(go_at_call 133;refine(aD b7).mono ?_;rintro e a8 ⟨⟨m9,rfl⟩,c7,M⟩;have P:=g4.o.grown M (by simp[zt];omega);have d2:=f9.o.grown M (by simp[zt];omega);obtain⟨l3,l4,l5,l6,l7,l8,l9,m0⟩:=d2.cells;obtain⟨m1,m2,m3,m4,m5,m6,m7,m8⟩:=P.cells;have j8:=P.frz;have c2:=O P;have g1:=O c7;have g3:=O (g2.o.trans ((g0.o.mv M).mono (by simp) (zp _)));clear P d2 c7 M)
  |go_in)
 have e7:(zv (zv (zv (zv (zv (zv (zv (zv a8 (aQ w.heap.size 0) (iQ c.r)) (aQ w.heap.size 1) (iQ c.a)) (aQ w.heap.size 2) (iQ c.b)) (aQ w.heap.size 3) (iQ c.i)) (aQ w.heap.size 4) (iQ c.j)) (aQ w.heap.size 5) (.slice c.ad c.ln c.cp)) (aQ w.heap.size 6) (iQ c.wt)) (aQ w.heap.size 7) (iQ c.nm))=jM a8 w.heap.size 0 c:=rfl;simp only[e7];clear e7;have h9:=c2.o.put (y:=c);have d3:=aNk a8 w.heap.size 0 c;obtain⟨i5,i6,i7,i8,i9,j0,j1,j2⟩:=h9.cells;refine bodyPost_ret (v:=.tuple #[c.agg,.bool zj]) (by simp[results,Tryz.results101,go_sem,i5,i6,i7,i8,i9,j0,j1,j2,Cd.agg];try rfl) rfl ?_;exact⟨rfl,_,g1.o.other d3 (by omega) (by simp[zt];omega),g3.o.trans (Mv.of_grown d3 (λk a3=>by cases a3;exact⟨h7,_,_,c2.o,by simp⟩))⟩
section
attribute [local go_sem] Oper.semAt_some
def nN(c:List Lt)(i:Nat):Option Nd:=(c[i]?).bind λa=>a.2[0]?
def mW(c d:List Lt)(i a:Nat):List (Nat×Nat):=((List.range a).filter λj=>decide (nN c i=nN d j)).map λj=>(i,j)
def nO(c d:List Lt)(a:Nat):List (Nat×Nat):=(List.range a).flatMap λi=>mW c d i (Z d)
def lO(c d:List Lt):List (Nat×Nat):=nO c d (Z c)
theorem aDs(a d:List Lt)(b:Nat):nO a d (b+1)=nO a d b++mW a d b (Z d):=by simp[nO,List.range_succ]
theorem aDt(c d:List Lt)(a b:Nat):mW c d a (b+1)=mW c d a b++if nN c a=nN d b then [(a,b)] else []:=by grind[nN,mW,List.range_succ]
theorem bA0(b d:List Lt){a n:Nat}(c:a<=n):nO b d a <+: nO b d n:=by
 obtain⟨k,rfl⟩:∃k,n=a+k:=⟨n-a,by omega⟩;clear c;induction k with
 |zero=>exact yt _
 |succ k ih=>rw[<-Nat.add_assoc,aDs];exact ih.trans (yx _ _)
theorem bA1(b d:List Lt)(c:Nat){a n:Nat}(f:a<=n):mW b d c a <+: mW b d c n:=by
 obtain⟨k,rfl⟩:∃k,n=a+k:=⟨n-a,by omega⟩;clear f;induction k with
 |zero=>exact yt _
 |succ k ih=>rw[<-Nat.add_assoc,aDt];exact ih.trans (yx _ _)
theorem bA2{a:List Lt}{b c:Nat}(o:b<Z a)(p:c<Z d)(m:nN a b=nN d c):(lO a d)[(nO a d b++mW a d b c).length]?=Y (b,c):=by have f:mW a d b (c+1) <+: mW a d b (Z d):=bA1 a d b (by omega);have i:nO a d (b+1) <+: lO a d:=bA0 a d (by omega);rw[aDt,aT m]at f;rw[aDs]at i;obtain⟨r,j⟩:=f;obtain⟨s,l⟩:=i;rw[<-l,<-j];simp
def cZ:List TypeId:=[127,168,124]
structure sL(B:Nat)(W:zw)(b1 b2:Nat)(v1 v2:zu)(c d:List Lt):Prop where
 x1:Boxed W b1 36 v1
 x2:Boxed W b2 36 v2
 m1:bP B W v1 c
 m2:bP B W v2 d
theorem sL.kept{W b:zw}{c f:Nat}{j l:zu}{i:List Lt}(a:sL B W c f j l i d)(k:dH cZ W b):sL B b c f j l i d:=
 ⟨k.boxed a.x1 (by decide),k.boxed a.x2 (by decide),k.clause a.m1 (by decide) (by decide),k.clause a.m2 (by decide) (by decide)⟩
theorem sL.drawn{a:zw}{b c:Nat}{i j:zu}{f:List Lt}(l:sL B a b c i j f d)(k:Nat):sL B (a.drewN k) b c i j f d:=
 l.kept (Mv.of_below (S:=cZ) (B:=0) (aN ⟨k,rfl⟩)).kps
theorem aNt{a:Nat->zw->Prop}{c:Nat}(f:OwnFrom c a){b:Nat}{w:zw}(i:a b w)(d:Nat):a b (w.drewN d):=
 f b w _ none i ⟨rfl,rfl,rfl,zp _,λ_ _ _=>rfl⟩ (λj e=>by cases e)
theorem aNu{a:List Lt}{b:Nat}(f:b<Z a)(c:0<a[b].2.length):nN a b=Y a[b].2[0]:=by grind[nN,zq]
theorem aNv(n s t B:Nat)(c3 c4:zu)(a d:List Lt)(f0:1<=n)(z:kB a)(A:kB d)(M:zw)(o:sL B M s t c3 c4 a d):xF Fence.wide n zn 169 #[pQ s,pQ t] (λ(a5:Nat×Nat) args _ _=>args=#[iQ a5.1,iQ a5.2]) cZ (lO a d) M:=by
 intro f5 L c5 W e3 X b1;have e4:=z.len;have e5:=A.len;have a7:=O X;have J:=O W;clear X W;refine callsIn_of_wp Tryz.func169 rfl trivial ?_;simp only[Tryz.ntmps169,List.size_toArray,List.length_cons,List.length_nil,Nat.reduceAdd,Nat.reduceSub,Array.replicate_succ,Array.replicate_zero,List.push_toArray,List.append_toArray,List.nil_append,List.cons_append];obtain⟨N,Q,rfl,_,p,_⟩:=o.m1.lits z;obtain⟨P,R,rfl,_,r,_⟩:=o.m2.lits A;have T:=o.x1.cell;have a6:=O o;clear o p r;gi_wp2
 clear T;gi_loopw [8] (λl wr=>∃b:Nat,b<=Z a/\l=iQ b/\sL B wr s t (.slice N (Z a) Q) (.slice P (Z d) R) a d/\L (Z (nO a d b)) wr) (λl _=>Z a-(intOf l).toNat)
 exact⟨0,yz _,by go_num,a6.o,by simpa[nO]using b1⟩;obtain⟨b,e6,rfl,f,j⟩:=hrel;have b0:=f.x2.cell;have m:=O f;have i:=O j;clear f j;by_cases x:b<Z a
 .have b5:(b:Int)<(Z a:Int):=by omega
  gi_wp2
  clear b0;gi_loopw [13] (λl wr=>∃c:Nat,c<=Z d/\l=iQ c/\sL B wr s t (.slice N (Z a) Q) (.slice P (Z d) R) a d/\L (Z (nO a d b++mW a d b c)) wr) (λl _=>Z d-(intOf l).toNat)
  exact⟨0,yz _,by go_num,m.o,by simpa[mW]using i.o⟩;obtain⟨c,e7,rfl,f,j⟩:=hrel;by_cases y:c<Z d
  .have b6:(c:Int)<(Z d:Int):=by omega
   obtain⟨c7,d5,a8,_,p,_⟩:=f.m1.lits z;obtain⟨c8,d6,a9,_,r,_⟩:=f.m2.lits A;cases a8;cases a9;obtain⟨d9,f6,c9,d0,rfl,b7,f4,a3⟩:=p.cell b x;obtain⟨e0,f7,d2,d3,rfl,b8,g0,a4⟩:=r.cell c y;have E:=(z.nodes (zl x)).2.1;have F:=(A.nodes (zl y)).2.1;obtain⟨e1,f8,rfl,b9,c0⟩:=a3.cell 0 E;obtain⟨e2,f9,rfl,c1,c2⟩:=a4.cell 0 F;have a1:=aNu x E;have a2:=aNu y F;have T:=f.x1.cell;have d7:=f.x2.cell;generalize hxe:a[b].2[0]=xe at *;generalize hye:d[c].2[0]=ye at *;obtain⟨xs,G⟩:=xe;obtain⟨I,H⟩:=ye;simp only[yv,Nat.add_zero]at b9 c0 c1 c2;have e8:(0:Int)<(a[b].2.length:Int):=by omega
   have e9:(0:Int)<(d[c].2.length:Int):=by omega
   clear hxe hye E F a3 a4 p r;generalize a[b].2.length=m1 at *;generalize d[c].2.length=m2 at *;have f2:=rZ xs I G H;have f1:=tJ;have D:=rY (xs,G) (I,H);simp only at D;have m:=O f;have i:=O j;clear f j b7 b8;by_cases u:(xs,G)=(I,H)
   .rw[fL u]at D;have C:Tryz.prog.follows .mixedOrders=true:=by kernel_rfl
    have a0:nN a b=nN d c:=by rw[a1,a2,u]
    gi_wp2
    refine aGy [_,_,_,_,_,_,_,_,_,_,_,_,_,_,_,_,_,_,_] [_,_,_] rfl (aNe rfl) C (by kernel_rfl) (by kernel_rfl) ?_;repeat (gi_big_quiet_step (fail))
    refine wpQuietIn_nil ?_;rintro _ ⟨nq,rfl⟩;obtain⟨d8,g1,d1,d4,f3,b2⟩:=a7.o _ (b,c) #[iQ b,iQ c] (wr.drewN nq) (wr.drewN nq) (bA2 x y a0) (aNt J.o i.o nq) (gF.refl _ _) rfl;refine wpAnyIn_ready (rs:=[19]) (by kernel_rfl) (by simp) ?_;refine AllReadyIn.cons rfl (λK hK=>?_) AllReadyIn.nil;go_simp;refine b2.mono ?_;rintro e c6 (⟨rfl,hJ3,hk3⟩|⟨rfl,hJx3,_⟩)
    .refine hK _ _ ?_;clear hK K;refine wpAnyIn_ready (rs:=[20]) (by kernel_rfl) (by simp) ?_;refine AllReadyIn.cons rfl (λK hK=>?_) AllReadyIn.nil;go_simp;refine hK _ _ ?_;clear hK K;refine wpAnyIn_ready (rs:=[21]) (by kernel_rfl) (by simp) ?_;refine AllReadyIn.cons rfl (λK hK=>?_) AllReadyIn.nil;go_simp;refine hK _ _ ?_;clear hK K;refine wpAnyIn_done (by kernel_rfl) ?_ _;gi_wp2
     exact⟨⟨c+1,by omega,by go_num,(m.o.drawn nq).kept hk3.1,by rw[aDt,aT a0,<-List.append_assoc,List.length_append];exact hJ3⟩,by simp[intOf];omega⟩
    refine hK _ _ ?_;clear hK K;refine wpAnyIn_ready (rs:=[20]) (by kernel_rfl) (by simp) ?_;refine AllReadyIn.cons rfl (λK hK=>?_) AllReadyIn.nil;go_simp;refine hK _ _ ?_;clear hK K;refine wpAnyIn_ready (rs:=[21]) (by kernel_rfl) (by simp) ?_;refine AllReadyIn.cons rfl (λK hK=>?_) AllReadyIn.nil;go_simp;refine hK _ _ ?_;clear hK K;refine wpAnyIn_done (by kernel_rfl) ?_ _;gi_wp2
    refine bodyPost_ret (results_none rfl _ _ _) rfl ?_;exact⟨⟨_,rfl⟩,.inr ⟨_,hJx3⟩⟩
   rw[gG u]at D;have C:Tryz.prog.follows .mixedOrders=true:=by kernel_rfl
   gi_wp2
   refine aGy [_,_,_,_,_,_,_,_,_,_,_,_,_,_,_,_,_,_,_] [_,_,_] rfl (aNe rfl) C (by kernel_rfl) (by kernel_rfl) ?_;repeat (gi_big_quiet_step (fail))
   refine wpQuietIn_nil ?_;rintro _ ⟨nq,rfl⟩;refine wpAnyIn_ready (rs:=[19]) (by kernel_rfl) (by simp) ?_;refine AllReadyIn.cons rfl (λK hK=>?_) AllReadyIn.nil;go_simp;refine⟨λ_ _=>trivial,hK _ _ ?_⟩;clear hK K;refine wpAnyIn_ready (rs:=[20]) (by kernel_rfl) (by simp) ?_;refine AllReadyIn.cons rfl (λK hK=>?_) AllReadyIn.nil;go_simp;refine hK _ _ ?_;clear hK K;refine wpAnyIn_ready (rs:=[21]) (by kernel_rfl) (by simp) ?_;refine AllReadyIn.cons rfl (λK hK=>?_) AllReadyIn.nil;go_simp;refine hK _ _ ?_;clear hK K;refine wpAnyIn_done (by kernel_rfl) ?_ _;gi_wp2
   exact⟨⟨c+1,by omega,by go_num,m.o.drawn nq,by rw[aDt,aS (by rw[a1,a2];intro e;exact u (Option.some.inj e)),z9];exact aNt J.o i.o nq⟩,by simp[intOf];omega⟩
  have b6:¬(c:Int)<(Z d:Int):=by omega
  have b4:c=Z d:=by omega
  have m:=O f;have i:=O j;clear f j;gi_wp2
  exact⟨⟨b+1,by omega,by go_num,m.o,by rw[aDs,<-b4];exact i.o⟩,by simp[intOf];omega⟩
 have b5:¬(b:Int)<(Z a:Int):=by omega
 have b3:b=Z a:=by omega
 gi_wp2
 go_end0;exact⟨⟨_,rfl⟩,.inl (by unfold lO;rw[<-b3];exact i.o)⟩
end
