import Derived.Test.YtmelidkanelpbaaGreatDoorONumH
open Array renaming getElem?_eq_some_iff→zz
open List renaming getElem?_eq_getElem→zx,replicate→zw,getElem_mem→zt,replicate_zero→zq,take_length→zp
open Nat renaming le_refl→zv
namespace Go.Proofs.YtmelidkanelpbaaGreatDoor
open _root_.Go.Proofs.Tryz renaming prog→zu
open Value renaming ownBlock→zy
open World renaming block_lt_of_cell?→zs,frozen?_of_block→zr
set_option maxHeartbeats 4000000
set_option maxRecDepth 100000
open Go.RowKit Go.Shelf Go.WideMaps
variable{sn:List Int}{out:List Nd}{ab m mp:Nat}{a b w wa wi:World}
structure lX(mp:Nat)(a b:World):Prop where
 size:a.heap.size<=b.heap.size
 block:∀k,k<a.heap.size->k≠mp->b.heap[k]?=a.heap[k]?
theorem lX.trans{mp:Nat}{a b c:World}(d:lX mp a b)(k:lX mp b c):lX mp a c:=⟨Nat.le_trans d.size k.size,λg e f=>by rw [k.block g (Nat.lt_of_lt_of_le e d.size) f,d.block g e f]⟩
theorem lX.of_below(c:aB a b):lX mp a b:=⟨c.size,λk d _=>c.block k d⟩
theorem lX.of_grown(c:a.grownBy b (some mp)):lX mp a b:=⟨c.size,λg e f=>c.block g e (λd=>f (by simpa using d))⟩
theorem lX.own{e:Nat}{c:TypeId}{k:Nat}{d:Value}{j:Nat}{l:List Value}(p:lX mp a b)(t:a.ownsRow e c k d j l)(s:d.ownBlock≠some mp):b.ownsRow e c k d j l:=by
 obtain ⟨f,⟨rfl,q⟩|⟨g,n,o,rfl,r,i,u⟩⟩:=t
 ·exact ⟨f,Or.inl ⟨rfl,q⟩⟩
 ·refine ⟨f,Or.inr ⟨g,n,o,rfl,r,?_,u⟩⟩;rw [p.block g (zz.1 i).1 (λc=>s (by simp [zy,c])),i]
theorem lX.cell(d:lX mp a b){p:Addr}{v:Value}(c:a.cell? p=some v)(e:p.block≠mp):b.cell? p=some v:=
 (World.cell?_of_block (d.block _ (zs a p c) e)).trans c
theorem wK{d:Nat}{c:DataW Unit}(g:a.ownsMap zu 3 fS mp d c)(i:b.heap[mp]?=a.heap[mp]?):b.ownsMap zu 3 fS mp d c:=by obtain ⟨f,e,j,k⟩:=g;exact ⟨f,e,by rw [i];exact j,k⟩
def wL(d:List Nd):Prop:=∀c∈d,aL c=true->0<=c.2/\c.2<=1000000000
structure wM(w:World)(mp nb:Nat)(c:List Lt)(k:Nat)(Q:List (Lt×Value))(wr:World):Prop where
 map:∃D,wr.ownsMap zu 3 fS mp (cW (c.take k)).2.length D/\pQ D (cW (c.take k)).2
 row:wr.ownsRow w.heap.size 86 2 (.slice (some ⟨nb,0,none⟩) c.length c.length) c.length (bF (Q++zw (c.length-Q.length) tG))
 made:Q.map Prod.fst=(cW (c.take k)).1
 atoms:∀q∈Q,wr.ownsRow w.heap.size 117 2 q.2 q.1.2.length (bB q.1.2)
 once:(Q.map λq=>q.2.ownBlock).Nodup
 apart:∀q∈Q,q.2.ownBlock≠some nb
 low:aB w wr
structure kM(w wa:World)(mp ab m:Nat)(sn:List Int)(out:List Nd)(wi:World):Prop where
 abe:ab=wa.heap.size
 keep:lX mp wa wi
 row:wi.ownsRow ab 117 2 (.slice (some ⟨ab,0,none⟩) m m) m (bB (out++zw (m-out.length) zNd))
 map:∃D,wi.ownsMap zu 3 fS mp sn.length D/\pQ D sn
 low:aB w wi
theorem kM.below{wx:World}(c:kM w wa mp ab m sn out wi)(k:aB wi wx):kM w wa mp ab m sn out wx:=by obtain ⟨e,d,f⟩:=c.map;refine ⟨c.abe,c.keep.trans (lX.of_below k),bG c.row k (zv _),⟨e,wK d (k.block mp ?_),f⟩,c.low.trans (k.mono c.low.size)⟩;obtain ⟨j,i,g,_⟩:=d;exact (zz.1 g).1
theorem kM.count{g:World}{f:List Int}{d:DataW Unit}(c:kM w wa mp ab m sn out wi)(e:wi.grownBy g (some mp))(j:g.ownsMap zu 3 fS mp f.length d)(k:pQ d f)(o:w.heap.size<=mp):kM w wa mp ab m f out g:=by obtain ⟨n,l,_⟩:=c.map;exact ⟨c.abe,c.keep.trans (lX.of_grown e),c.row.kept e (Or.inr (aKn c.row l)),⟨d,j,k⟩,c.low.grown e c.low.size λp i=>by simp at i;omega⟩
theorem kM.box{g:Nat}(c:kM w wa mp ab m sn out wi)(p:ab<g)(q:mp<ab)(r:w.heap.size<=ab)(j:Nat)(d:Value):kM w wa mp ab m sn out (wi.setCell ⟨g,j,none⟩ d):=by obtain ⟨e,i,l⟩:=c.map;have f:=c.abe;refine ⟨f,⟨by have:=c.keep.size;simpa [World.setCell] using this,λk n o=>by rw [heap_setCell_other _ _ _ _ (by simp;omega)];exact c.keep.block k n o⟩,uR c.row (by simp [zy];omega) d,⟨e,wK i (heap_setCell_other _ _ _ _ (by simp;omega)),l⟩,c.low.setCell (by simp;omega) d⟩
theorem kM.put(c:kM w wa mp ab m sn out wi)(n:out.length<m)(q:mp<ab)(d:w.heap.size<=ab)(x:Nd):kM w wa mp ab m sn (out++[x]) ((wi.setCell ⟨ab,out.length*2,none⟩ (.string x.1)).setCell ⟨ab,out.length*2+1,none⟩ (.int .i64 x.2)):=by
 obtain ⟨f,i,j⟩:=c.map;have g:=c.abe;have p:=(c.row.stored (out.length*2) (.string x.1)).1;have e:=(p.stored (out.length*2+1) (.int .i64 x.2)).1;refine ⟨g,⟨by have:=c.keep.size;simpa [World.setCell] using this,λk l o=>?_⟩,?_,⟨f,wK i ?_,j⟩,(c.low.setCell (by simpa using d) _).setCell (by simpa using d) _⟩
 ·rw [heap_setCell_other _ _ _ _ (by simp;omega),heap_setCell_other _ _ _ _ (by simp;omega)];exact c.keep.block k l o
 ·rw [aX2 _ _ _ (by simp;omega),aKm _ _ _ _ n] at e;simpa using e
 ·rw [heap_setCell_other _ _ _ _ (by simp;omega),heap_setCell_other _ _ _ _ (by simp;omega)]
theorem kM.cell(d:kM w wa mp ab m sn out wi)(e:out.length<m):(∃c,wi.cell? ⟨ab,out.length*2,none⟩=some c)/\(∃c,wi.cell? ⟨ab,out.length*2+1,none⟩=some c):=by
 have f:(bB (out++zw (m-out.length) zNd)).length=m*2:=by rw [aPh];simp;omega
 constructor
 ·rw [d.row.cellAt _ (by omega)];exact ⟨_,zx (by omega)⟩
 ·rw [d.row.cellAt _ (by omega)];exact ⟨_,zx (by omega)⟩
theorem aXf(w:World)(c d:Value)(e:TypeId):(w.alloc (.cells #[c,d] e)).cell? ⟨w.heap.size,0,none⟩=some c/\(w.alloc (.cells #[c,d] e)).cell? ⟨w.heap.size,1,none⟩=some d:=by simp
theorem aXg{c:List Nd×List Int}{e:ByteArray}{d:Int}(g:e.toList.isEmpty=true):cI c (e,d)=(c.1++[(e,(oR c.2 d).2)],(oR c.2 d).1):=by
 have i:aL (e,d)=true:=g;unfold cI oR;rw [i];by_cases f:eS c.2 d<0
 ·simp [f]
 ·simp [f]
theorem aXh{d:List Nd×List Int}{c:ByteArray}{e:Int}(f:c.toList.isEmpty=false):cI d (c,e)=(d.1++[(c,e)],d.2):=by have g:aL (c,e)=false:=f;unfold cI;rw [g];simp
theorem aKu{e:Nat}{f:TypeId}{l:Nat}{d:Value}{k g:Nat}{n:List Value}(i:w.ownsRow e f l d k n)(c:d.ownBlock=some g):g<w.heap.size:=by
 obtain ⟨_,⟨rfl,_⟩|⟨q,o,p,rfl,_,j,_⟩⟩:=i
 ·simp [zy] at c
 ·simp [zy] at c;subst c;exact (zz.1 j).1
theorem wM.next{e:World}{I:Obj}{j k:Nat}{d:List Lt}{f:List (Lt×Value)}{n:Bool}{c:List Nd}(i:wM w mp j d k f e)(v:j≠mp)(H:w.heap.size<=j)(S:k<d.length)
  (z:cW (d.take (k+1))=dM (cW (d.take k)) (n,c))
  (q:kM w (e.alloc I) mp (e.heap.size+1) c.length (dY c (cW (d.take k)).2).2 (dY c (cW (d.take k)).2).1 wi):(∃A,wi.cell? ⟨j,k*2,none⟩=some A)/\(∃A,wi.cell? ⟨j,k*2+1,none⟩=some A)/\wi.frozen? ⟨j,k*2,none⟩=false/\wi.frozen? ⟨j,k*2+1,none⟩=false/\
  wM w mp j d (k+1) (f++[((n,(dY c (cW (d.take k)).2).1),.slice (some ⟨e.heap.size+1,0,none⟩) c.length c.length)]) ((wi.setCell ⟨j,k*2,none⟩ (.bool n)).setCell ⟨j,k*2+1,none⟩ (.slice (some ⟨e.heap.size+1,0,none⟩) c.length c.length)):=by
 have y:f.length=k:=by have B:=congrArg List.length i.made;rw [(pJ _).1] at B;simp at B;omega
 have D:aB e (e.alloc I):=(Below.refl _ _).alloc (zv _) _;have P:=(xU c (cW (d.take k)).2).1;have U:j<e.heap.size:=aKu i.row rfl;have s:=q.keep.own (bG i.row D (zv _)) (by simp [zy];exact v);have T:(bF (f++zw (d.length-f.length) tG)).length=d.length*2:=by
  have:∀t:List (Lt×Value),(bF t).length=t.length*2:=by
   intro t;induction t with
   |nil=>rfl
   |cons x r ih=>rw [aB1];simp [ih];omega
  rw [this];simp;omega
 obtain ⟨J,N,O⟩:=q.map;refine ⟨?_,?_,s.frozenAt _,s.frozenAt _,?_⟩
 ·rw [s.cellAt _ (by omega)];exact ⟨_,zx (by omega)⟩
 ·rw [s.cellAt _ (by omega)];exact ⟨_,zx (by omega)⟩
 have Q:=(s.stored (k*2) (.bool n)).1;have u:=(Q.stored (k*2+1) (.slice (some ⟨e.heap.size+1,0,none⟩) c.length c.length)).1;have L:=aX3 (f++zw (d.length-f.length) tG) k ((n,(dY c (cW (d.take k)).2).1),.slice (some ⟨e.heap.size+1,0,none⟩) c.length c.length) (by simp;omega);refine ⟨⟨J,?_,?_⟩,?_,?_,?_,?_,?_,?_⟩
 ·rw [z];exact wK N (by rw [heap_setCell_other _ _ _ _ (by simpa using λl=>v l.symm),heap_setCell_other _ _ _ _ (by simpa using λl=>v l.symm)])
 ·rw [z];exact O
 ·rw [show (bF (f++zw (d.length-f.length) tG)).set (k*2) (.bool n)=(bF (f++zw (d.length-f.length) tG)).set (k*2) (.bool (((n,(dY c (cW (d.take k)).2).1),(Value.slice (some ⟨e.heap.size+1,0,none⟩) c.length c.length)):Lt×Value).1.1) from rfl] at u;rw [L] at u;have G:=aKm f tG ((n,(dY c (cW (d.take k)).2).1),.slice (some ⟨e.heap.size+1,0,none⟩) c.length c.length) d.length (by omega);rw [y] at G;rw [y,G] at u;simpa [y] using u
 ·rw [z,List.map_append,i.made];rfl
 ·intro o hqm;rcases List.mem_append.1 hqm with hqm|hqm
  ·obtain ⟨R,M,_⟩:=i.map;have p:=q.keep.own (bG (i.atoms o hqm) D (zv _)) (aKn (i.atoms o hqm) M);have E:=i.apart o hqm;exact uR (uR p (by simpa using λl=>E l.symm) _) (by simpa using λl=>E l.symm) _
  ·simp at hqm;subst hqm;have p:=iP q.row (show w.heap.size<=e.heap.size+1 by have:=i.low.size;omega);rw [show c.length-(dY c (cW (d.take k)).2).1.length=0 by omega] at p;simp only [zq,List.append_nil] at p;simp only [P];exact uR (uR p (by simp [zy];omega) _) (by simp [zy];omega) _
 ·rw [List.map_append,List.nodup_append];refine ⟨i.once,by simp,?_⟩;intro a C b F;simp at F;subst F;simp only [List.mem_map] at C;obtain ⟨o,hqm,rfl⟩:=C;intro l;have:=aKu (g:=e.heap.size+1) (i.atoms o hqm) l;omega
 ·intro o hqm;rcases List.mem_append.1 hqm with hqm|hqm
  ·exact i.apart o hqm
  ·simp at hqm;subst hqm;simp [zy];omega
 ·exact (q.low.setCell (by simpa using H) _).setCell (by simpa using H) _
theorem aXi(a:Option Addr)(e6:Nat)(c:List Lt)(w:World)(b3:cH w a c)(n:∀h7∈c,wL h7.2)(i6:aR c<=100000)(j0:c.length<=100000):Calls zu 68 #[.slice a c.length e6] w λE w'=>∃(c6:Nat) (D:List (Lt×Value)),E=.returned (.slice (some ⟨c6,0,none⟩) c.length c.length)/\wM w w.heap.size c6 c c.length D w':=by
 obtain ⟨h5,f3,f4,f5,f6⟩:=info_parts tZ;obtain ⟨h6,f7,f8,F,f9⟩:=info_parts sQ;have j2:=@run_makeMap zu;have d3:=aA b3;have d9:=aA n;clear b3 n;go_enter Tryz.func68,Tryz.ntmps68;go_wp2_with (first
  |(at_make;refine wpList_make_full _ rfl _ _ 51 rfl w.heap.size 86 h5 (.agg #[.bool false,.slice none 0 0]) 2 Tryz.underlying51 f3 f4 f5 .i64 .i64 _ _ c.length rfl rfl rfl rfl ?m1 ?m2 ?m3 ?_)
  |go_in)
 case m1=>rw [f6];omega
 case m2=>unfold maxLen;omega
 case m3=>simp
 intro a4 y l;have d7:aM (wM w w.heap.size (w.heap.size+1) c 0 [] a4):=aA (by
  have g7:(w.alloc (.map #[] 0)).ownsMap zu 3 fS w.heap.size 0 (.map []):=World.ownsMap_made _ _ _ _;refine ⟨⟨.map [],wK g7 (l.block _ (by simp) (by simp)),pQ.start⟩,?_,rfl,by simp,by simp,by simp,((Below.refl _ _).alloc (zv _) _).grown l (by simp) (by simp)⟩;rw [aX7] at y;simpa using y)
 clear y l;go_wp2;go_loopw [16] (λt wr=>∃(e:Nat) (D:List (Lt×Value)),e<=c.length/\t=.int .i64 e/\wM w w.heap.size (w.heap.size+1) c e D wr) (λt _=>c.length-(intOf t).toNat);case atStart=>exact ⟨0,[],Nat.zero_le _,rfl,d7.o⟩
 case round=>
  rename World=>wo
  obtain ⟨e,D,i8,rfl,x⟩:=hrel;have G:=x.low;have g1:=G.size;by_cases V:e<c.length
  ·have g6:(e:Int)<(c.length:Int):=by omega
   obtain ⟨b,j6,M,O,rfl,a7,a9,T⟩:=d3.o.cell e V;have e7:=aC G a7;have f0:=aC G a9;have a3:=d9.o c[e] (zt _);have h3:=vO c c[e] (zt _);have c4:=aPm c e V;generalize c[e]=p at *;obtain ⟨N,f⟩:=p;simp only at e7 f0 T a3 h3;have g2:=aXf wo (.bool N) (.slice M f.length O) 86;have j:aB wo (wo.alloc (.cells #[.bool N,.slice M f.length O] 86)):=(Below.refl _ _).alloc (zv _) _;obtain ⟨g3,b5⟩:=g2;have v:=aA x;have e3:=aA T;have e1:=aA a3;have d8:=aA c4;clear x T a3 c4 a7 a9 G;go_wp2_with (first
    |(at_make;refine wpList_make_full _ rfl _ _ 84 rfl (wo.heap.size+1) 117 h6 (.agg #[.string ⟨#[]⟩,.int .i64 0]) 2 Tryz.underlying84 f7 f8 F .i64 .i64 _ _ f.length rfl rfl rfl rfl ?n1 ?n2 ?n3 ?_)
    |go_in)
   case n1=>rw [f9];omega
   case n2=>unfold maxLen;omega
   case n3=>simp
   intro d1 X r;obtain ⟨wa,o⟩ : ∃wa,wa=wo.alloc (.cells #[.bool N,.slice M f.length O] 86):=⟨_,rfl⟩;have a0:wo.heap.size+1=wa.heap.size:=by rw [o];simp
   have d4:aM (kM w wa w.heap.size (wo.heap.size+1) f.length (cW (c.take e)).2 [] d1):=aA (by
    obtain ⟨C,s,H⟩:=v.o.map;rw [<-o] at r j;rw [aX6] at X;have b9:w.heap.size<wo.heap.size:=by obtain ⟨e9,e5,U,_⟩:=s;exact (zz.1 U).1
    refine ⟨a0,⟨r.size,λh8 g8 _=>r.block h8 g8 (by simp)⟩,by simpa using X,⟨C,wK s ?_,H⟩,(v.o.low.trans (j.mono g1)).grown r (by omega) (by simp)⟩;rw [r.block _ (by omega) (by simp),j.block _ b9])
   have W:w.heap.size<wo.heap.size+1:=by omega
   have e4:d1.cell? ⟨wo.heap.size,1,none⟩=some (.slice M f.length O):=r.cell b5 (by simp);have e2:=aA o;have Y:=xU;clear X r;have i1:=aA a0;have j4:wo.heap.size+1<=wa.heap.size:=by omega
   clear o a0;go_wp2;clear e4 g3 b5 j;go_loopw [28] (λt wi=>∃d:Nat,d<=f.length/\t=.int .i64 d/\kM w wa w.heap.size (wo.heap.size+1) f.length (dY (f.take d) (cW (c.take e)).2).2 (dY (f.take d) (cW (c.take e)).2).1 wi) (λt _=>f.length-(intOf t).toNat);case atStart=>exact ⟨0,Nat.zero_le _,rfl,d4.o⟩
   case round=>
    obtain ⟨d,i7,rfl,i⟩:=hrel;have Z:=Y (f.take d) (cW (c.take e)).2;have c3:=pJ (c.take e);have b6:=xV c e;have c5:(f.take d).length=d:=by simp;omega
    by_cases b8:d<f.length
    ·have g4:(d:Int)<(f.length:Int):=by omega
     obtain ⟨i3,j7,rfl,a8,b0⟩:=e3.o.cell d b8;have e8:=aC i.low a8;have f1:=aC i.low b0;have c2:=aPi f (cW (c.take e)).2 d b8;have a2:=e1.o f[d] (zt _);generalize dY (f.take d) (cW (c.take e)).2=R at *;generalize f[d]=nd at *;obtain ⟨out,sn⟩:=R;obtain ⟨A,p⟩:=nd;simp only at e8 f1 i Z a2;have c1:out.length=d:=by omega
     have g9:sn.length<=1000000:=by omega
     have i9:=i.keep.size;have g0:aB wr (wr.alloc (.cells #[.string A,.int .i64 p] 117)):=(Below.refl _ _).alloc (zv _) _;have B:=aA (λh9=>pT A p h9);have j1:=i.low.size;have i5:wo.heap.size+1<wr.heap.size:=by obtain ⟨⟨k0,h0⟩,_⟩:=i.cell (by omega);exact zs wr _ h0
     have a5:=aA i;have u:=aA c1;have a6:=aA c2;have e0:=aA a2;clear i c1 c2 a2 a8 b0 Z Y c3 b6 c5 g0;by_cases n:A.toList.isEmpty=true
     ·have h4:=e0.o n;obtain ⟨h1,h2⟩:=h4;have Q:=aA (a6.o.trans (aXg n));rw [n] at B;clear n;go_wp2_with (first
       |(go_at_call 92;refine (aD d2).mono ?_;rintro E a4 ⟨i0,rfl,y,c0,l⟩;have b4:=d5.o.count l y c0 (zv _);have j8:=l.cell c7 (by simp;omega);have j9:=l.cell c8 (by simp;omega);have i4:a4.frozen? ⟨wr.heap.size,1,none⟩=false:=(by rw [zr (l.block _ (by simp;omega) (by simp;omega))];exact f2);have k:=b4.box (g:=wr.heap.size) (by omega) W (by omega) 1 (.int .i64 (oR sn p).2);obtain ⟨⟨c9,I⟩,⟨d0,J⟩⟩:=k.cell (by have:=u.o;omega);have b1:=k.row.frozenAt (d*2);have b2:=k.row.frozenAt (d*2+1);have q:=k.put (by have:=u.o;omega) W (by omega) (A,(oR sn p).2);rw [u.o] at I J q;have P:=aA q;clear y c0 l b4 k q)
       |(go_at_call 67;refine (aD B _).mono ?_;rintro E L ⟨rfl,j⟩;obtain ⟨c7,c8,z⟩:=jC j;have f2:L.frozen? ⟨wr.heap.size,1,none⟩=false:=(by rw [zr (j.block _ (by simp))];simp);have S:=a5.o.below z;have j3:=z.size;have j5:wr.heap.size<L.heap.size:=(by have:=j.size;simp at this;omega);obtain ⟨C,s,H⟩:=S.map;have d2:=aA (aX1 w.heap.size C sn p L s H h1 h2 g9);have d5:=aA S;clear j z S s H))
      go_roundw;case rel=>exact ⟨d+1,by omega,by go_num,by rw [Q.o];exact P.o⟩
      case measure=>simp [intOf];omega
     ·have a1:A.toList.isEmpty=false:=by simpa using n
      have Q:=aA (a6.o.trans (aXh a1));rw [a1] at B;clear n a1;go_wp2_with (first
       |(go_at_call 67;refine (aD B _).mono ?_;rintro E L ⟨rfl,j⟩;obtain ⟨c7,c8,z⟩:=jC j;have k:=a5.o.below z;obtain ⟨⟨c9,I⟩,⟨d0,J⟩⟩:=k.cell (by have:=u.o;omega);have b1:=k.row.frozenAt (d*2);have b2:=k.row.frozenAt (d*2+1);have q:=k.put (by have:=u.o;omega) W (by omega) (A,p);rw [u.o] at I J q;have P:=aA q;clear j z k q))
      go_roundw;case rel=>exact ⟨d+1,by omega,by go_num,by rw [Q.o];exact P.o⟩
      case measure=>simp [intOf];omega
    ·have g4:¬((d:Int)<(f.length:Int)):=by omega
     have b7:d=f.length:=by omega
     rw [b7,zp] at i;have o:=e2.o;have b9:w.heap.size<wo.heap.size:=by obtain ⟨C,s,_⟩:=v.o.map;obtain ⟨e9,e5,U,_⟩:=s;exact (zz.1 U).1
     have i2:wr.cell? ⟨wo.heap.size,0,none⟩=some (.bool N):=i.keep.cell (by rw [o];simp) (by simp;omega);rw [o] at i;obtain ⟨⟨c9,I⟩,⟨d0,J⟩,b1,b2,F⟩:=v.o.next (by omega) (by omega) V d8.o i
     have d6:=aA F;clear F i o b7 Z c3 b6 c5 Y;go_wp2;go_roundw;case rel=>exact ⟨e+1,_,by omega,by go_num,d6.o⟩
     case measure=>simp [intOf];omega
  ·have g6:¬((e:Int)<(c.length:Int)):=by omega
   have g5:e=c.length:=by omega
   rw [g5] at x;have v:=aA x;clear x;go_wp2;go_ret;exact ⟨_,rfl,_,v.o⟩
theorem aEa{w':World}{B:Nat}{a:Option Addr}{cap:Nat}{P:List (Lt×Value)}{c:List Lt}(v:w'.ownsRow B 86 2 (.slice a c.length cap) P.length (bF P))(q:P.map Prod.fst=c)(p:∀g∈P,lA w' g.2 g.1.2)(s:c.length<=4398046511104):cH w' a c:=by
 subst q;obtain ⟨x,y,e,r⟩:=tY v;simp at e;obtain ⟨rfl,_⟩:=e;refine ⟨s,λd t=>?_⟩;have u:d<P.length:=by simpa using t
 obtain ⟨k,rfl,l,f⟩:=r d u;obtain ⟨i,j,n,o⟩:=p P[d] (zt _);rw [n] at f;refine ⟨k,0,i,j,rfl,?_,?_,?_⟩
 ·simpa using l
 ·simpa using f
 ·simpa using o
structure wN(w:World)(c:List Lt)(v:Value)(nb:Nat)(Q:List (Lt×Value))(w':World):Prop where
 val:v=.slice (some ⟨nb,0,none⟩) (aV c).length (aV c).length
 made:Q.map Prod.fst=aV c
 row:w'.ownsRow w.heap.size 86 2 (.slice (some ⟨nb,0,none⟩) (aV c).length (aV c).length) (aV c).length (bF Q)
 atoms:∀q∈Q,w'.ownsRow w.heap.size 117 2 q.2 q.1.2.length (bB q.1.2)
 once:(Q.map λq=>q.2.ownBlock).Nodup
 apart:∀q∈Q,q.2.ownBlock≠some nb
 low:aB w w'
theorem aKv(a:Option Addr)(s:Nat)(c:List Lt)(w:World)(M:cH w a c)(A:∀f∈c,wL f.2)(N:aR c<=100000)(O:c.length<=100000):Calls zu 42 #[.slice a c.length s] w λg W=>∃p o e,g=.returned p/\wN w c p o e W:=by
 have F:=aA (aKz a s c w M);obtain ⟨J,L,t⟩:=jW c;have G:=aA (λa' cp' wx (T:cH wx a' (bT c))=>aXi a' cp' (bT c) wx T (λf P=>A f (t f P)) (by omega) (by omega));have X:(bT c).length<=100000:=by omega
 clear J L t A N O;go_enter Tryz.func42,Tryz.ntmps42;go_wp2_with (first
  |(go_at_call 68;refine (aD G C D E H.o).mono ?_;rintro g Y ⟨o,e,rfl,d⟩;have I:=aA d;clear d)
  |(go_at_call 69;refine (aD F).mono ?_;rintro g E ⟨p,r,rfl,i,v,l,k⟩;obtain ⟨C,D,rfl⟩:=bA l;have j:r.length=(bT c).length:=(by rw [<-i];simp);have H:=aA (aEa (w':=E) (B:=w.heap.size) (a:=C) (P:=r) (c:=bT c) (cap:=D) (by rw [<-j];exact l) i (λU Q=>(v U Q).below k (zv _)) (by omega));rw [j];have q:=aA k;clear i v l k j))
 go_ret;have d:=I.o;have R:e.length=(bT c).length:=by have u:=congrArg List.length d.made;rw [(pJ _).1] at u;simpa using u
 have y:(aV c).length=(bT c).length:=by unfold aV;exact (pJ _).1
 have x:=d.made;rw [zp] at x;have n:=q.o.size;have z:=d.row;rw [R,Nat.sub_self,zq,List.append_nil] at z;exact ⟨_,o,e,rfl,by rw [y];rfl,x,by rw [y];exact iP z n,λV S=>iP (d.atoms V S) n,d.once,d.apart,q.o.trans (d.low.mono n)⟩
