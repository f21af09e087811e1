import Derived.Test.YthjhkgohninpcaaGreatDoorONumM
import Derived.Test.YthjhkgohninpcaaGreatDoorRClauseM
import Derived.Test.YthjhkgohninpcaaGreatDoorXRngM
open Array renaming getElem?_eq_some_iff→zz
open List renaming getElem?_eq_getElem→zw,replicate→zv,getElem_mem→zu,replicate_zero→zq,take_length→zo,length→zn
open Nat renaming le_refl→zx
open Or renaming inr→zp,inl→zl
namespace Go.Proofs.YthjhkgohninpcaaGreatDoor
open _root_.Go.Proofs.Tryz renaming prog→zt
open Value renaming ownBlock→zy
open World renaming block_lt_of_cell?→zs,frozen?_of_block→zr
open Go.RowKit Go.Shelf Go.WideMaps
set_option maxHeartbeats 4000000
set_option maxRecDepth 100000
variable{sn:List Int}{out:List Nd}{S:List TypeId}{B B' ab m mp:Nat}{v:Value}{U V a b w wa wi:World}
structure mA(mp:Nat)(a b:World):Prop where
 size:a.heap.size<=b.heap.size
 block:∀k,k<a.heap.size->k≠mp->b.heap[k]?=a.heap[k]?
theorem mA.trans{mp:Nat}{a b d:World}(c:mA mp a b)(k:mA mp b d):mA mp a d:=⟨Nat.le_trans c.size k.size,λg e f=>by rw [k.block g (Nat.lt_of_lt_of_le e c.size) f,c.block g e f]⟩
theorem mA.of_below(c:aC a b):mA mp a b:=⟨c.size,λk d _=>c.block k d⟩
theorem mA.of_grown(c:a.grownBy b (some mp)):mA mp a b:=⟨c.size,λg e f=>c.block g e (λd=>f (by simpa using d))⟩
theorem mA.own{c:TypeId}{f:Nat}{n:Nat}{i:List Value}(l:mA mp a b)(r:a.ownsRow B c f v n i)(q:v.ownBlock≠some mp):b.ownsRow B c f v n i:=by
 obtain ⟨d,⟨rfl,o⟩|⟨g,j,k,rfl,p,e,s⟩⟩:=r
 ·exact ⟨d,zl ⟨rfl,o⟩⟩
 ·refine ⟨d,zp ⟨g,j,k,rfl,p,?_,s⟩⟩;rw [l.block g (zz.1 e).1 (λc=>q (by simp [zy,c])),e]
theorem mA.cell(d:mA mp a b){p:Addr}{v:Value}(c:a.cell? p=some v)(e:p.block≠mp):b.cell? p=some v:=
 (World.cell?_of_block (d.block _ (zs a p c) e)).trans c
theorem wR{d:Nat}{c:DataW Unit}(g:a.ownsMap zt 3 gG mp d c)(i:b.heap[mp]?=a.heap[mp]?):b.ownsMap zt 3 gG mp d c:=by obtain ⟨f,e,j,k⟩:=g;exact ⟨f,e,by rw [i];exact j,k⟩
def wS(d:List Nd):Prop:=∀c∈d,aM c=true->0<=c.2/\c.2<=1000000000
structure wT(w:World)(mp nb:Nat)(c:List Lt)(k:Nat)(Q:List (Lt×Value))(wr:World):Prop where
 map:∃D,wr.ownsMap zt 3 gG mp (dG (c.take k)).2.length D/\pZ D (dG (c.take k)).2
 row:wr.ownsRow w.heap.size 55 2 (.slice (some ⟨nb,0,none⟩) c.length c.length) c.length (bS (Q++zv (c.length-Q.length) tK))
 made:Q.map Prod.fst=(dG (c.take k)).1
 atoms:∀q∈Q,wr.ownsRow w.heap.size 106 2 q.2 q.1.2.length (aP q.1.2)
 once:(Q.map λq=>q.2.ownBlock).Nodup
 apart:∀q∈Q,q.2.ownBlock≠some nb
 low:aC w wr
structure kX(w wa:World)(mp ab m:Nat)(sn:List Int)(out:List Nd)(wi:World):Prop where
 abe:ab=wa.heap.size
 keep:mA mp wa wi
 row:wi.ownsRow ab 106 2 (.slice (some ⟨ab,0,none⟩) m m) m (aP (out++zv (m-out.length) zNd))
 map:∃D,wi.ownsMap zt 3 gG mp sn.length D/\pZ D sn
 low:aC w wi
theorem kX.below{wx:World}(c:kX w wa mp ab m sn out wi)(k:aC wi wx):kX w wa mp ab m sn out wx:=by obtain ⟨e,d,f⟩:=c.map;refine ⟨c.abe,c.keep.trans (mA.of_below k),bB c.row k (zx _),⟨e,wR d (k.block mp ?_),f⟩,c.low.trans (k.mono c.low.size)⟩;obtain ⟨j,i,g,_⟩:=d;exact (zz.1 g).1
theorem kX.count{g:World}{f:List Int}{d:DataW Unit}(c:kX w wa mp ab m sn out wi)(e:wi.grownBy g (some mp))(j:g.ownsMap zt 3 gG mp f.length d)(k:pZ d f)(o:w.heap.size<=mp):kX w wa mp ab m f out g:=by obtain ⟨n,l,_⟩:=c.map;exact ⟨c.abe,c.keep.trans (mA.of_grown e),c.row.kept e (zp (aHx c.row l)),⟨d,j,k⟩,c.low.grown e c.low.size λp i=>by simp at i;omega⟩
theorem kX.box{g:Nat}(c:kX w wa mp ab m sn out wi)(p:ab<g)(q:mp<ab)(r:w.heap.size<=ab)(j:Nat)(d:Value):kX w wa mp ab m sn out (wi.setCell ⟨g,j,none⟩ d):=by obtain ⟨e,i,l⟩:=c.map;have f:=c.abe;refine ⟨f,⟨by have:=c.keep.size;simpa [World.setCell] using this,λk n o=>by rw [heap_setCell_other _ _ _ _ (by simp;omega)];exact c.keep.block k n o⟩,rX c.row (by simp [zy];omega) d,⟨e,wR i (heap_setCell_other _ _ _ _ (by simp;omega)),l⟩,c.low.setCell (by simp;omega) d⟩
theorem kX.put(c:kX w wa mp ab m sn out wi)(n:out.length<m)(q:mp<ab)(d:w.heap.size<=ab)(x:Nd):kX w wa mp ab m sn (out++[x]) ((wi.setCell ⟨ab,out.length*2,none⟩ (.string x.1)).setCell ⟨ab,out.length*2+1,none⟩ (.int .i64 x.2)):=by
 obtain ⟨f,i,j⟩:=c.map;have g:=c.abe;have p:=(c.row.stored (out.length*2) (.string x.1)).1;have e:=(p.stored (out.length*2+1) (.int .i64 x.2)).1;refine ⟨g,⟨by have:=c.keep.size;simpa [World.setCell] using this,λk l o=>?_⟩,?_,⟨f,wR i ?_,j⟩,(c.low.setCell (by simpa using d) _).setCell (by simpa using d) _⟩
 ·rw [heap_setCell_other _ _ _ _ (by simp;omega),heap_setCell_other _ _ _ _ (by simp;omega)];exact c.keep.block k l o
 ·rw [aRs _ _ _ (by simp;omega),aHw _ _ _ _ n] at e;simpa using e
 ·rw [heap_setCell_other _ _ _ _ (by simp;omega),heap_setCell_other _ _ _ _ (by simp;omega)]
theorem kX.cell(d:kX w wa mp ab m sn out wi)(hl:out.length<m):(∃c,wi.cell? ⟨ab,out.length*2,none⟩=some c)/\(∃c,wi.cell? ⟨ab,out.length*2+1,none⟩=some c):=by
 have e:(aP (out++zv (m-out.length) zNd)).length=m*2:=by rw [aCn];simp;omega
 constructor
 ·rw [d.row.cellAt _ (by omega)];exact ⟨_,zw (by omega)⟩
 ·rw [d.row.cellAt _ (by omega)];exact ⟨_,zw (by omega)⟩
theorem aSe(w:World)(c d:Value)(e:TypeId):(w.alloc (.cells #[c,d] e)).cell? ⟨w.heap.size,0,none⟩=some c/\(w.alloc (.cells #[c,d] e)).cell? ⟨w.heap.size,1,none⟩=some d:=by simp
theorem aSf{c:List Nd×List Int}{e:ByteArray}{d:Int}(g:e.toList.isEmpty=true):cZ c (e,d)=(c.1++[(e,(oU c.2 d).2)],(oU c.2 d).1):=by
 have i:aM (e,d)=true:=g;unfold cZ oU;rw [i];by_cases f:eK c.2 d<0
 ·simp [f]
 ·simp [f]
theorem aSg{d:List Nd×List Int}{c:ByteArray}{e:Int}(f:c.toList.isEmpty=false):cZ d (c,e)=(d.1++[(c,e)],d.2):=by have g:aM (c,e)=false:=f;unfold cZ;rw [g];simp
theorem aDf{d:TypeId}{j:Nat}{i g:Nat}{k:List Value}(e:w.ownsRow B d j v i k)(c:v.ownBlock=some g):g<w.heap.size:=by
 obtain ⟨_,⟨rfl,_⟩|⟨o,l,n,rfl,_,f,_⟩⟩:=e
 ·simp [zy] at c
 ·simp [zy] at c;subst c;exact (zz.1 f).1
theorem wT.next{e:World}{L:Obj}{j k:Nat}{d:List Lt}{f:List (Lt×Value)}{n:Bool}{c:List Nd}(i:wT w mp j d k f e)(y:j≠mp)(J:w.heap.size<=j)(X:k<d.length)
  (A:dG (d.take (k+1))=eG (dG (d.take k)) (n,c))
  (q:kX w (e.alloc L) mp (e.heap.size+1) c.length (dF c (dG (d.take k)).2).2 (dF c (dG (d.take k)).2).1 wi):(∃C,wi.cell? ⟨j,k*2,none⟩=some C)/\(∃C,wi.cell? ⟨j,k*2+1,none⟩=some C)/\wi.frozen? ⟨j,k*2,none⟩=false/\wi.frozen? ⟨j,k*2+1,none⟩=false/\
  wT w mp j d (k+1) (f++[((n,(dF c (dG (d.take k)).2).1),.slice (some ⟨e.heap.size+1,0,none⟩) c.length c.length)]) ((wi.setCell ⟨j,k*2,none⟩ (.bool n)).setCell ⟨j,k*2+1,none⟩ (.slice (some ⟨e.heap.size+1,0,none⟩) c.length c.length)):=by
 have z:f.length=k:=by have D:=congrArg zn i.made;rw [(oZ _).1] at D;simp at D;omega
 have F:aC e (e.alloc L):=(Below.refl _ _).alloc (zx _) _;have R:=(uK c (dG (d.take k)).2).1;have Z:j<e.heap.size:=aDf i.row rfl;have s:=q.keep.own (bB i.row F (zx _)) (by simp [zy];exact y);have Y:(bS (f++zv (d.length-f.length) tK)).length=d.length*2:=by
  have:∀t:List (Lt×Value),(bS t).length=t.length*2:=by
   intro t;induction t with
   |nil=>rfl
   |cons x r ih=>rw [aAm];simp [ih];omega
  rw [this];simp;omega
 obtain ⟨M,P,Q⟩:=q.map;refine ⟨?_,?_,s.frozenAt _,s.frozenAt _,?_⟩
 ·rw [s.cellAt _ (by omega)];exact ⟨_,zw (by omega)⟩
 ·rw [s.cellAt _ (by omega)];exact ⟨_,zw (by omega)⟩
 have T:=(s.stored (k*2) (.bool n)).1;have u:=(T.stored (k*2+1) (.slice (some ⟨e.heap.size+1,0,none⟩) c.length c.length)).1;have N:=aRt (f++zv (d.length-f.length) tK) k ((n,(dF c (dG (d.take k)).2).1),.slice (some ⟨e.heap.size+1,0,none⟩) c.length c.length) (by simp;omega);refine ⟨⟨M,?_,?_⟩,?_,?_,?_,?_,?_,?_⟩
 ·rw [A];exact wR P (by rw [heap_setCell_other _ _ _ _ (by simpa using λl=>y l.symm),heap_setCell_other _ _ _ _ (by simpa using λl=>y l.symm)])
 ·rw [A];exact Q
 ·rw [show (bS (f++zv (d.length-f.length) tK)).set (k*2) (.bool n)=(bS (f++zv (d.length-f.length) tK)).set (k*2) (.bool (((n,(dF c (dG (d.take k)).2).1),(Value.slice (some ⟨e.heap.size+1,0,none⟩) c.length c.length)):Lt×Value).1.1) from rfl] at u;rw [N] at u;have I:=aHw f tK ((n,(dF c (dG (d.take k)).2).1),.slice (some ⟨e.heap.size+1,0,none⟩) c.length c.length) d.length (by omega);rw [z] at I;rw [z,I] at u;simpa [z] using u
 ·rw [A,List.map_append,i.made];rfl
 ·intro o hqm;rcases List.mem_append.1 hqm with hqm|hqm
  ·obtain ⟨W,O,_⟩:=i.map;have p:=q.keep.own (bB (i.atoms o hqm) F (zx _)) (aHx (i.atoms o hqm) O);have G:=i.apart o hqm;exact rX (rX p (by simpa using λl=>G l.symm) _) (by simpa using λl=>G l.symm) _
  ·simp at hqm;subst hqm;have p:=eJ q.row (show w.heap.size<=e.heap.size+1 by have:=i.low.size;omega);rw [show c.length-(dF c (dG (d.take k)).2).1.length=0 by omega] at p;simp only [zq,List.append_nil] at p;simp only [R];exact rX (rX p (by simp [zy];omega) _) (by simp [zy];omega) _
 ·rw [List.map_append,List.nodup_append];refine ⟨i.once,by simp,?_⟩;intro a E b H;simp at H;subst H;simp only [List.mem_map] at E;obtain ⟨o,hqm,rfl⟩:=E;intro l;have:=aDf (g:=e.heap.size+1) (i.atoms o hqm) l;omega
 ·intro o hqm;rcases List.mem_append.1 hqm with hqm|hqm
  ·exact i.apart o hqm
  ·simp at hqm;subst hqm;simp [zy];omega
 ·exact (q.low.setCell (by simpa using J) _).setCell (by simpa using J) _
theorem aSh(a:Option Addr)(f1:Nat)(c:List Lt)(w:World)(b8:bD w a c)(n:∀i2∈c,wS i2.2)(j1:aR c<=100000)(j5:c.length<=100000):Calls zt 93 #[.slice a c.length f1] w λG w'=>∃(d1:Nat) (F:List (Lt×Value)),G=.returned (.slice (some ⟨d1,0,none⟩) c.length c.length)/\wT w w.heap.size d1 c c.length F w':=by
 obtain ⟨i0,f8,f9,g0,g1⟩:=info_parts sC;obtain ⟨i1,g2,g3,H,g4⟩:=info_parts nB;have j7:=@run_makeMap zt;have d8:=aA b8;have e4:=aA n;clear b8 n;go_enter Tryz.func93,Tryz.ntmps93;go_wp2_with (first
  |(at_make;refine wpList_make_full _ rfl _ _ 41 rfl w.heap.size 55 i0 (.agg #[.bool false,.slice none 0 0]) 2 Tryz.underlying41 f8 f9 g0 .i64 .i64 _ _ c.length rfl rfl rfl rfl ?m1 ?m2 ?m3 ?_)
  |go_in)
 case m1=>rw [g1];omega
 case m2=>unfold maxLen;omega
 case m3=>simp
 intro a9 z l;have e2:aG (wT w w.heap.size (w.heap.size+1) c 0 [] a9):=aA (by
  have h2:(w.alloc (.map #[] 0)).ownsMap zt 3 gG w.heap.size 0 (.map []):=World.ownsMap_made _ _ _ _;refine ⟨⟨.map [],wR h2 (l.block _ (by simp) (by simp)),pZ.start⟩,?_,rfl,by simp,by simp,by simp,((Below.refl _ _).alloc (zx _) _).grown l (by simp) (by simp)⟩;rw [aRx] at z;simpa using z)
 clear z l;go_wp2;go_loopw [16] (λt wr=>∃(e:Nat) (F:List (Lt×Value)),e<=c.length/\t=.int .i64 e/\wT w w.heap.size (w.heap.size+1) c e F wr) (λt _=>c.length-(intOf t).toNat);case atStart=>exact ⟨0,[],Nat.zero_le _,rfl,e2.o⟩
 case round=>
  rename World=>wo
  obtain ⟨e,F,j3,rfl,y⟩:=hrel;have I:=y.low;have g6:=I.size;by_cases a0:e<c.length
  ·have h1:(e:Int)<(c.length:Int):=by omega
   obtain ⟨b,k1,O,Q,rfl,b2,b4,Y⟩:=d8.o.cell e a0;have f2:=aD I b2;have f5:=aD I b4;have a8:=e4.o c[e] (zu _);have h8:=wZ c c[e] (zu _);have c9:=aIx c e a0;generalize c[e]=p at *;obtain ⟨P,f⟩:=p;simp only at f2 f5 Y a8 h8;have g7:=aSe wo (.bool P) (.slice O f.length Q) 55;have j:aC wo (wo.alloc (.cells #[.bool P,.slice O f.length Q] 55)):=(Below.refl _ _).alloc (zx _) _;obtain ⟨g8,c0⟩:=g7;have x:=aA y;have e8:=aA Y;have e6:=aA a8;have e3:=aA c9;clear y Y a8 c9 b2 b4 I;go_wp2_with (first
    |(at_make;refine wpList_make_full _ rfl _ _ 53 rfl (wo.heap.size+1) 106 i1 (.agg #[.string ⟨#[]⟩,.int .i64 0]) 2 Tryz.underlying53 g2 g3 H .i64 .i64 _ _ f.length rfl rfl rfl rfl ?n1 ?n2 ?n3 ?_)
    |go_in)
   case n1=>rw [g4];omega
   case n2=>unfold maxLen;omega
   case n3=>simp
   intro d6 a2 r;obtain ⟨wa,o⟩ : ∃wa,wa=wo.alloc (.cells #[.bool P,.slice O f.length Q] 55):=⟨_,rfl⟩;have a5:wo.heap.size+1=wa.heap.size:=by rw [o];simp
   have d9:aG (kX w wa w.heap.size (wo.heap.size+1) f.length (dG (c.take e)).2 [] d6):=aA (by
    obtain ⟨E,s,J⟩:=x.o.map;rw [<-o] at r j;rw [aRw] at a2;have c4:w.heap.size<wo.heap.size:=by obtain ⟨f4,f0,Z,_⟩:=s;exact (zz.1 Z).1
    refine ⟨a5,⟨r.size,λi3 h3 _=>r.block i3 h3 (by simp)⟩,by simpa using a2,⟨E,wR s ?_,J⟩,(x.o.low.trans (j.mono g6)).grown r (by omega) (by simp)⟩;rw [r.block _ (by omega) (by simp),j.block _ c4])
   have a1:w.heap.size<wo.heap.size+1:=by omega
   have e9:d6.cell? ⟨wo.heap.size,1,none⟩=some (.slice O f.length Q):=r.cell c0 (by simp);have e7:=aA o;have a3:=uK;clear a2 r;have i6:=aA a5;have j9:wo.heap.size+1<=wa.heap.size:=by omega
   clear o a5;go_wp2;clear e9 g8 c0 j;go_loopw [28] (λt wi=>∃d:Nat,d<=f.length/\t=.int .i64 d/\kX w wa w.heap.size (wo.heap.size+1) f.length (dF (f.take d) (dG (c.take e)).2).2 (dF (f.take d) (dG (c.take e)).2).1 wi) (λt _=>f.length-(intOf t).toNat);case atStart=>exact ⟨0,Nat.zero_le _,rfl,d9.o⟩
   case round=>
    obtain ⟨d,j2,rfl,i⟩:=hrel;have a4:=a3 (f.take d) (dG (c.take e)).2;have c8:=oZ (c.take e);have c1:=tQ c e;have d0:(f.take d).length=d:=by simp;omega
    by_cases c3:d<f.length
    ·have g9:(d:Int)<(f.length:Int):=by omega
     obtain ⟨i8,k2,rfl,b3,b5⟩:=e8.o.cell d c3;have f3:=aD i.low b3;have f6:=aD i.low b5;have c7:=aG5 f (dG (c.take e)).2 d c3;have a7:=e6.o f[d] (zu _);generalize dF (f.take d) (dG (c.take e)).2=R at *;generalize f[d]=nd at *;obtain ⟨out,sn⟩:=R;obtain ⟨C,p⟩:=nd;simp only at f3 f6 i a4 a7;have c6:out.length=d:=by omega
     have h4:sn.length<=1000000:=by omega
     have j4:=i.keep.size;have g5:aC wr (wr.alloc (.cells #[.string C,.int .i64 p] 106)):=(Below.refl _ _).alloc (zx _) _;have D:=aA (λi4=>sE C p i4);have j6:=i.low.size;have j0:wo.heap.size+1<wr.heap.size:=by obtain ⟨⟨k5,h5⟩,_⟩:=i.cell (by omega);exact zs wr _ h5
     have b0:=aA i;have u:=aA c6;have b1:=aA c7;have e5:=aA a7;clear i c6 c7 a7 b3 b5 a4 a3 c8 c1 d0 g5;by_cases n:C.toList.isEmpty=true
     ·have h9:=e5.o n;obtain ⟨h6,h7⟩:=h9;have W:=aA (b1.o.trans (aSf n));rw [n] at D;clear n;go_wp2_with (first
       |(go_at_call 128;refine (aB d7).mono ?_;rintro G a9 ⟨i5,rfl,z,c5,l⟩;have b9:=e0.o.count l z c5 (zx _);have k3:=l.cell d2 (by simp;omega);have k4:=l.cell d3 (by simp;omega);have i9:a9.frozen? ⟨wr.heap.size,1,none⟩=false:=(by rw [zr (l.block _ (by simp;omega) (by simp;omega))];exact f7);have k:=b9.box (g:=wr.heap.size) (by omega) a1 (by omega) 1 (.int .i64 (oU sn p).2);obtain ⟨⟨d4,L⟩,⟨d5,M⟩⟩:=k.cell (by have:=u.o;omega);have b6:=k.row.frozenAt (d*2);have b7:=k.row.frozenAt (d*2+1);have q:=k.put (by have:=u.o;omega) a1 (by omega) (C,(oU sn p).2);rw [u.o] at L M q;have T:=aA q;clear z c5 l b9 k q)
       |(go_at_call 92;refine (aB D _).mono ?_;rintro G N ⟨rfl,j⟩;obtain ⟨d2,d3,A⟩:=kY j;have f7:N.frozen? ⟨wr.heap.size,1,none⟩=false:=(by rw [zr (j.block _ (by simp))];simp);have X:=b0.o.below A;have j8:=A.size;have k0:wr.heap.size<N.heap.size:=(by have:=j.size;simp at this;omega);obtain ⟨E,s,J⟩:=X.map;have d7:=aA (aRr w.heap.size E sn p N s J h6 h7 h4);have e0:=aA X;clear j A X s J))
      go_roundw;case rel=>exact ⟨d+1,by omega,by go_num,by rw [W.o];exact T.o⟩
      case measure=>simp [intOf];omega
     ·have a6:C.toList.isEmpty=false:=by simpa using n
      have W:=aA (b1.o.trans (aSg a6));rw [a6] at D;clear n a6;go_wp2_with (first
       |(go_at_call 92;refine (aB D _).mono ?_;rintro G N ⟨rfl,j⟩;obtain ⟨d2,d3,A⟩:=kY j;have k:=b0.o.below A;obtain ⟨⟨d4,L⟩,⟨d5,M⟩⟩:=k.cell (by have:=u.o;omega);have b6:=k.row.frozenAt (d*2);have b7:=k.row.frozenAt (d*2+1);have q:=k.put (by have:=u.o;omega) a1 (by omega) (C,p);rw [u.o] at L M q;have T:=aA q;clear j A k q))
      go_roundw;case rel=>exact ⟨d+1,by omega,by go_num,by rw [W.o];exact T.o⟩
      case measure=>simp [intOf];omega
    ·have g9:¬((d:Int)<(f.length:Int)):=by omega
     have c2:d=f.length:=by omega
     rw [c2,zo] at i;have o:=e7.o;have c4:w.heap.size<wo.heap.size:=by obtain ⟨E,s,_⟩:=x.o.map;obtain ⟨f4,f0,Z,_⟩:=s;exact (zz.1 Z).1
     have i7:wr.cell? ⟨wo.heap.size,0,none⟩=some (.bool P):=i.keep.cell (by rw [o];simp) (by simp;omega);rw [o] at i;obtain ⟨⟨d4,L⟩,⟨d5,M⟩,b6,b7,H⟩:=x.o.next (by omega) (by omega) a0 e3.o i
     have e1:=aA H;clear H i o c2 a4 c8 c1 d0 a3;go_wp2;go_roundw;case rel=>exact ⟨e+1,_,by omega,by go_num,e1.o⟩
     case measure=>simp [intOf];omega
  ·have h1:¬((e:Int)<(c.length:Int)):=by omega
   have h0:e=c.length:=by omega
   rw [h0] at y;have x:=aA y;clear y;go_wp2;go_ret;exact ⟨_,rfl,_,x.o⟩
theorem uO{w':World}{a:Option Addr}{cap:Nat}{P:List (Lt×Value)}{c:List Lt}(x:w'.ownsRow B 55 2 (.slice a c.length cap) P.length (bS P))(q:P.map Prod.fst=c)(p:∀g∈P,lJ w' g.2 g.1.2)(s:c.length<=4398046511104):bD w' a c:=by
 subst q;obtain ⟨y,z,e,r⟩:=sB x;simp at e;obtain ⟨rfl,_⟩:=e;refine ⟨s,λd t=>?_⟩;have u:d<P.length:=by simpa using t
 obtain ⟨k,rfl,l,f⟩:=r d u;obtain ⟨i,j,n,o⟩:=p P[d] (zu _);rw [n] at f;refine ⟨k,0,i,j,rfl,?_,?_,?_⟩
 ·simpa using l
 ·simpa using f
 ·simpa using o
structure wU(w:World)(c:List Lt)(v:Value)(nb:Nat)(Q:List (Lt×Value))(w':World):Prop where
 val:v=.slice (some ⟨nb,0,none⟩) (aU c).length (aU c).length
 made:Q.map Prod.fst=aU c
 row:w'.ownsRow w.heap.size 55 2 (.slice (some ⟨nb,0,none⟩) (aU c).length (aU c).length) (aU c).length (bS Q)
 atoms:∀q∈Q,w'.ownsRow w.heap.size 106 2 q.2 q.1.2.length (aP q.1.2)
 once:(Q.map λq=>q.2.ownBlock).Nodup
 apart:∀q∈Q,q.2.ownBlock≠some nb
 low:aC w w'
theorem aI8(a:Option Addr)(r:Nat)(c:List Lt)(w:World)(M:bD w a c)(A:∀f∈c,wS f.2)(N:aR c<=100000)(O:c.length<=100000):Calls zt 53 #[.slice a c.length r] w λg Z=>∃v o e,g=.returned v/\wU w c v o e Z:=by
 have F:=aA (aJ4 a r c w M);obtain ⟨J,L,s⟩:=oY c;have G:=aA (λa' cp' wx (W:bD wx a' (bY c))=>aSh a' cp' (bY c) wx W (λf P=>A f (s f P)) (by omega) (by omega));have a0:(bY c).length<=100000:=by omega
 clear J L s A N O;go_enter Tryz.func53,Tryz.ntmps53;go_wp2_with (first
  |(go_at_call 93;refine (aB G C D E H.o).mono ?_;rintro g a1 ⟨o,e,rfl,d⟩;have I:=aA d;clear d)
  |(go_at_call 94;refine (aB F).mono ?_;rintro g E ⟨v,q,rfl,i,u,l,k⟩;obtain ⟨C,D,rfl⟩:=aW l;have j:q.length=(bY c).length:=(by rw [<-i];simp);have H:=aA (uO (w':=E) (B:=w.heap.size) (a:=C) (P:=q) (c:=bY c) (cap:=D) (by rw [<-j];exact l) i (λX Q=>(u X Q).below k (zx _)) (by omega));rw [j];have p:=aA k;clear i u l k j))
 go_ret;have d:=I.o;have R:e.length=(bY c).length:=by have t:=congrArg zn d.made;rw [(oZ _).1] at t;simpa using t
 have y:(aU c).length=(bY c).length:=by unfold aU;exact (oZ _).1
 have x:=d.made;rw [zo] at x;have n:=p.o.size;have z:=d.row;rw [R,Nat.sub_self,zq,List.append_nil] at z;exact ⟨_,o,e,rfl,by rw [y];rfl,x,by rw [y];exact eJ z n,λY T=>eJ (d.atoms Y T) n,d.once,d.apart,p.o.trans (d.low.mono n)⟩
def bZ(B:Nat)(w:World)(v:Value)(out:List Lt):Prop:=∃c:List (Lt×Value),c.map Prod.fst=out/\w.ownsRow B 55 2 v c.length (bS c)/\(∀d∈c,lI w B d.2 d.1.2)/\((c.map Prod.snd).filterMap zy).Nodup
theorem bZ.nil(B:Nat)(w:World):bZ B w (.slice none 0 0) []:=⟨[],rfl,World.ownsRow_nil _ _ _ _,λq c=>by simp at c,by simp⟩
structure Mv(S:List TypeId)(B:Nat)(W W':World):Prop where
 os:W'.os=W.os
 tape:W'.tape=W.tape
 output:W'.output=W.output
 size:W.heap.size<=W'.heap.size
 keep:∀k o,W.heap[k]?=some o->(k<B\/∀cs T,o=.cells cs T (0,0)->T∉S)->W'.heap[k]?=some o
theorem Mv.refl(S:List TypeId)(B:Nat)(W:World):Mv S B W W:=⟨rfl,rfl,rfl,zx _,λ_ _ c _=>c⟩
theorem Mv.trans{S:List TypeId}{B:Nat}{U V d:World}(c:Mv S B U V)(k:Mv S B V d):Mv S B U d:=
 ⟨k.os.trans c.os,k.tape.trans c.tape,k.output.trans c.output,Nat.le_trans c.size k.size,λf g i e=>k.keep f g (c.keep f g i e) e⟩
theorem Mv.mono{S':List TypeId}(c:Mv S B U V)(f:∀t∈S,t∈S')(k:B'<=B):Mv S' B' U V:=
 ⟨c.os,c.tape,c.output,c.size,λi o g ho=>c.keep i o g (by
  rcases ho with ho|ho
  ·exact zl (by omega)
  ·exact zp (λd T e j=>ho d T e (f _ j)))⟩
theorem Mv.of_below(c:aC U V):Mv S B U V:=
 ⟨c.os,c.tape,c.output,c.size,λe _ d _=>(c.block e (zz.1 d).1).trans d⟩
theorem Mv.of_grown{j:Option Nat}(c:U.grownBy V j)(o:∀g,j=some g->B<=g/\∃f d,U.heap[g]?=some (.cells f d (0,0))/\d∈S):Mv S B U V:=
 ⟨c.os,c.tape,c.output,c.size,λi q e ho=>(c.block i (zz.1 e).1 (by
  intro k;obtain ⟨p,f,d,l,n⟩:=o i k.symm;rw [l] at e;cases e;rcases ho with ho|ho
  ·omega
  ·exact ho f d rfl n)).trans e⟩
theorem Mv.cells(f:Mv S B U V){k:Nat}{d:Array Value}{c:TypeId}(i:U.heap[k]?=some (.cells d c (0,0)))(g:c∉S):V.heap[k]?=some (.cells d c (0,0)):=
 f.keep k _ i (zp (λl j e=>by cases e;exact g))
theorem Mv.below(c:Mv S B U V)(g:B<=U.heap.size):Below B U V:=
 ⟨c.os,c.tape,c.output,c.size,λk f=>by
  obtain ⟨d,e⟩ : ∃d,U.heap[k]?=some d:=⟨_,Array.getElem?_eq_getElem (by omega)⟩;rw [c.keep k d e (zl f),e]⟩
theorem Mv.keepsFrom(c:Mv S B U V):KeepsFrom B' U V:=
 ⟨c.size,λg i _ e f=>c.keep g i e (zp (λk j d=>by subst d;cases f))⟩
theorem Mv.row(k:Mv S B U V){c:TypeId}{i:Nat}{v:Value}{e:Nat}{f:List Value}(q:U.ownsRow B' c i v e f)(o:c∉S):V.ownsRow B' c i v e f:=by
 obtain ⟨d,⟨rfl,l⟩|⟨g,cap,j,rfl,n,p,r⟩⟩:=q
 ·exact ⟨d,zl ⟨rfl,l⟩⟩
 ·exact ⟨d,zp ⟨g,cap,j,rfl,n,k.cells p o,r⟩⟩
theorem Mv.clause(d:Mv S B U V){v:Value}{c:List Lt}(i:bZ B' U v c)(f:55∉S)(g:106∉S):bZ B' V v c:=by obtain ⟨e,l,n,o,p⟩:=i;exact ⟨e,l,d.row n f,λk j=>d.row (o k j) g,p⟩
theorem Mv.boxed(e:Mv S B U V){d:Nat}{c:TypeId}{v:Value}(g:Boxed U d c v)(f:c∉S):Boxed V d c v:=e.cells g f
theorem Mv.kps(c:Mv S B U V):dT S U V:=⟨c.size,λ_ _ _ d e=>c.cells d e⟩
theorem dT.row(k:dT S U V){c:TypeId}{i:Nat}{v:Value}{e:Nat}{f:List Value}(q:U.ownsRow B' c i v e f)(o:c∉S):V.ownsRow B' c i v e f:=by
 obtain ⟨d,⟨rfl,l⟩|⟨g,cap,j,rfl,n,p,r⟩⟩:=q
 ·exact ⟨d,zl ⟨rfl,l⟩⟩
 ·exact ⟨d,zp ⟨g,cap,j,rfl,n,k.kc _ _ _ p o,r⟩⟩
theorem dT.clause(d:dT S U V){v:Value}{c:List Lt}(i:bZ B' U v c)(f:55∉S)(g:106∉S):bZ B' V v c:=by obtain ⟨e,l,n,o,p⟩:=i;exact ⟨e,l,d.row n f,λk j=>d.row (o k j) g,p⟩
theorem dT.boxed(e:dT S U V){d:Nat}{c:TypeId}{v:Value}(g:Boxed U d c v)(f:c∉S):Boxed V d c v:=e.kc _ _ _ g f
structure kG(c:List Lt):Prop where
 len:c.length<=8
 term:∀x∈c,bA x.2 1=true/\x.2.length<=60
theorem aDg{n:Nd}(c:dU n=true):n.1.size<=80:=by
 unfold dU at c;split at c
 ·rename_i d;have:n.1.size=0:=by
   simp [aM] at d;have:=congrArg zn d;rw [ByteArray.toList_eq] at this;simpa using this
  omega
 ·simp at c;exact (aJk _ c.1).2
theorem aDh:∀(d:List Nd) (e:Nat),bA d e=true->∀c∈d,dU c=true
 |[],_,_,c,hn=>by simp at hn
 |x::r,e,h,c,hn=>by
  unfold bA at h;split at h
  ·cases h
  ·split at h
   ·rename_i f;rcases List.mem_cons.1 hn with rfl|hn
    ·exact f
    ·exact aDh r _ h c hn
   ·cases h
theorem kG.nodes{e:List Lt}(f:kG e){x:Lt}(j:x∈e):x.2.length<=60/\0<x.2.length/\∀d (f:d<x.2.length),x.2[d].1.size<=80:=by
 obtain ⟨c,g⟩:=f.term x j;refine ⟨g,?_,λd i=>aDg (aDh _ _ c _ (zu i))⟩;cases hl:x.2 with
 |nil=>rw [hl] at c;simp [bA] at c
 |cons=>simp
theorem nL{d:List Lt}(c:cG d=true):kG d:=by simp only [cG,Bool.and_eq_true,cD,decide_eq_true_eq,List.all_eq_true] at c;exact ⟨c.1.1.1,λx e=>aTu (c.1.2 x e)⟩
theorem bZ.lits{d:List Lt}(E:bZ B w v d)(s:kG d):∃a g,v=.slice a d.length g/\d.length<=g/\bD w a d/\aTt w a d:=by
 obtain ⟨j,J,i,y,T⟩:=E;subst J;obtain ⟨a,g,rfl⟩:=aW i;refine ⟨a,g,by simp,?_,uO (P:=j) (by simpa using i) rfl (λu t=>?_) (by have:=s.len;omega),?_⟩
 ·obtain ⟨_,⟨c,A⟩|⟨D,p,z,c,_,_,l,_⟩⟩:=i
  ·simp [A]
  ·simp at c;obtain ⟨_,rfl⟩:=c;simpa using l
 ·obtain ⟨N,O,F⟩:=s.nodes (x:=u.1) (by simp;exact ⟨_,t⟩);obtain ⟨o,q,c,I⟩:=tA (y u t) (by omega) (λf n=>by have:=F f n;omega);exact ⟨o,q,c,I⟩
 ·intro f n b R o Q q C r;have H:f<j.length:=by simpa using n
  obtain ⟨L,p,c,l⟩:=sB i;simp at c;obtain ⟨rfl,rfl⟩:=c;obtain ⟨D,k,_,e⟩:=l f H;rw [C] at k;simp at k;obtain ⟨rfl,rfl⟩:=k;rw [Nat.zero_add] at r;rw [r] at e;obtain ⟨_,⟨c,_⟩|⟨M,p,z,c,_,_,G,_⟩⟩:=y j[f] (zu _)
  ·rw [c] at e;cases e;omega
  ·rw [c] at e;cases e;exact G
