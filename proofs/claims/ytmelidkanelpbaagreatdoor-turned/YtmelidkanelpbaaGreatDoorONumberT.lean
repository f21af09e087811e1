import Derived.Test.YtmelidkanelpbaaGreatDoorONumT
import Derived.Test.YtmelidkanelpbaaGreatDoorText0T
open Array renaming getElem?_eq_some_iff→zz
open List renaming getElem_mem→zx,getElem?_eq_getElem→zs,replicate→zr,replicate_zero→zj,take_length→zg,length→ze
open Nat renaming le_refl→zy,le_succ→zq,le_trans→zp,lt_succ_self→zo,zero_le→zk,lt_of_lt_of_le→zi
open Or renaming inr→zh,inl→zd
open Prod renaming fst→zv
namespace Go.Proofs.YtmelidkanelpbaaGreatDoor
open _root_.Go.Proofs.Tryz renaming prog→zt
open Value renaming ownBlock→zw
open World renaming putObj_heap_other→zu,alloc_heap_new→zn,block_lt_of_cell?→zm,frozen?_of_block→zl,size_alloc→zf
open Go.RowKit Go.Shelf Go.WideMaps
set_option maxHeartbeats 4000000
set_option maxRecDepth 100000
variable{sn:List Int}{out:List Nd}{S:List TypeId}{B B' ab m mp n:Nat}{v:Value}{U V W a b w wa wi:World}
structure lV(mp:Nat)(a b:World):Prop where
 size:a.heap.size<=b.heap.size
 block:∀k,k<a.heap.size->k≠mp->b.heap[k]?=a.heap[k]?
theorem lV.trans{mp:Nat}{a b c:World}(d:lV mp a b)(k:lV mp b c):lV mp a c:=⟨zp d.size k.size,λg e f=>by rw [k.block g (zi e d.size) f,d.block g e f]⟩
theorem lV.of_below(c:aB a b):lV mp a b:=⟨c.size,λk d _=>c.block k d⟩
theorem lV.of_grown(c:a.grownBy b (some mp)):lV mp a b:=⟨c.size,λg e f=>c.block g e (λd=>f (by simpa using d))⟩
theorem lV.own{c:TypeId}{f:Nat}{i:List Value}(l:lV mp a b)(r:a.ownsRow B c f v n i)(q:v.ownBlock≠some mp):b.ownsRow B c f v n i:=by
 obtain ⟨d,⟨rfl,o⟩|⟨g,j,k,rfl,p,e,s⟩⟩:=r
 ·exact ⟨d,zd ⟨rfl,o⟩⟩
 ·refine ⟨d,zh ⟨g,j,k,rfl,p,?_,s⟩⟩;rw [l.block g (zz.1 e).1 (λc=>q (by simp [zw,c])),e]
theorem lV.cell(d:lV mp a b){p:Addr}{v:Value}(c:a.cell? p=some v)(e:p.block≠mp):b.cell? p=some v:=
 (World.cell?_of_block (d.block _ (zm a p c) e)).trans c
theorem wC{c:DataW Unit}(f:a.ownsMap zt 3 fU mp n c)(g:b.heap[mp]?=a.heap[mp]?):b.ownsMap zt 3 fU mp n c:=by obtain ⟨e,d,i,j⟩:=f;exact ⟨e,d,by rw [g];exact i,j⟩
def wD(c:List Nd):Prop:=∀n∈c,aL n=true->0<=n.2/\n.2<=1000000000
structure wE(w:World)(mp nb:Nat)(c:List Lt)(k:Nat)(Q:List (Lt×Value))(wr:World):Prop where
 map:∃D,wr.ownsMap zt 3 fU mp (cW (c.take k)).2.length D/\pH D (cW (c.take k)).2
 row:wr.ownsRow w.heap.size 86 2 (.slice (some ⟨nb,0,none⟩) c.length c.length) c.length (bF (Q++zr (c.length-Q.length) sW))
 made:Q.map zv=(cW (c.take k)).1
 atoms:∀q∈Q,wr.ownsRow w.heap.size 117 2 q.2 q.1.2.length (bA q.1.2)
 once:(Q.map λq=>q.2.ownBlock).Nodup
 apart:∀q∈Q,q.2.ownBlock≠some nb
 low:aB w wr
structure kK(w wa:World)(mp ab m:Nat)(sn:List Int)(out:List Nd)(wi:World):Prop where
 abe:ab=wa.heap.size
 keep:lV mp wa wi
 row:wi.ownsRow ab 117 2 (.slice (some ⟨ab,0,none⟩) m m) m (bA (out++zr (m-out.length) zNd))
 map:∃D,wi.ownsMap zt 3 fU mp sn.length D/\pH D sn
 low:aB w wi
theorem kK.below{wx:World}(c:kK w wa mp ab m sn out wi)(k:aB wi wx):kK w wa mp ab m sn out wx:=by obtain ⟨e,d,f⟩:=c.map;refine ⟨c.abe,c.keep.trans (lV.of_below k),bJ c.row k (zy _),⟨e,wC d (k.block mp ?_),f⟩,c.low.trans (k.mono c.low.size)⟩;obtain ⟨j,i,g,_⟩:=d;exact (zz.1 g).1
theorem kK.count{g:World}{f:List Int}{d:DataW Unit}(c:kK w wa mp ab m sn out wi)(e:wi.grownBy g (some mp))(j:g.ownsMap zt 3 fU mp f.length d)(k:pH d f)(p:w.heap.size<=mp):kK w wa mp ab m f out g:=by obtain ⟨o,l,_⟩:=c.map;exact ⟨c.abe,c.keep.trans (lV.of_grown e),c.row.kept e (zh (aJs c.row l)),⟨d,j,k⟩,c.low.grown e c.low.size λq i=>by simp at i;omega⟩
theorem kK.box{g:Nat}(c:kK w wa mp ab m sn out wi)(q:ab<g)(r:mp<ab)(s:w.heap.size<=ab)(j:Nat)(d:Value):kK w wa mp ab m sn out (wi.setCell ⟨g,j,none⟩ d):=by obtain ⟨e,i,l⟩:=c.map;have f:=c.abe;refine ⟨f,⟨by have:=c.keep.size;simpa [World.setCell] using this,λk o p=>by rw [heap_setCell_other _ _ _ _ (by simp;omega)];exact c.keep.block k o p⟩,uD c.row (by simp [zw];omega) d,⟨e,wC i (heap_setCell_other _ _ _ _ (by simp;omega)),l⟩,c.low.setCell (by simp;omega) d⟩
theorem kK.put(c:kK w wa mp ab m sn out wi)(o:out.length<m)(r:mp<ab)(d:w.heap.size<=ab)(x:Nd):kK w wa mp ab m sn (out++[x]) ((wi.setCell ⟨ab,out.length*2,none⟩ (.string x.1)).setCell ⟨ab,out.length*2+1,none⟩ (.int .i64 x.2)):=by
 obtain ⟨f,i,j⟩:=c.map;have g:=c.abe;have q:=(c.row.stored (out.length*2) (.string x.1)).1;have e:=(q.stored (out.length*2+1) (.int .i64 x.2)).1;refine ⟨g,⟨by have:=c.keep.size;simpa [World.setCell] using this,λk l p=>?_⟩,?_,⟨f,wC i ?_,j⟩,(c.low.setCell (by simpa using d) _).setCell (by simpa using d) _⟩
 ·rw [heap_setCell_other _ _ _ _ (by simp;omega),heap_setCell_other _ _ _ _ (by simp;omega)];exact c.keep.block k l p
 ·rw [aW7 _ _ _ (by simp;omega),aJr _ _ _ _ o] at e;simpa using e
 ·rw [heap_setCell_other _ _ _ _ (by simp;omega),heap_setCell_other _ _ _ _ (by simp;omega)]
theorem kK.cell(d:kK w wa mp ab m sn out wi)(e:out.length<m):(∃c,wi.cell? ⟨ab,out.length*2,none⟩=some c)/\(∃c,wi.cell? ⟨ab,out.length*2+1,none⟩=some c):=by
 have f:(bA (out++zr (m-out.length) zNd)).length=m*2:=by rw [aOw];simp;omega
 constructor
 ·rw [d.row.cellAt _ (by omega)];exact ⟨_,zs (by omega)⟩
 ·rw [d.row.cellAt _ (by omega)];exact ⟨_,zs (by omega)⟩
theorem aWk(w:World)(c d:Value)(e:TypeId):(w.alloc (.cells #[c,d] e)).cell? ⟨w.heap.size,0,none⟩=some c/\(w.alloc (.cells #[c,d] e)).cell? ⟨w.heap.size,1,none⟩=some d:=by simp
theorem aWl{c:List Nd×List Int}{e:ByteArray}{d:Int}(g:e.toList.isEmpty=true):cI c (e,d)=(c.1++[(e,(oK c.2 d).2)],(oK c.2 d).1):=by
 have i:aL (e,d)=true:=g;unfold cI oK;rw [i];by_cases f:eS c.2 d<0
 ·simp [f]
 ·simp [f]
theorem aWm{d:List Nd×List Int}{c:ByteArray}{e:Int}(f:c.toList.isEmpty=false):cI d (c,e)=(d.1++[(c,e)],d.2):=by have g:aL (c,e)=false:=f;unfold cI;rw [g];simp
theorem aJz{d:TypeId}{i:Nat}{g:Nat}{j:List Value}(e:w.ownsRow B d i v n j)(c:v.ownBlock=some g):g<w.heap.size:=by
 obtain ⟨_,⟨rfl,_⟩|⟨o,k,l,rfl,_,f,_⟩⟩:=e
 ·simp [zw] at c
 ·simp [zw] at c;subst c;exact (zz.1 f).1
theorem wE.next{e:World}{M:Obj}{j k:Nat}{d:List Lt}{f:List (Lt×Value)}{o:Bool}{c:List Nd}(i:wE w mp j d k f e)(z:j≠mp)(L:w.heap.size<=j)(Z:k<d.length)
  (C:cW (d.take (k+1))=dK (cW (d.take k)) (o,c))
  (s:kK w (e.alloc M) mp (e.heap.size+1) c.length (dW c (cW (d.take k)).2).2 (dW c (cW (d.take k)).2).1 wi):(∃D,wi.cell? ⟨j,k*2,none⟩=some D)/\(∃D,wi.cell? ⟨j,k*2+1,none⟩=some D)/\wi.frozen? ⟨j,k*2,none⟩=false/\wi.frozen? ⟨j,k*2+1,none⟩=false/\
  wE w mp j d (k+1) (f++[((o,(dW c (cW (d.take k)).2).1),.slice (some ⟨e.heap.size+1,0,none⟩) c.length c.length)]) ((wi.setCell ⟨j,k*2,none⟩ (.bool o)).setCell ⟨j,k*2+1,none⟩ (.slice (some ⟨e.heap.size+1,0,none⟩) c.length c.length)):=by
 have A:f.length=k:=by have E:=congrArg ze i.made;rw [(pA _).1] at E;simp at E;omega
 have G:aB e (e.alloc M):=(Below.refl _ _).alloc (zy _) _;have T:=(xK c (cW (d.take k)).2).1;have a1:j<e.heap.size:=aJz i.row rfl;have t:=s.keep.own (bJ i.row G (zy _)) (by simp [zw];exact z);have a0:(bF (f++zr (d.length-f.length) sW)).length=d.length*2:=by
  have:∀u:List (Lt×Value),(bF u).length=u.length*2:=by
   intro u;induction u with
   |nil=>rfl
   |cons x r ih=>rw [aAs];simp [ih];omega
  rw [this];simp;omega
 obtain ⟨N,Q,R⟩:=s.map;refine ⟨?_,?_,t.frozenAt _,t.frozenAt _,?_⟩
 ·rw [t.cellAt _ (by omega)];exact ⟨_,zs (by omega)⟩
 ·rw [t.cellAt _ (by omega)];exact ⟨_,zs (by omega)⟩
 have X:=(t.stored (k*2) (.bool o)).1;have y:=(X.stored (k*2+1) (.slice (some ⟨e.heap.size+1,0,none⟩) c.length c.length)).1;have O:=aW8 (f++zr (d.length-f.length) sW) k ((o,(dW c (cW (d.take k)).2).1),.slice (some ⟨e.heap.size+1,0,none⟩) c.length c.length) (by simp;omega);refine ⟨⟨N,?_,?_⟩,?_,?_,?_,?_,?_,?_⟩
 ·rw [C];exact wC Q (by rw [heap_setCell_other _ _ _ _ (by simpa using λl=>z l.symm),heap_setCell_other _ _ _ _ (by simpa using λl=>z l.symm)])
 ·rw [C];exact R
 ·rw [show (bF (f++zr (d.length-f.length) sW)).set (k*2) (.bool o)=(bF (f++zr (d.length-f.length) sW)).set (k*2) (.bool (((o,(dW c (cW (d.take k)).2).1),(Value.slice (some ⟨e.heap.size+1,0,none⟩) c.length c.length)):Lt×Value).1.1) from rfl] at y;rw [O] at y;have J:=aJr f sW ((o,(dW c (cW (d.take k)).2).1),.slice (some ⟨e.heap.size+1,0,none⟩) c.length c.length) d.length (by omega);rw [A] at J;rw [A,J] at y;simpa [A] using y
 ·rw [C,List.map_append,i.made];rfl
 ·intro p hqm;rcases List.mem_append.1 hqm with hqm|hqm
  ·obtain ⟨Y,P,_⟩:=i.map;have q:=s.keep.own (bJ (i.atoms p hqm) G (zy _)) (aJs (i.atoms p hqm) P);have H:=i.apart p hqm;exact uD (uD q (by simpa using λl=>H l.symm) _) (by simpa using λl=>H l.symm) _
  ·simp at hqm;subst hqm;have q:=iH s.row (show w.heap.size<=e.heap.size+1 by have:=i.low.size;omega);rw [show c.length-(dW c (cW (d.take k)).2).1.length=0 by omega] at q;simp only [zj,List.append_nil] at q;simp only [T];exact uD (uD q (by simp [zw];omega) _) (by simp [zw];omega) _
 ·rw [List.map_append,List.nodup_append];refine ⟨i.once,by simp,?_⟩;intro a F b I;simp at I;subst I;simp only [List.mem_map] at F;obtain ⟨p,hqm,rfl⟩:=F;intro l;have:=aJz (g:=e.heap.size+1) (i.atoms p hqm) l;omega
 ·intro p hqm;rcases List.mem_append.1 hqm with hqm|hqm
  ·exact i.apart p hqm
  ·simp at hqm;subst hqm;simp [zw];omega
 ·exact (s.low.setCell (by simpa using L) _).setCell (by simpa using L) _
theorem aWn(a:Option Addr)(f3:Nat)(c:List Lt)(w:World)(c0:cH w a c)(o:∀i4∈c,wD i4.2)(j3:aR c<=100000)(j7:c.length<=100000):Calls zt 68 #[.slice a c.length f3] w λH w'=>∃(d3:Nat) (G:List (Lt×Value)),H=.returned (.slice (some ⟨d3,0,none⟩) c.length c.length)/\wE w w.heap.size d3 c c.length G w':=by
 obtain ⟨i2,g0,g1,g2,g3⟩:=info_parts tO;obtain ⟨i3,g4,g5,I,g6⟩:=info_parts sF;have j9:=@run_makeMap zt;have e0:=aA c0;have e6:=aA o;clear c0 o;go_enter Tryz.func68,Tryz.ntmps68;go_wp2_with (first
  |(at_make;refine wpList_make_full _ rfl _ _ 51 rfl w.heap.size 86 i2 (.agg #[.bool false,.slice none 0 0]) 2 Tryz.underlying51 g0 g1 g2 .i64 .i64 _ _ c.length rfl rfl rfl rfl ?m1 ?m2 ?m3 ?_)
  |go_in)
 case m1=>rw [g3];omega
 case m2=>unfold maxLen;omega
 case m3=>simp
 intro b1 A l;have e4:aM (wE w w.heap.size (w.heap.size+1) c 0 [] b1):=aA (by
  have h4:(w.alloc (.map #[] 0)).ownsMap zt 3 fU w.heap.size 0 (.map []):=World.ownsMap_made _ _ _ _;refine ⟨⟨.map [],wC h4 (l.block _ (by simp) (by simp)),pH.start⟩,?_,rfl,by simp,by simp,by simp,((Below.refl _ _).alloc (zy _) _).grown l (by simp) (by simp)⟩;rw [aWc] at A;simpa using A)
 clear A l;go_wp2;go_loopw [16] (λu wr=>∃(e:Nat) (G:List (Lt×Value)),e<=c.length/\u=.int .i64 e/\wE w w.heap.size (w.heap.size+1) c e G wr) (λu _=>c.length-(intOf u).toNat);case atStart=>exact ⟨0,[],zk _,rfl,e4.o⟩
 case round=>
  rename World=>wo
  obtain ⟨e,G,j5,rfl,z⟩:=hrel;have J:=z.low;have g8:=J.size;by_cases a2:e<c.length
  ·have h3:(e:Int)<(c.length:Int):=by omega
   obtain ⟨b,k3,P,T,rfl,b4,b6,a0⟩:=e0.o.cell e a2;have f4:=aC J b4;have f7:=aC J b6;have b0:=e6.o c[e] (zx _);have i0:=uZ c c[e] (zx _);have d1:=aP1 c e a2;generalize c[e]=q at *;obtain ⟨Q,f⟩:=q;simp only at f4 f7 a0 b0 i0;have g9:=aWk wo (.bool Q) (.slice P f.length T) 86;have j:aB wo (wo.alloc (.cells #[.bool Q,.slice P f.length T] 86)):=(Below.refl _ _).alloc (zy _) _;obtain ⟨h0,c2⟩:=g9;have y:=aA z;have f0:=aA a0;have e8:=aA b0;have e5:=aA d1;clear z a0 b0 d1 b4 b6 J;go_wp2_with (first
    |(at_make;refine wpList_make_full _ rfl _ _ 84 rfl (wo.heap.size+1) 117 i3 (.agg #[.string ⟨#[]⟩,.int .i64 0]) 2 Tryz.underlying84 g4 g5 I .i64 .i64 _ _ f.length rfl rfl rfl rfl ?n1 ?n2 ?n3 ?_)
    |go_in)
   case n1=>rw [g6];omega
   case n2=>unfold maxLen;omega
   case n3=>simp
   intro d8 a4 s;obtain ⟨wa,p⟩ : ∃wa,wa=wo.alloc (.cells #[.bool Q,.slice P f.length T] 86):=⟨_,rfl⟩;have a7:wo.heap.size+1=wa.heap.size:=by rw [p];simp
   have e1:aM (kK w wa w.heap.size (wo.heap.size+1) f.length (cW (c.take e)).2 [] d8):=aA (by
    obtain ⟨F,t,L⟩:=y.o.map;rw [<-p] at s j;rw [aWb] at a4;have c6:w.heap.size<wo.heap.size:=by obtain ⟨f6,f2,a1,_⟩:=t;exact (zz.1 a1).1
    refine ⟨a7,⟨s.size,λi5 h5 _=>s.block i5 h5 (by simp)⟩,by simpa using a4,⟨F,wC t ?_,L⟩,(y.o.low.trans (j.mono g8)).grown s (by omega) (by simp)⟩;rw [s.block _ (by omega) (by simp),j.block _ c6])
   have a3:w.heap.size<wo.heap.size+1:=by omega
   have f1:d8.cell? ⟨wo.heap.size,1,none⟩=some (.slice P f.length T):=s.cell c2 (by simp);have e9:=aA p;have a5:=xK;clear a4 s;have i8:=aA a7;have k1:wo.heap.size+1<=wa.heap.size:=by omega
   clear p a7;go_wp2;clear f1 h0 c2 j;go_loopw [28] (λu wi=>∃d:Nat,d<=f.length/\u=.int .i64 d/\kK w wa w.heap.size (wo.heap.size+1) f.length (dW (f.take d) (cW (c.take e)).2).2 (dW (f.take d) (cW (c.take e)).2).1 wi) (λu _=>f.length-(intOf u).toNat);case atStart=>exact ⟨0,zk _,rfl,e1.o⟩
   case round=>
    obtain ⟨d,j4,rfl,i⟩:=hrel;have a6:=a5 (f.take d) (cW (c.take e)).2;have d0:=pA (c.take e);have c3:=xL c e;have d2:(f.take d).length=d:=by simp;omega
    by_cases c5:d<f.length
    ·have h1:(d:Int)<(f.length:Int):=by omega
     obtain ⟨j0,k4,rfl,b5,b7⟩:=f0.o.cell d c5;have f5:=aC i.low b5;have f8:=aC i.low b7;have c9:=aOx f (cW (c.take e)).2 d c5;have a9:=e8.o f[d] (zx _);generalize dW (f.take d) (cW (c.take e)).2=R at *;generalize f[d]=nd at *;obtain ⟨out,sn⟩:=R;obtain ⟨D,q⟩:=nd;simp only at f5 f8 i a6 a9;have c8:out.length=d:=by omega
     have h6:sn.length<=1000000:=by omega
     have j6:=i.keep.size;have g7:aB wr (wr.alloc (.cells #[.string D,.int .i64 q] 117)):=(Below.refl _ _).alloc (zy _) _;have E:=aA (λi6=>pL D q i6);have j8:=i.low.size;have j2:wo.heap.size+1<wr.heap.size:=by obtain ⟨⟨k7,h7⟩,_⟩:=i.cell (by omega);exact zm wr _ h7
     have b2:=aA i;have x:=aA c8;have b3:=aA c9;have e7:=aA a9;clear i c8 c9 a9 b5 b7 a6 a5 d0 c3 d2 g7;by_cases o:D.toList.isEmpty=true
     ·have i1:=e7.o o;obtain ⟨h8,h9⟩:=i1;have Y:=aA (b3.o.trans (aWl o));rw [o] at E;clear o;go_wp2_with (first
       |(go_at_call 92;refine (aD d9).mono ?_;rintro H b1 ⟨i7,rfl,A,c7,l⟩;have c1:=e2.o.count l A c7 (zy _);have k5:=l.cell d4 (by simp;omega);have k6:=l.cell d5 (by simp;omega);have j1:b1.frozen? ⟨wr.heap.size,1,none⟩=false:=(by rw [zl (l.block _ (by simp;omega) (by simp;omega))];exact f9);have k:=c1.box (g:=wr.heap.size) (by omega) a3 (by omega) 1 (.int .i64 (oK sn q).2);obtain ⟨⟨d6,M⟩,⟨d7,N⟩⟩:=k.cell (by have:=x.o;omega);have b8:=k.row.frozenAt (d*2);have b9:=k.row.frozenAt (d*2+1);have r:=k.put (by have:=x.o;omega) a3 (by omega) (D,(oK sn q).2);rw [x.o] at M N r;have X:=aA r;clear A c7 l c1 k r)
       |(go_at_call 67;refine (aD E _).mono ?_;rintro H O ⟨rfl,j⟩;obtain ⟨d4,d5,C⟩:=jB j;have f9:O.frozen? ⟨wr.heap.size,1,none⟩=false:=(by rw [zl (j.block _ (by simp))];simp);have Z:=b2.o.below C;have k0:=C.size;have k2:wr.heap.size<O.heap.size:=(by have:=j.size;simp at this;omega);obtain ⟨F,t,L⟩:=Z.map;have d9:=aA (aW6 w.heap.size F sn q O t L h8 h9 h6);have e2:=aA Z;clear j C Z t L))
      go_roundw;case rel=>exact ⟨d+1,by omega,by go_num,by rw [Y.o];exact X.o⟩
      case measure=>simp [intOf];omega
     ·have a8:D.toList.isEmpty=false:=by simpa using o
      have Y:=aA (b3.o.trans (aWm a8));rw [a8] at E;clear o a8;go_wp2_with (first
       |(go_at_call 67;refine (aD E _).mono ?_;rintro H O ⟨rfl,j⟩;obtain ⟨d4,d5,C⟩:=jB j;have k:=b2.o.below C;obtain ⟨⟨d6,M⟩,⟨d7,N⟩⟩:=k.cell (by have:=x.o;omega);have b8:=k.row.frozenAt (d*2);have b9:=k.row.frozenAt (d*2+1);have r:=k.put (by have:=x.o;omega) a3 (by omega) (D,q);rw [x.o] at M N r;have X:=aA r;clear j C k r))
      go_roundw;case rel=>exact ⟨d+1,by omega,by go_num,by rw [Y.o];exact X.o⟩
      case measure=>simp [intOf];omega
    ·have h1:¬((d:Int)<(f.length:Int)):=by omega
     have c4:d=f.length:=by omega
     rw [c4,zg] at i;have p:=e9.o;have c6:w.heap.size<wo.heap.size:=by obtain ⟨F,t,_⟩:=y.o.map;obtain ⟨f6,f2,a1,_⟩:=t;exact (zz.1 a1).1
     have i9:wr.cell? ⟨wo.heap.size,0,none⟩=some (.bool Q):=i.keep.cell (by rw [p];simp) (by simp;omega);rw [p] at i;obtain ⟨⟨d6,M⟩,⟨d7,N⟩,b8,b9,I⟩:=y.o.next (by omega) (by omega) a2 e5.o i
     have e3:=aA I;clear I i p c4 a6 d0 c3 d2 a5;go_wp2;go_roundw;case rel=>exact ⟨e+1,_,by omega,by go_num,e3.o⟩
     case measure=>simp [intOf];omega
  ·have h3:¬((e:Int)<(c.length:Int)):=by omega
   have h2:e=c.length:=by omega
   rw [h2] at z;have y:=aA z;clear z;go_wp2;go_ret;exact ⟨_,rfl,_,y.o⟩
theorem aDx{w':World}{a:Option Addr}{cap:Nat}{P:List (Lt×Value)}{c:List Lt}(y:w'.ownsRow B 86 2 (.slice a c.length cap) P.length (bF P))(r:P.map zv=c)(q:∀g∈P,kX w' g.2 g.1.2)(t:c.length<=4398046511104):cH w' a c:=by
 subst r;obtain ⟨z,A,e,s⟩:=tN y;simp at e;obtain ⟨rfl,_⟩:=e;refine ⟨t,λd u=>?_⟩;have x:d<P.length:=by simpa using u
 obtain ⟨k,rfl,l,f⟩:=s d x;obtain ⟨i,j,o,p⟩:=q P[d] (zx _);rw [o] at f;refine ⟨k,0,i,j,rfl,?_,?_,?_⟩
 ·simpa using l
 ·simpa using f
 ·simpa using p
structure wF(w:World)(c:List Lt)(v:Value)(nb:Nat)(Q:List (Lt×Value))(w':World):Prop where
 val:v=.slice (some ⟨nb,0,none⟩) (aV c).length (aV c).length
 made:Q.map zv=aV c
 row:w'.ownsRow w.heap.size 86 2 (.slice (some ⟨nb,0,none⟩) (aV c).length (aV c).length) (aV c).length (bF Q)
 atoms:∀q∈Q,w'.ownsRow w.heap.size 117 2 q.2 q.1.2.length (bA q.1.2)
 once:(Q.map λq=>q.2.ownBlock).Nodup
 apart:∀q∈Q,q.2.ownBlock≠some nb
 low:aB w w'
theorem aK0(a:Option Addr)(s:Nat)(c:List Lt)(w:World)(N:cH w a c)(C:∀f∈c,wD f.2)(O:aR c<=100000)(P:c.length<=100000):Calls zt 42 #[.slice a c.length s] w λg a1=>∃v p e,g=.returned v/\wF w c v p e a1:=by
 have G:=aA (aK6 a s c w N);obtain ⟨L,M,t⟩:=mD c;have H:=aA (λa' cp' wx (Y:cH wx a' (bT c))=>aWn a' cp' (bT c) wx Y (λf Q=>C f (t f Q)) (by omega) (by omega));have a2:(bT c).length<=100000:=by omega
 clear L M t C O P;go_enter Tryz.func42,Tryz.ntmps42;go_wp2_with (first
  |(go_at_call 68;refine (aD H D E F I.o).mono ?_;rintro g a3 ⟨p,e,rfl,d⟩;have J:=aA d;clear d)
  |(go_at_call 69;refine (aD G).mono ?_;rintro g F ⟨v,r,rfl,i,x,l,k⟩;obtain ⟨D,E,rfl⟩:=aZ l;have j:r.length=(bT c).length:=(by rw [<-i];simp);have I:=aA (aDx (w':=F) (B:=w.heap.size) (a:=D) (P:=r) (c:=bT c) (cap:=E) (by rw [<-j];exact l) i (λZ R=>(x Z R).below k (zy _)) (by omega));rw [j];have q:=aA k;clear i x l k j))
 go_ret;have d:=J.o;have T:e.length=(bT c).length:=by have u:=congrArg ze d.made;rw [(pA _).1] at u;simpa using u
 have z:(aV c).length=(bT c).length:=by unfold aV;exact (pA _).1
 have y:=d.made;rw [zg] at y;have o:=q.o.size;have A:=d.row;rw [T,Nat.sub_self,zj,List.append_nil] at A;exact ⟨_,p,e,rfl,by rw [z];rfl,y,by rw [z];exact iH A o,λa0 X=>iH (d.atoms a0 X) o,d.once,d.apart,q.o.trans (d.low.mono o)⟩
def bR(B:Nat)(w:World)(v:Value)(out:List Lt):Prop:=∃c:List (Lt×Value),c.map zv=out/\w.ownsRow B 86 2 v c.length (bF c)/\(∀d∈c,xX w B d.2 d.1.2)/\((c.map Prod.snd).filterMap zw).Nodup
theorem bR.nil(B:Nat)(w:World):bR B w (.slice none 0 0) []:=⟨[],rfl,World.ownsRow_nil _ _ _ _,λq c=>by simp at c,by simp⟩
structure cN(S:List TypeId)(W W':World):Prop where
 size:W.heap.size<=W'.heap.size
 kc:∀(k:Nat) (cs:Array Value) (T:TypeId),W.heap[k]?=some (Obj.cells cs T (0,0))->T∉S->W'.heap[k]?=some (Obj.cells cs T (0,0))
theorem cN.refl(S:List TypeId)(W:World):cN S W W:=⟨zy _,λ_ _ _ c _=>c⟩
theorem cN.trans{S:List TypeId}{c B d:World}(g:cN S c B)(k:cN S B d):cN S c d:=⟨zp g.size k.size,λj f e l i=>k.kc j f e (g.kc j f e l i) i⟩
theorem cN.put(W:World)(l:Nat)(d g:Obj)(e:W.heap[l]?=some d)(f:d.isCells=false):cN S W (W.putObj l g):=
 ⟨by simp,λk j i c _=>(zu (by rintro rfl;rw [e] at c;cases c;cases f)).trans c⟩
theorem cN.grown{i:Option Nat}(e:U.grownBy V i)(o:∀g,i=some g->∃d:Obj,U.heap[g]?=some d/\d.isCells=false):cN S U V:=
 ⟨e.size,λf q p c _=>(e.block f (zz.1 c).1 (by
  intro j;obtain ⟨d,k,l⟩:=o f j.symm;rw [k] at c;cases c;cases l)).trans c⟩
def mN(S:List TypeId)(d:Nat)(W c:World):Prop:=cN S W c/\KeepsFrom d W c
theorem kL{c:World}(d:KeepsFrom B W c)(g:B<=B'):KeepsFrom B' W c:=⟨d.size,λj k i e f=>d.same j k (zp g i) e f⟩
theorem mN.trans{S:List TypeId}{N:Nat}{d B e:World}(c:mN S N d B)(k:mN S N B e):mN S N d e:=⟨c.1.trans k.1,⟨zp c.2.size k.2.size,λi j g l f=>k.2.same i j g (c.2.same i j g l f) f⟩⟩
theorem mO{c:Nat}{d B e:World}(f:KeepsFrom c d B)(k:KeepsFrom c B e):KeepsFrom c d e:=⟨zp f.size k.size,λj l i o g=>k.same j l i (f.same j l i o g) g⟩
theorem mN.put{d:Nat}(W:World)(l:Nat)(c e:Obj)(g:W.heap[l]?=some c)(i:c.isCells=false)(j:l<d):mN S d W (W.putObj l e):=
 ⟨cN.put W l c e g i,⟨by simp,λk _ o f _=>(zu (by omega)).trans f⟩⟩
def sX{q:Type}(F:Fence)(n:Nat)(k:Program)(s:Nat)(lb:Array Value)(r:q->Array Value->World->Prop)(S:List TypeId)(j:List q)(W:World):Prop:=
 ∀(o:Nat) (e i:Nat->World->Prop),OwnFrom W.heap.size e->OwnFrom W.heap.size i->
  (∀d p l f,j[d]?=some p->e d f->r p l f->YieldAt F (n-1) k o l f λg c=>
   (g=.returned (.bool true)/\e (d+1) c/\mN S W.heap.size f c)\/(g=.returned (.bool false)/\i d c/\KeepsFrom W.heap.size f c))->
  e 0 W->
  CallsIn F n k s (#[.func (.yield o) #[] #[]]++lb) W λg c=>(∃v,g=.returned v)/\(e j.length c\/∃d,i d c)
def aAt(B:Nat)(S:List TypeId)(e:Nat->World->Prop)(d:Code->Nat->World->Prop)(c:Nat)(W:World):Exit->Act->World->Prop
 | .normal,_,W'=>KeepsFrom B W W'/\cN S W W'/\e (c+1) W'
 | .ret,_,W'=>KeepsFrom B W W'/\d .ret c W'
 | .exit i,_,W'=>KeepsFrom B W W'/\d (.exit i) c W'
 | .goto t,_,W'=>KeepsFrom B W W'/\d (.goto t) c W'
 | .panic _,_,_=>False
 | .outgrown,_,_=>False
theorem sY{q:Type}{c:q->World->Prop}(j:OwnFrom B c)(k:B<=B'):OwnFrom B' c:=
 λs g i p o l e=>j s g i p o l (λf d=>⟨zp k (e f d).1,(e f d).2⟩)
def jN(f:FuncId)(j:Array Value)(i:Array Tmp)(c d:Code)(e:Nat)(s:LoopState)(g:Option Code):Loop:=
 {state:=s,pending:=g,fn:=f,tmps:=j,params:=i,assign:=c,body:=d,defers:=e}
structure nM(D:Nat)(r:Loop)(W:World):Prop where
 k:W.heap[D]?=some (.deferred (some []))
 l:W.heap[D+1]?=some (.loop r)
theorem nM.own{d:Nat}{i:Loop}(l:d+1<B):OwnFrom B (λ(_:Nat) W=>nM d i W):=λ_ j k o c e g=>by
 refine ⟨(e.block _ (zz.1 c.k).1 ?_).trans c.k,(e.block _ (zz.1 c.l).1 ?_).trans c.l⟩;all_goals
  intro f;have:=(g _ f.symm).1;omega
theorem nM.put{c:Nat}{f:Loop}(d:nM c f W)(e:Loop):nM c e (W.putObj (c+1) (.loop e)):=
 ⟨(zu (by omega)).trans d.k,World.putObj_heap_same (zz.1 d.l).1⟩
theorem nM.keep{c:Nat}{g:Loop}{d:World}(e:nM c g W)(i:B<=c)(f:KeepsFrom B W d):nM c g d:=
 ⟨f.same _ _ i e.k rfl,f.same _ _ (by omega) e.l rfl⟩
theorem yH{H:Type}{F:Fence}{x:Program}{Y:Operand}{e:Array Tmp}{c d:Code}{Q:Exit->Act->World->Prop}{a:Act}
  (d0:F.round=none) (b2:1<=n) {gf:Nat} {lb:Array Value} (c3:a.eval Y=.func (.func gf) #[] lb) (b4:F.fn gf) (a8:∀o w,(callFunc gf o).run x w=.ok (.enter gf o) w)
  {Enc:H->Array Value->World->Prop} {S:List TypeId} {L:List H}
  (d1:∀d3 d4,sX F (n-1) x gf lb Enc S L ((w.alloc d3).alloc d4))
  (c9:∀k o W,Enc k o W->o.size=e.size)
  (u:Nat->World->Prop) (I:Code->Nat->World->Prop) (z:OwnFrom w.heap.size u) (D:∀l,OwnFrom w.heap.size (I l)) (b1:u 0 w)
  (P:H->Act->World->Prop) (b3:∀k r,OwnFrom w.heap.size (λ(_:Unit) W=>P k r W))
  (b7:∀(O j:Nat) (k:H) (o:Array Value) (W:World) (K:Act->World->Prop),L[j]?=some k->u j W->Enc k o W->(∀r C,KeepsFrom w.heap.size W C->cN S W C->u j C->P k r C->K r C)->
   c.wpIn (F.inRound O) (n-1-1) x (Exit.then K (λ_ _ _=>False)) {tmps:=(e.zip o).foldl (λt (p,v)=>t.setIfInBounds p v) a.tmps,defers:=[]} W)
  (b9:∀(O j:Nat) (k:H) (r:Act) (W:World),w.heap.size<=O->L[j]?=some k->u j W->P k r W->
   d.wpIn (F.inRound O) (n-1-1) x (aAt w.heap.size S u I j W) r W)
  (c0:∀(W:World),u L.length W->W.heap[w.heap.size]?=some (.deferred (some []))->Q .normal {a with defers:={target:=.collected w.heap.size,args:=#[]}::a.defers} W)
  (d2:∀(l:Code) (j:Nat) (W:World),I l j W->W.heap[w.heap.size]?=some (.deferred (some []))->l.wpIn F n x Q {a with defers:={target:=.collected w.heap.size,args:=#[]}::a.defers} W):(Code.rangeFunc Y e c d).wpIn F n x Q a w:=by
 refine wpIn_rangeFunc λf c2=>?_
 have b5:nM w.heap.size (jN f a.tmps e c d w.heap.size .ready none) ((w.alloc (.deferred (some []))).alloc (.loop (jN f a.tmps e c d w.heap.size .ready none))):=by refine ⟨(Below.heap_alloc _ _ _ (by simp)).trans (zn w _),?_⟩;have:=zn (w.alloc (.deferred (some []))) (.loop (jN f a.tmps e c d w.heap.size .ready none));rwa [zf] at this
 have N:((w.alloc (.deferred (some []))).alloc (.loop (jN f a.tmps e c d w.heap.size .ready none))).heap.size=w.heap.size+1+1:=by simp
 rw [d0];have c1:=run_enterLoop_outer (P:=x) (w:=w) f a.tmps e c d;refine ⟨w.heap.size+1,[{target:=.collected w.heap.size,args:=#[]}],(w.alloc (.deferred (some []))).alloc (.loop (jN f a.tmps e c d w.heap.size .ready none)),{target:=.fn (.func gf) lb,args:=#[.func (.yield (w.heap.size+1)) #[] #[]]},
  (w.alloc (.deferred (some []))).alloc (.loop (jN f a.tmps e c d w.heap.size .ready none)),gf,#[.func (.yield (w.heap.size+1)) #[] #[]]++lb,(w.alloc (.deferred (some []))).alloc (.loop (jN f a.tmps e c d w.heap.size .ready none)),c1,?_,?_,?_,λ_=>b2,?_⟩
 ·simp only [resolve,c3];simp [go_sem]
 ·intro d8 a0;simp [Target.leads] at a0;subst a0;exact b4
 ·simp [invoke,go_sem,a8]
 refine (d1 _ _ (w.heap.size+1) (λj W=>u j W/\nM w.heap.size (jN f a.tmps e c d w.heap.size .ready none) W)
  (λj W=>∃l,I l j W/\nM w.heap.size (jN f a.tmps e c d w.heap.size .done (some l)) W) ?o1 ?o2 ?round ⟨z.alloc _ (z.alloc _ b1),b5⟩).mono ?behind
 case o1=>exact (sY z (by simp;omega)).and (nM.own (by simp))
 case o2=>
  rintro a6 R T a5 ⟨l,a9,b0⟩ a1 a3;exact ⟨l,sY (D l) (by simp;omega) a6 R T a5 a9 a1 a3,nM.own (by simp) a6 R T a5 b0 a1 a3⟩
 case round=>
  rintro j k o W a4 ⟨E,s⟩ Z;refine ⟨f,_,c,d,run_yield (P:=x) (args:=o) s.l (c9 k o W Z),roundIn_of_wpIn c2 (b7 _ j k o W _ a4 E Z ?_)⟩;intro r a7 a2 c6 c5 b8;have G:=s.keep (zy _) a2;refine ⟨_,run_beginRound G.l rfl,?_⟩;have M:=G.put (jN f a.tmps e c d w.heap.size .busy none);have c4:=z.putObj (.loop (jN f a.tmps e c d w.heap.size .busy none)) c5 (zq _) G.l rfl;have b6:=(b3 k r).putObj (s:=()) (.loop (jN f a.tmps e c d w.heap.size .busy none)) b8 (zq _) G.l rfl;have J:mN S (w.heap.size+1+1) W _:=mN.trans ⟨c6,kL a2 (by omega)⟩ (mN.put a7 _ _ (.loop (jN f a.tmps e c d w.heap.size .busy none)) G.l rfl (zo _));refine wpIn_mono (b9 _ j k r _ (zq _) a4 c4 b6) ?_;rintro X d7 d6 A;cases X with
  |normal=>
   obtain ⟨q,c7,y⟩:=A;have g:=M.keep (zy _) q;have c8:=g.put (jN f a.tmps e c d w.heap.size .ready none);exact ⟨_,_,run_endRound none g.l,.inl ⟨rfl,⟨z.putObj _ y (zq _) g.l rfl,c8⟩,by rw [N];exact (J.trans ⟨c7,kL q (by omega)⟩).trans (mN.put _ _ _ _ g.l rfl (zo _))⟩⟩
  |ret=>
   obtain ⟨q,y⟩:=A;have g:=M.keep (zy _) q;exact ⟨_,_,run_endRound (some .ret) g.l,.inr ⟨rfl,⟨.ret,(D _).putObj _ y (zq _) g.l rfl,g.put (jN f a.tmps e c d w.heap.size .done (some .ret))⟩,by rw [N];exact (mO (mO J.2 (kL q (by omega))) (mN.put (S:=S) _ _ _ _ g.l rfl (zo _)).2)⟩⟩
  |exit i=>
   obtain ⟨q,y⟩:=A;have g:=M.keep (zy _) q;exact ⟨_,_,run_endRound (some (.exit i)) g.l,.inr ⟨rfl,⟨.exit i,(D _).putObj _ y (zq _) g.l rfl,g.put (jN f a.tmps e c d w.heap.size .done (some (.exit i)))⟩,by rw [N];exact (mO (mO J.2 (kL q (by omega))) (mN.put (S:=S) _ _ _ _ g.l rfl (zo _)).2)⟩⟩
  |goto t=>
   obtain ⟨q,y⟩:=A;have g:=M.keep (zy _) q;exact ⟨_,_,run_endRound (some (.goto t)) g.l,.inr ⟨rfl,⟨.goto t,(D _).putObj _ y (zq _) g.l rfl,g.put (jN f a.tmps e c d w.heap.size .done (some (.goto t)))⟩,by rw [N];exact (mO (mO J.2 (kL q (by omega))) (mN.put (S:=S) _ _ _ _ g.l rfl (zo _)).2)⟩⟩
  |panic ch=>exact A.elim
  |outgrown=>exact A.elim
 case behind=>
  rintro X d5 ⟨⟨v,rfl⟩,(⟨E,s⟩|⟨j,l,E,s⟩)⟩
  ·exact ⟨none,_,run_endLoop s.l (by simp [jN]),c0 _ (z.putObj _ E (zq _) s.l rfl) ((zu (by omega)).trans s.k)⟩
  ·exact ⟨some l,_,run_endLoop s.l (by simp [jN]),d2 l j _ ((D l).putObj _ E (zq _) s.l rfl) ((zu (by omega)).trans s.k)⟩
theorem aK1{k:Type}{g:Fence}{j:Program}{A:Operand}{u:Array Tmp}{y z:Code}{r:Exit->Act->World->Prop}{a:Act}
  (X:g.round=none) (F:1<=n) {gf:Nat} {lb:Array Value} (Q:a.eval A=.func (.func gf) #[] lb) (G:g.fn gf) (C:∀d w,(callFunc gf d).run j w=.ok (.enter gf d) w)
  {Enc:k->Array Value->World->Prop} {S:List TypeId} {L:List k}
  (Y:∀a1 a2,sX g (n-1) j gf lb Enc S L ((w.alloc a1).alloc a2))
  (T:∀c d W,Enc c d W->d.size=u.size)
  (i:Nat->World->Prop) (l:Code->Nat->World->Prop) (H:OwnFrom w.heap.size i) (I:∀o,OwnFrom w.heap.size (l o)) (E:i 0 w)
  (q:k->Act)
  (M:∀(f:Nat) (c:k) (d:Array Value) (W:World) (K:Act->World->Prop),Enc c d W->K (q c) W->
   y.wpIn (g.inRound f) (n-1-1) j (Exit.then K (λ_ _ _=>False)) {tmps:=(u.zip d).foldl (λt (p,v)=>t.setIfInBounds p v) a.tmps,defers:=[]} W)
  (N:∀(f e:Nat) (c:k) (W:World),w.heap.size<=f->L[e]?=some c->i e W->
   z.wpIn (g.inRound f) (n-1-1) j (aAt w.heap.size S i l e W) (q c) W)
  (O:∀(W:World),i L.length W->W.heap[w.heap.size]?=some (.deferred (some []))->r .normal {a with defers:={target:=.collected w.heap.size,args:=#[]}::a.defers} W)
  (Z:∀(o:Code) (e:Nat) (W:World),l o e W->W.heap[w.heap.size]?=some (.deferred (some []))->o.wpIn g n j r {a with defers:={target:=.collected w.heap.size,args:=#[]}::a.defers} W):(Code.rangeFunc A u y z).wpIn g n j r a w:=
 yH X F Q G C Y T i l H I E (λc x _=>x=q c) (λ_ _ _ _ _ _ D _ _=>D)
  (λf e c d W K _ s P hK=>M f c d W K P (hK _ _ (KeepsFrom.refl _ _) (cN.refl _ _) s rfl))
  (λf e c x W R a0 s J=>by subst J;exact N f e c W R a0 s) O Z
structure Mv(S:List TypeId)(B:Nat)(W W':World):Prop where
 os:W'.os=W.os
 tape:W'.tape=W.tape
 output:W'.output=W.output
 size:W.heap.size<=W'.heap.size
 keep:∀k o,W.heap[k]?=some o->(k<B\/∀cs T,o=.cells cs T (0,0)->T∉S)->W'.heap[k]?=some o
theorem Mv.refl(S:List TypeId)(B:Nat)(W:World):Mv S B W W:=⟨rfl,rfl,rfl,zy _,λ_ _ c _=>c⟩
theorem Mv.trans{S:List TypeId}{B:Nat}{U V W:World}(c:Mv S B U V)(k:Mv S B V W):Mv S B U W:=
 ⟨k.os.trans c.os,k.tape.trans c.tape,k.output.trans c.output,zp c.size k.size,λe f g d=>k.keep e f (c.keep e f g d) d⟩
theorem Mv.mono{S':List TypeId}(c:Mv S B U V)(f:∀t∈S,t∈S')(k:B'<=B):Mv S' B' U V:=
 ⟨c.os,c.tape,c.output,c.size,λi o g ho=>c.keep i o g (by
  rcases ho with ho|ho
  ·exact zd (by omega)
  ·exact zh (λd T e j=>ho d T e (f _ j)))⟩
theorem Mv.of_below(c:aB U V):Mv S B U V:=
 ⟨c.os,c.tape,c.output,c.size,λe _ d _=>(c.block e (zz.1 d).1).trans d⟩
theorem Mv.of_grown{j:Option Nat}(c:U.grownBy V j)(p:∀g,j=some g->B<=g/\∃f d,U.heap[g]?=some (.cells f d (0,0))/\d∈S):Mv S B U V:=
 ⟨c.os,c.tape,c.output,c.size,λi r e ho=>(c.block i (zz.1 e).1 (by
  intro k;obtain ⟨q,f,d,l,o⟩:=p i k.symm;rw [l] at e;cases e;rcases ho with ho|ho
  ·omega
  ·exact ho f d rfl o)).trans e⟩
theorem Mv.cells(f:Mv S B U V){k:Nat}{d:Array Value}{c:TypeId}(i:U.heap[k]?=some (.cells d c (0,0)))(g:c∉S):V.heap[k]?=some (.cells d c (0,0)):=
 f.keep k _ i (zh (λl j e=>by cases e;exact g))
theorem Mv.below(c:Mv S B U V)(g:B<=U.heap.size):Below B U V:=
 ⟨c.os,c.tape,c.output,c.size,λk f=>by
  obtain ⟨d,e⟩ : ∃d,U.heap[k]?=some d:=⟨_,Array.getElem?_eq_getElem (by omega)⟩;rw [c.keep k d e (zd f),e]⟩
theorem Mv.keepsFrom(c:Mv S B U V):KeepsFrom B' U V:=
 ⟨c.size,λg i _ e f=>c.keep g i e (zh (λk j d=>by subst d;cases f))⟩
theorem Mv.row(k:Mv S B U V){c:TypeId}{f:Nat}{v:Value}{n:Nat}{e:List Value}(r:U.ownsRow B' c f v n e)(p:c∉S):V.ownsRow B' c f v n e:=by
 obtain ⟨d,⟨rfl,l⟩|⟨g,i,j,rfl,o,q,s⟩⟩:=r
 ·exact ⟨d,zd ⟨rfl,l⟩⟩
 ·exact ⟨d,zh ⟨g,i,j,rfl,o,k.cells q p,s⟩⟩
theorem Mv.clause(d:Mv S B U V){v:Value}{c:List Lt}(i:bR B' U v c)(f:86∉S)(g:117∉S):bR B' V v c:=by obtain ⟨e,l,o,p,q⟩:=i;exact ⟨e,l,d.row o f,λk j=>d.row (p k j) g,q⟩
theorem Mv.boxed(e:Mv S B U V){d:Nat}{c:TypeId}{v:Value}(g:Boxed U d c v)(f:c∉S):Boxed V d c v:=e.cells g f
theorem Mv.kps(c:Mv S B U V):cN S U V:=⟨c.size,λ_ _ _ d e=>c.cells d e⟩
theorem cN.row(k:cN S U V){c:TypeId}{f:Nat}{v:Value}{n:Nat}{e:List Value}(r:U.ownsRow B' c f v n e)(p:c∉S):V.ownsRow B' c f v n e:=by
 obtain ⟨d,⟨rfl,l⟩|⟨g,i,j,rfl,o,q,s⟩⟩:=r
 ·exact ⟨d,zd ⟨rfl,l⟩⟩
 ·exact ⟨d,zh ⟨g,i,j,rfl,o,k.kc _ _ _ q p,s⟩⟩
theorem cN.clause(d:cN S U V){v:Value}{c:List Lt}(i:bR B' U v c)(f:86∉S)(g:117∉S):bR B' V v c:=by obtain ⟨e,l,o,p,q⟩:=i;exact ⟨e,l,d.row o f,λk j=>d.row (p k j) g,q⟩
theorem cN.boxed(e:cN S U V){d:Nat}{c:TypeId}{v:Value}(g:Boxed U d c v)(f:c∉S):Boxed V d c v:=e.kc _ _ _ g f
structure kM(c:List Lt):Prop where
 len:c.length<=8
 term:∀x∈c,aQ x.2 1=true/\x.2.length<=60
theorem aDy{n:Nd}(c:cZ n=true):n.1.size<=80:=by
 unfold cZ at c;split at c
 ·rename_i d;have:n.1.size=0:=by
   simp [aL] at d;have:=congrArg ze d;rw [ByteArray.toList_eq] at this;simpa using this
  omega
 ·simp at c;exact (aLm _ c.1).2
theorem aDz:∀(c:List Nd) (d:Nat),aQ c d=true->∀n∈c,cZ n=true
 |[],_,_,n,hn=>by simp at hn
 |x::r,d,h,n,hn=>by
  unfold aQ at h;split at h
  ·cases h
  ·split at h
   ·rename_i e;rcases List.mem_cons.1 hn with rfl|hn
    ·exact e
    ·exact aDz r _ h n hn
   ·cases h
theorem kM.nodes{e:List Lt}(f:kM e){x:Lt}(j:x∈e):x.2.length<=60/\0<x.2.length/\∀d (f:d<x.2.length),x.2[d].1.size<=80:=by
 obtain ⟨c,g⟩:=f.term x j;refine ⟨g,?_,λd i=>aDy (aDz _ _ c _ (zx i))⟩;cases hl:x.2 with
 |nil=>rw [hl] at c;simp [aQ] at c
 |cons=>simp
theorem lA{d:List Lt}(c:aY d=true):kM d:=by simp only [aY,Bool.and_eq_true,bP,decide_eq_true_eq,List.all_eq_true] at c;exact ⟨c.1.1.1,λx e=>aJ8 (c.1.2 x e)⟩
theorem bR.lits{d:List Lt}(F:bR B w v d)(t:kM d):∃a g,v=.slice a d.length g/\d.length<=g/\cH w a d/\aAm w a d:=by
 obtain ⟨j,L,i,z,T⟩:=F;subst L;obtain ⟨a,g,rfl⟩:=aZ i;refine ⟨a,g,by simp,?_,aDx (P:=j) (by simpa using i) rfl (λy u=>?_) (by have:=t.len;omega),?_⟩
 ·obtain ⟨_,⟨c,C⟩|⟨E,q,A,c,_,_,l,_⟩⟩:=i
  ·simp [C]
  ·simp at c;obtain ⟨_,rfl⟩:=c;simpa using l
 ·obtain ⟨O,Q,G⟩:=t.nodes (x:=y.1) (by simp;exact ⟨_,u⟩);obtain ⟨p,r,c,J⟩:=uY (z y u) (by omega) (λf o=>by have:=G f o;omega);exact ⟨p,r,c,J⟩
 ·intro f o b R p n r D s;have I:f<j.length:=by simpa using o
  obtain ⟨M,q,c,l⟩:=tN i;simp at c;obtain ⟨rfl,rfl⟩:=c;obtain ⟨E,k,_,e⟩:=l f I;rw [D] at k;simp at k;obtain ⟨rfl,rfl⟩:=k;rw [Nat.zero_add] at s;rw [s] at e;obtain ⟨_,⟨c,_⟩|⟨N,q,A,c,_,_,H,_⟩⟩:=z j[f] (zx _)
  ·rw [c] at e;cases e;omega
  ·rw [c] at e;cases e;exact H
theorem aWo(f l:Bool)(e i:Option Addr)(j o k:Nat)(d g:List Nd)(w:World)(q:dV w e d)(r:dV w i g)(y:w.cell? ⟨k,0,none⟩=some (.bool l))(z:w.cell? ⟨k,1,none⟩=some (.slice i g.length o)):Calls zt 71 #[.agg #[.bool f,.slice e d.length j],.pointer (some ⟨k,0,none⟩)] w λp A=>p=.returned (.bool (mC (f,d) (l,g)))/\aB w A:=by
 have c:aB w (w.alloc (.cells #[.bool f,.slice e d.length j] 86)):=(Below.refl _ _).alloc (zy _) _;have t:=aA (aE2 f l e i j o d g _ (q.below c (zy _)) (r.below c (zy _)));have C:=aC c y;have D:=aC c z;have u:=aA c;clear c q r;go_enter Tryz.func71,Tryz.ntmps71;go_wp2_with (go_at_call 37;refine (aD t).mono ?_;rintro p E ⟨rfl,s⟩;have x:=aA (u.o.trans (s.mono (by simp)));clear s);go_ret;exact ⟨rfl,x.o⟩
theorem aWp(a t:Option Addr)(a0 F o:Nat)(d:List (Lt×Value))(g:Bool)(f:List Nd)(w:World)(b0:d.length<=4398046511104)
  (J:∀c (a9:c<d.length),∃p,a=some ⟨p,0,none⟩/\w.cell? ⟨p,c*2,none⟩=some (.bool d[c].1.1)/\w.cell? ⟨p,c*2+1,none⟩=some d[c].2)
  (H:∀P∈d,kX w P.2 P.1.2) (G:dV w t f) (a1:w.cell? ⟨o,0,none⟩=some (.bool g)) (a2:w.cell? ⟨o,1,none⟩=some (.slice t f.length F)):Calls zt 94 #[.slice a d.length a0,.func (Fn.func 71) #[] #[.pointer (some ⟨o,0,none⟩)]] w λu a5=>∃Q:Int,u=.returned (.int .i64 Q)/\decide (0<=Q)=fO (d.map zv) (g,f)/\aB w a5:=by
 have Z:=aA J;have Y:=aA H;have X:=aA G;clear J H G;go_enter Tryz.func94,Tryz.ntmps94;go_wp2;go_loopw [8] (λC wr=>∃c:Nat,c<=d.length/\C=.int .i64 c/\fO ((d.map zv).take c) (g,f)=false/\aB w wr) (λC _=>d.length-(intOf C).toNat);case atStart=>exact ⟨0,zk _,rfl,rfl,Below.refl _ _⟩
 case round=>
  obtain ⟨c,b1,rfl,N,e⟩:=hrel;have s:=aA N;clear N;by_cases M:c<d.length
  ·obtain ⟨p,rfl,y,l⟩:=Z.o c M;obtain ⟨a3,a4,O,A⟩:=Y.o d[c] (zx _);rw [O] at l;have q:=aK4 d (g,f) c M;rw [s.o,Bool.false_or] at q;have z:=aK5 d (g,f) (c+1);rw [q] at z;generalize d[c].1=x at *;obtain ⟨R,T⟩:=x;simp only at y l A;have a7:=aC e y;have a8:=aC e l;have j:=aA (aWo R g a3 t a4 F o T f wr (A.below e (zy _)) (X.o.below e (zy _)) (aC e a1) (aC e a2));have D:=aA q;have E:=aA z;have k:=aA e;have I:=e.size;clear q z e O A y l;cases hl:mC (R,T) (g,f)
   ·rw [hl] at j D;clear hl;go_wp2_with (go_at_call 71;refine (aD j).mono ?_;rintro u a6 ⟨rfl,i⟩;have r:=aA (k.o.trans (i.mono I));clear i);go_roundw;case rel=>exact ⟨c+1,by omega,by go_num,D.o,r.o⟩
    case measure=>simp [intOf];omega
   ·rw [hl] at j E;clear hl;go_wp2_with (go_at_call 71;refine (aD j).mono ?_;rintro u a6 ⟨rfl,i⟩;have r:=aA (k.o.trans (i.mono I));clear i);go_ret;exact ⟨_,rfl,by rw [E.o (by first|rfl|trivial)];simp,r.o⟩
  ·have L:(d.map zv).take c=d.map zv:=List.take_of_length_le (by simp;omega);rw [L] at s;have k:=aA e;clear L e;go_wp2;go_ret;exact ⟨_,rfl,by rw [s.o];rfl,k.o⟩
theorem aWq(a f:Option Addr)(l j d:Nat)(c:List (Lt×Value))(i:Bool)(e:List Nd)(w:World)(D:c.length<=4398046511104)
  (u:∀k (F:k<c.length),∃g,a=some ⟨g,0,none⟩/\w.cell? ⟨g,k*2,none⟩=some (.bool c[k].1.1)/\w.cell? ⟨g,k*2+1,none⟩=some c[k].2)
  (s:∀y∈c,kX w y.2 y.1.2) (r:dV w f e) (p:w.cell? ⟨d,0,none⟩=some (.bool i)) (q:w.cell? ⟨d,1,none⟩=some (.slice f e.length j)):Calls zt 70 #[.slice a c.length l,.func (Fn.func 71) #[] #[.pointer (some ⟨d,0,none⟩)]] w λo E=>o=.returned (.bool (fO (c.map zv) (i,e)))/\aB w E:=by
 have z:=aA (aWp a f l j d c i e w D u s r p q);clear u s r p q;go_enter Tryz.func70,Tryz.ntmps70;go_wp2_with (go_at_call 94;refine (aD z).mono ?_;rintro o H ⟨G,rfl,x,t⟩;have C:=aA x;have A:=aA t;clear x t);go_ret;exact ⟨dI C.o,A.o⟩
def pK(c:List Lt)(e:Nat):Bool:=(List.range e).any λd=>fO (c.take d) (!(c.getD d default).1,(c.getD d default).2)
def eO(c:List Lt):Bool:=pK c c.length
theorem aK2(c:List Lt)(d:Nat)(e:d<c.length):pK c (d+1)=(pK c d || fO (c.take d) (!c[d].1,c[d].2)):=by unfold pK;rw [List.range_succ,List.any_append];simp [e]
theorem aWr(c:List Lt){k:Nat}(g:k<=c.length)(d:pK c k=true):eO c=true:=by unfold eO pK at *;rw [List.any_eq_true] at *;obtain ⟨i,f,e⟩:=d;exact ⟨i,List.mem_range.2 (zi (List.mem_range.1 f) g),e⟩
theorem aE0(a:Option Addr)(s:Nat)(d:List (Lt×Value))(w:World)(b2:d.length<=100000)(b1:d.length<=s)
  (N:∀c (b0:c<d.length),∃p,a=some ⟨p,0,none⟩/\w.cell? ⟨p,c*2,none⟩=some (.bool d[c].1.1)/\w.cell? ⟨p,c*2+1,none⟩=some d[c].2)
  (M:∀u∈d,kX w u.2 u.1.2):Calls zt 43 #[.slice a d.length s] w λz a6=>z=.returned (.bool (eO (d.map zv)))/\aB w a6:=by
 have I:=aA N;have H:=aA M;clear N M;go_enter Tryz.func43,Tryz.ntmps43;go_wp2;go_loopw [8] (λG wr=>∃c:Nat,c<=d.length/\G=.int .i64 c/\pK (d.map zv) c=false/\aB w wr) (λG _=>d.length-(intOf G).toNat);case atStart=>exact ⟨0,zk _,rfl,rfl,Below.refl _ _⟩
 case round=>
  obtain ⟨c,b4,rfl,r,j⟩:=hrel;have L:=aA r;clear r;by_cases O:c<d.length
  ·obtain ⟨p,rfl,A,t⟩:=I.o c O;obtain ⟨e,f,P,D⟩:=H.o d[c] (zx _);rw [P] at t;have E:=aK2 (d.map zv) c (by simpa using O);rw [L.o,Bool.false_or] at E;have F:pK (d.map zv) (c+1)=fO ((d.map zv).take c) (!d[c].1.1,d[c].1.2):=by simpa using E
   generalize d[c].1=x at *;obtain ⟨g,i⟩:=x;simp only at A t D F;have a8:=aC j A;have a9:=aC j t;have a1:=j.size;have b6:(c:Int)<(d.length:Int):=by omega
   have b5:(c:Int)<=(s:Int):=by omega
   have l:aB w ((wr.alloc (.cells #[.bool g,.slice e i.length f] 86)).alloc (.cells #[.bool !g,.slice e i.length f] 86)):=(j.alloc a1 _).alloc (by simp;omega) _;have C:((wr.alloc (.cells #[.bool g,.slice e i.length f] 86)).alloc (.cells #[.bool !g,.slice e i.length f] 86)).heap[wr.heap.size+1]?=some (.cells #[.bool !g,.slice e i.length f] 86):=by have:=zn (wr.alloc (.cells #[.bool g,.slice e i.length f] 86)) (.cells #[.bool !g,.slice e i.length f] 86);rwa [zf] at this
   have Q:(d.take c).length=c:=by simp;omega
   have o:=aA (aWq (some ⟨p,0,none⟩) e s f (wr.heap.size+1) (d.take c) (!g) i ((wr.alloc (.cells #[.bool g,.slice e i.length f] 86)).alloc (.cells #[.bool !g,.slice e i.length f] 86)) (by omega)
    (λa5 b3=>by
     obtain ⟨X,Y,Z,a0⟩:=I.o a5 (by omega);rw [List.getElem_take];exact ⟨X,Y,aC l Z,aC l a0⟩)
    (λu a4=>(H.o u (List.mem_of_mem_take a4)).below l (zy _)) (D.below l (zy _)) (aJ7 C).1 (aJ7 C).2)
   rw [Q,List.map_take,<-F] at o;have k:=aA l;have J:=aA (aWr (d.map zv) (k:=c+1) (by simp;omega));clear E F l C Q A t D P j;cases hi:pK (d.map zv) (c+1)
   ·rw [hi] at o;have R:=aA hi;clear hi;go_wp2_with (first
     |(go_at_call 70;refine (aD o).mono ?_;rintro z a7 ⟨rfl,q⟩;have y:=aA (k.o.trans (q.mono (by have:=k.o.size;simpa using this)));clear q)
     |go_in)
    go_roundw;case rel=>exact ⟨c+1,by omega,by go_num,R.o,y.o⟩
    case measure=>simp [intOf];omega
   ·have T:=aA (J.o hi);rw [hi] at o;clear hi J;go_wp2_with (first
     |(go_at_call 70;refine (aD o).mono ?_;rintro z a7 ⟨rfl,q⟩;have y:=aA (k.o.trans (q.mono (by have:=k.o.size;simpa using this)));clear q)
     |go_in)
    go_ret;exact ⟨by rw [T.o];rfl,y.o⟩
  ·have a3:c=(d.map zv).length:=by simp;omega
   have k:=aA j;clear j;go_wp2;go_ret;have a2:eO (d.map zv)=false:=by have r:=L.o;rw [a3] at r;exact r
   exact ⟨by rw [a2];rfl,k.o⟩
