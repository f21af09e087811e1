import Derived.Test.YtbpiopdphigodaaGreatDoorONumP
import Derived.Test.YtbpiopdphigodaaGreatDoorRNamedP
import Derived.Test.YtbpiopdphigodaaGreatDoorText0P
import Derived.Test.YtbpiopdphigodaaGreatDoorXCutP
import Derived.Shelf.RegionOpen
import Derived.OwnWalkIn
import Derived.TacticsInMore
import Derived.LoopNIn
import Derived.LoopIn
open Array renaming getElem?_eq_some_iff→zz
open List renaming getElem_mem→zx,getElem?_eq_getElem→zw,replicate→zs,map_append→zo,append_nil→zn,range_succ→zm,replicate_zero→zl,prefix_append→zj,take_length→zh,prefix_refl→zg,length→zf,range→ze
open Nat renaming le_refl→zy,zero_le→zr,lt_of_lt_of_le→zk
open Or renaming inr→zi,inl→zd
open Prod renaming fst→zt
namespace Go.Proofs.YtbpiopdphigodaaGreatDoor
open _root_.Go.Proofs.Tryz renaming prog→zv
open Value renaming ownBlock→zu
open World renaming block_lt_of_cell?→zq,frozen?_of_block→zp
open Go.RowKit Go.Shelf Go.WideMaps
set_option maxHeartbeats 4000000
set_option maxRecDepth 100000
variable{sn:List Int}{d:List Lt}{out:List Nd}{S:List TypeId}{B B' ab m mp:Nat}{v:Value}{U V a b w wa wi:World}
structure lC(mp:Nat)(a b:World):Prop where
 size:a.heap.size<=b.heap.size
 block:∀k,k<a.heap.size->k≠mp->b.heap[k]?=a.heap[k]?
theorem lC.trans{mp:Nat}{a b c:World}(e:lC mp a b)(k:lC mp b c):lC mp a c:=⟨Nat.le_trans e.size k.size,λi f g=>by rw [k.block i (zk f e.size) g,e.block i f g]⟩
theorem lC.of_below(c:aB a b):lC mp a b:=⟨c.size,λk e _=>c.block k e⟩
theorem lC.of_grown(c:a.grownBy b (some mp)):lC mp a b:=⟨c.size,λi f g=>c.block i f (λe=>g (by simpa using e))⟩
theorem lC.own{c:TypeId}{j:Nat}{i:Nat}{k:List Value}(o:lC mp a b)(s:a.ownsRow B c j v i k)(r:v.ownBlock≠some mp):b.ownsRow B c j v i k:=by
 obtain ⟨e,⟨rfl,p⟩|⟨g,l,n,rfl,q,f,t⟩⟩:=s
 ·exact ⟨e,zd ⟨rfl,p⟩⟩
 ·refine ⟨e,zi ⟨g,l,n,rfl,q,?_,t⟩⟩;rw [o.block g (zz.1 f).1 (λc=>r (by simp [zu,c])),f]
theorem lC.cell(e:lC mp a b){p:Addr}{v:Value}(c:a.cell? p=some v)(f:p.block≠mp):b.cell? p=some v:=
 (World.cell?_of_block (e.block _ (zq a p c) f)).trans c
theorem uC{e:Nat}{c:DataW Unit}(i:a.ownsMap zv 3 fK mp e c)(j:b.heap[mp]?=a.heap[mp]?):b.ownsMap zv 3 fK mp e c:=by obtain ⟨g,f,k,l⟩:=i;exact ⟨g,f,by rw [j];exact k,l⟩
def uD(e:List Nd):Prop:=∀c∈e,aM c=true->0<=c.2/\c.2<=1000000000
structure uE(w:World)(mp nb:Nat)(c:List Lt)(k:Nat)(Q:List (Lt×Value))(wr:World):Prop where
 map:∃D,wr.ownsMap zv 3 fK mp (dB (c.take k)).2.length D/\oH D (dB (c.take k)).2
 row:wr.ownsRow w.heap.size 41 2 (.slice (some ⟨nb,0,none⟩) c.length c.length) c.length (bC (Q++zs (c.length-Q.length) rN))
 made:Q.map zt=(dB (c.take k)).1
 atoms:∀q∈Q,wr.ownsRow w.heap.size 43 2 q.2 q.1.2.length (aV q.1.2)
 once:(Q.map λq=>q.2.ownBlock).Nodup
 apart:∀q∈Q,q.2.ownBlock≠some nb
 low:aB w wr
structure jR(w wa:World)(mp ab m:Nat)(sn:List Int)(out:List Nd)(wi:World):Prop where
 abe:ab=wa.heap.size
 keep:lC mp wa wi
 row:wi.ownsRow ab 43 2 (.slice (some ⟨ab,0,none⟩) m m) m (aV (out++zs (m-out.length) yK))
 map:∃D,wi.ownsMap zv 3 fK mp sn.length D/\oH D sn
 low:aB w wi
theorem jR.below{wx:World}(c:jR w wa mp ab m sn out wi)(k:aB wi wx):jR w wa mp ab m sn out wx:=by obtain ⟨f,e,g⟩:=c.map;refine ⟨c.abe,c.keep.trans (lC.of_below k),bF c.row k (zy _),⟨f,uC e (k.block mp ?_),g⟩,c.low.trans (k.mono c.low.size)⟩;obtain ⟨l,j,i,_⟩:=e;exact (zz.1 i).1
theorem jR.count{i:World}{g:List Int}{e:DataW Unit}(c:jR w wa mp ab m sn out wi)(f:wi.grownBy i (some mp))(k:i.ownsMap zv 3 fK mp g.length e)(l:oH e g)(p:w.heap.size<=mp):jR w wa mp ab m g out i:=by obtain ⟨o,n,_⟩:=c.map;exact ⟨c.abe,c.keep.trans (lC.of_grown f),c.row.kept f (zi (aFz c.row n)),⟨e,k,l⟩,c.low.grown f c.low.size λq j=>by simp at j;omega⟩
theorem jR.box{g:Nat}(c:jR w wa mp ab m sn out wi)(q:ab<g)(r:mp<ab)(s:w.heap.size<=ab)(j:Nat)(e:Value):jR w wa mp ab m sn out (wi.setCell ⟨g,j,none⟩ e):=by obtain ⟨f,l,n⟩:=c.map;have i:=c.abe;refine ⟨i,⟨by have:=c.keep.size;simpa [World.setCell] using this,λk o p=>by rw [heap_setCell_other _ _ _ _ (by simp;omega)];exact c.keep.block k o p⟩,sV c.row (by simp [zu];omega) e,⟨f,uC l (heap_setCell_other _ _ _ _ (by simp;omega)),n⟩,c.low.setCell (by simp;omega) e⟩
theorem jR.put(c:jR w wa mp ab m sn out wi)(o:out.length<m)(r:mp<ab)(e:w.heap.size<=ab)(x:Nd):jR w wa mp ab m sn (out++[x]) ((wi.setCell ⟨ab,out.length*2,none⟩ (.string x.1)).setCell ⟨ab,out.length*2+1,none⟩ (.int .i64 x.2)):=by
 obtain ⟨g,j,l⟩:=c.map;have i:=c.abe;have q:=(c.row.stored (out.length*2) (.string x.1)).1;have f:=(q.stored (out.length*2+1) (.int .i64 x.2)).1;refine ⟨i,⟨by have:=c.keep.size;simpa [World.setCell] using this,λk n p=>?_⟩,?_,⟨g,uC j ?_,l⟩,(c.low.setCell (by simpa using e) _).setCell (by simpa using e) _⟩
 ·rw [heap_setCell_other _ _ _ _ (by simp;omega),heap_setCell_other _ _ _ _ (by simp;omega)];exact c.keep.block k n p
 ·rw [aQ1 _ _ _ (by simp;omega),aFy _ _ _ _ o] at f;simpa using f
 ·rw [heap_setCell_other _ _ _ _ (by simp;omega),heap_setCell_other _ _ _ _ (by simp;omega)]
theorem jR.cell(e:jR w wa mp ab m sn out wi)(f:out.length<m):(∃c,wi.cell? ⟨ab,out.length*2,none⟩=some c)/\(∃c,wi.cell? ⟨ab,out.length*2+1,none⟩=some c):=by
 have g:(aV (out++zs (m-out.length) yK)).length=m*2:=by rw [aLs];simp;omega
 constructor
 ·rw [e.row.cellAt _ (by omega)];exact ⟨_,zw (by omega)⟩
 ·rw [e.row.cellAt _ (by omega)];exact ⟨_,zw (by omega)⟩
theorem aQd(w:World)(c e:Value)(f:TypeId):(w.alloc (.cells #[c,e] f)).cell? ⟨w.heap.size,0,none⟩=some c/\(w.alloc (.cells #[c,e] f)).cell? ⟨w.heap.size,1,none⟩=some e:=by simp
theorem aQe{c:List Nd×List Int}{f:ByteArray}{e:Int}(i:f.toList.isEmpty=true):cD c (f,e)=(c.1++[(f,(nF c.2 e).2)],(nF c.2 e).1):=by
 have j:aM (f,e)=true:=i;unfold cD nF;rw [j];by_cases g:eQ c.2 e<0
 ·simp [g]
 ·simp [g]
theorem aQf{e:List Nd×List Int}{c:ByteArray}{f:Int}(g:c.toList.isEmpty=false):cD e (c,f)=(e.1++[(c,f)],e.2):=by have i:aM (c,f)=false:=g;unfold cD;rw [i];simp
theorem aG5{e:TypeId}{k:Nat}{j g:Nat}{l:List Value}(f:w.ownsRow B e k v j l)(c:v.ownBlock=some g):g<w.heap.size:=by
 obtain ⟨_,⟨rfl,_⟩|⟨p,n,o,rfl,_,i,_⟩⟩:=f
 ·simp [zu] at c
 ·simp [zu] at c;subst c;exact (zz.1 i).1
theorem uE.next{f:World}{M:Obj}{l k:Nat}{e:List Lt}{i:List (Lt×Value)}{o:Bool}{c:List Nd}(j:uE w mp l e k i f)(z:l≠mp)(L:w.heap.size<=l)(Y:k<e.length)
  (C:dB (e.take (k+1))=dM (dB (e.take k)) (o,c))
  (s:jR w (f.alloc M) mp (f.heap.size+1) c.length (dY c (dB (e.take k)).2).2 (dY c (dB (e.take k)).2).1 wi):(∃D,wi.cell? ⟨l,k*2,none⟩=some D)/\(∃D,wi.cell? ⟨l,k*2+1,none⟩=some D)/\wi.frozen? ⟨l,k*2,none⟩=false/\wi.frozen? ⟨l,k*2+1,none⟩=false/\
  uE w mp l e (k+1) (i++[((o,(dY c (dB (e.take k)).2).1),.slice (some ⟨f.heap.size+1,0,none⟩) c.length c.length)]) ((wi.setCell ⟨l,k*2,none⟩ (.bool o)).setCell ⟨l,k*2+1,none⟩ (.slice (some ⟨f.heap.size+1,0,none⟩) c.length c.length)):=by
 have A:i.length=k:=by have E:=congrArg zf j.made;rw [(rG _).1] at E;simp at E;omega
 have G:aB f (f.alloc M):=(Below.refl _ _).alloc (zy _) _;have T:=(vF c (dB (e.take k)).2).1;have a0:l<f.heap.size:=aG5 j.row rfl;have t:=s.keep.own (bF j.row G (zy _)) (by simp [zu];exact z);have Z:(bC (i++zs (e.length-i.length) rN)).length=e.length*2:=by
  have:∀u:List (Lt×Value),(bC u).length=u.length*2:=by
   intro u;induction u with
   |nil=>rfl
   |cons x r ih=>rw [yL];simp [ih];omega
  rw [this];simp;omega
 obtain ⟨N,Q,R⟩:=s.map;refine ⟨?_,?_,t.frozenAt _,t.frozenAt _,?_⟩
 ·rw [t.cellAt _ (by omega)];exact ⟨_,zw (by omega)⟩
 ·rw [t.cellAt _ (by omega)];exact ⟨_,zw (by omega)⟩
 have W:=(t.stored (k*2) (.bool o)).1;have y:=(W.stored (k*2+1) (.slice (some ⟨f.heap.size+1,0,none⟩) c.length c.length)).1;have O:=aQ2 (i++zs (e.length-i.length) rN) k ((o,(dY c (dB (e.take k)).2).1),.slice (some ⟨f.heap.size+1,0,none⟩) c.length c.length) (by simp;omega);refine ⟨⟨N,?_,?_⟩,?_,?_,?_,?_,?_,?_⟩
 ·rw [C];exact uC Q (by rw [heap_setCell_other _ _ _ _ (by simpa using λn=>z n.symm),heap_setCell_other _ _ _ _ (by simpa using λn=>z n.symm)])
 ·rw [C];exact R
 ·rw [show (bC (i++zs (e.length-i.length) rN)).set (k*2) (.bool o)=(bC (i++zs (e.length-i.length) rN)).set (k*2) (.bool (((o,(dY c (dB (e.take k)).2).1),(Value.slice (some ⟨f.heap.size+1,0,none⟩) c.length c.length)):Lt×Value).1.1) from rfl] at y;rw [O] at y;have J:=aFy i rN ((o,(dY c (dB (e.take k)).2).1),.slice (some ⟨f.heap.size+1,0,none⟩) c.length c.length) e.length (by omega);rw [A] at J;rw [A,J] at y;simpa [A] using y
 ·rw [C,zo,j.made];rfl
 ·intro p hqm;rcases List.mem_append.1 hqm with hqm|hqm
  ·obtain ⟨X,P,_⟩:=j.map;have q:=s.keep.own (bF (j.atoms p hqm) G (zy _)) (aFz (j.atoms p hqm) P);have H:=j.apart p hqm;exact sV (sV q (by simpa using λn=>H n.symm) _) (by simpa using λn=>H n.symm) _
  ·simp at hqm;subst hqm;have q:=gS s.row (show w.heap.size<=f.heap.size+1 by have:=j.low.size;omega);rw [show c.length-(dY c (dB (e.take k)).2).1.length=0 by omega] at q;simp only [zl,zn] at q;simp only [T];exact sV (sV q (by simp [zu];omega) _) (by simp [zu];omega) _
 ·rw [zo,List.nodup_append];refine ⟨j.once,by simp,?_⟩;intro a F b I;simp at I;subst I;simp only [List.mem_map] at F;obtain ⟨p,hqm,rfl⟩:=F;intro n;have:=aG5 (g:=f.heap.size+1) (j.atoms p hqm) n;omega
 ·intro p hqm;rcases List.mem_append.1 hqm with hqm|hqm
  ·exact j.apart p hqm
  ·simp at hqm;subst hqm;simp [zu];omega
 ·exact (s.low.setCell (by simpa using L) _).setCell (by simpa using L) _
theorem aQg(a:Option Addr)(f2:Nat)(c:List Lt)(w:World)(b9:bP w a c)(o:∀i3∈c,uD i3.2)(j2:aS c<=100000)(j6:c.length<=100000):Calls zv 60 #[.slice a c.length f2] w λH w'=>∃(d2:Nat) (G:List (Lt×Value)),H=.returned (.slice (some ⟨d2,0,none⟩) c.length c.length)/\uE w w.heap.size d2 c c.length G w':=by
 obtain ⟨i1,f9,g0,g1,g2⟩:=info_parts sK;obtain ⟨i2,g3,g4,I,g5⟩:=info_parts rE;have j8:=@run_makeMap zv;have d9:=aA b9;have e5:=aA o;clear b9 o;go_enter Tryz.func60,Tryz.ntmps60;go_wp2_with (first
  |(at_make;refine wpList_make_full _ rfl _ _ 29 rfl w.heap.size 41 i1 (.agg #[.bool false,.slice none 0 0]) 2 Tryz.underlying29 f9 g0 g1 .i64 .i64 _ _ c.length rfl rfl rfl rfl ?m1 ?m2 ?m3 ?_)
  |go_in)
 case m1=>rw [g2];omega
 case m2=>unfold maxLen;omega
 case m3=>simp
 intro b0 A n;have e3:aI (uE w w.heap.size (w.heap.size+1) c 0 [] b0):=aA (by
  have h3:(w.alloc (.map #[] 0)).ownsMap zv 3 fK w.heap.size 0 (.map []):=World.ownsMap_made _ _ _ _;refine ⟨⟨.map [],uC h3 (n.block _ (by simp) (by simp)),oH.start⟩,?_,rfl,by simp,by simp,by simp,((Below.refl _ _).alloc (zy _) _).grown n (by simp) (by simp)⟩;rw [aQ6] at A;simpa using A)
 clear A n;go_wp2;go_loopw [16] (λu wr=>∃(f:Nat) (G:List (Lt×Value)),f<=c.length/\u=.int .i64 f/\uE w w.heap.size (w.heap.size+1) c f G wr) (λu _=>c.length-(intOf u).toNat);case atStart=>exact ⟨0,[],zr _,rfl,e3.o⟩
 case round=>
  rename World=>wo
  obtain ⟨f,G,j4,rfl,z⟩:=hrel;have J:=z.low;have g7:=J.size;by_cases a1:f<c.length
  ·have h2:(f:Int)<(c.length:Int):=by omega
   obtain ⟨b,k2,P,T,rfl,b3,b5,Z⟩:=d9.o.cell f a1;have f3:=aD J b3;have f6:=aD J b5;have a9:=e5.o c[f] (zx _);have h9:=xQ c c[f] (zx _);have d0:=aLx c f a1;generalize c[f]=q at *;obtain ⟨Q,i⟩:=q;simp only at f3 f6 Z a9 h9;have g8:=aQd wo (.bool Q) (.slice P i.length T) 41;have k:aB wo (wo.alloc (.cells #[.bool Q,.slice P i.length T] 41)):=(Below.refl _ _).alloc (zy _) _;obtain ⟨g9,c1⟩:=g8;have y:=aA z;have e9:=aA Z;have e7:=aA a9;have e4:=aA d0;clear z Z a9 d0 b3 b5 J;go_wp2_with (first
    |(at_make;refine wpList_make_full _ rfl _ _ 39 rfl (wo.heap.size+1) 43 i2 (.agg #[.string ⟨#[]⟩,.int .i64 0]) 2 Tryz.underlying39 g3 g4 I .i64 .i64 _ _ i.length rfl rfl rfl rfl ?n1 ?n2 ?n3 ?_)
    |go_in)
   case n1=>rw [g5];omega
   case n2=>unfold maxLen;omega
   case n3=>simp
   intro d7 a3 s;obtain ⟨wa,p⟩ : ∃wa,wa=wo.alloc (.cells #[.bool Q,.slice P i.length T] 41):=⟨_,rfl⟩;have a6:wo.heap.size+1=wa.heap.size:=by rw [p];simp
   have e0:aI (jR w wa w.heap.size (wo.heap.size+1) i.length (dB (c.take f)).2 [] d7):=aA (by
    obtain ⟨F,t,L⟩:=y.o.map;rw [<-p] at s k;rw [aQ5] at a3;have c5:w.heap.size<wo.heap.size:=by obtain ⟨f5,f1,a0,_⟩:=t;exact (zz.1 a0).1
    refine ⟨a6,⟨s.size,λi4 h4 _=>s.block i4 h4 (by simp)⟩,by simpa using a3,⟨F,uC t ?_,L⟩,(y.o.low.trans (k.mono g7)).grown s (by omega) (by simp)⟩;rw [s.block _ (by omega) (by simp),k.block _ c5])
   have a2:w.heap.size<wo.heap.size+1:=by omega
   have f0:d7.cell? ⟨wo.heap.size,1,none⟩=some (.slice P i.length T):=s.cell c1 (by simp);have e8:=aA p;have a4:=vF;clear a3 s;have i7:=aA a6;have k0:wo.heap.size+1<=wa.heap.size:=by omega
   clear p a6;go_wp2;clear f0 g9 c1 k;go_loopw [28] (λu wi=>∃e:Nat,e<=i.length/\u=.int .i64 e/\jR w wa w.heap.size (wo.heap.size+1) i.length (dY (i.take e) (dB (c.take f)).2).2 (dY (i.take e) (dB (c.take f)).2).1 wi) (λu _=>i.length-(intOf u).toNat);case atStart=>exact ⟨0,zr _,rfl,e0.o⟩
   case round=>
    obtain ⟨e,j3,rfl,j⟩:=hrel;have a5:=a4 (i.take e) (dB (c.take f)).2;have c9:=rG (c.take f);have c2:=tT c f;have d1:(i.take e).length=e:=by simp;omega
    by_cases c4:e<i.length
    ·have h0:(e:Int)<(i.length:Int):=by omega
     obtain ⟨i9,k3,rfl,b4,b6⟩:=e9.o.cell e c4;have f4:=aD j.low b4;have f7:=aD j.low b6;have c8:=aLt i (dB (c.take f)).2 e c4;have a8:=e7.o i[e] (zx _);generalize dY (i.take e) (dB (c.take f)).2=R at *;generalize i[e]=nd at *;obtain ⟨out,sn⟩:=R;obtain ⟨D,q⟩:=nd;simp only at f4 f7 j a5 a8;have c7:out.length=e:=by omega
     have h5:sn.length<=1000000:=by omega
     have j5:=j.keep.size;have g6:aB wr (wr.alloc (.cells #[.string D,.int .i64 q] 43)):=(Below.refl _ _).alloc (zy _) _;have E:=aA (λi5=>nH D q i5);have j7:=j.low.size;have j1:wo.heap.size+1<wr.heap.size:=by obtain ⟨⟨k6,h6⟩,_⟩:=j.cell (by omega);exact zq wr _ h6
     have b1:=aA j;have x:=aA c7;have b2:=aA c8;have e6:=aA a8;clear j c7 c8 a8 b4 b6 a5 a4 c9 c2 d1 g6;by_cases o:D.toList.isEmpty=true
     ·have i0:=e6.o o;obtain ⟨h7,h8⟩:=i0;have X:=aA (b2.o.trans (aQe o));rw [o] at E;clear o;go_wp2_with (first
       |(go_at_call 88;refine (aC d8).mono ?_;rintro H b0 ⟨i6,rfl,A,c6,n⟩;have c0:=e1.o.count n A c6 (zy _);have k4:=n.cell d3 (by simp;omega);have k5:=n.cell d4 (by simp;omega);have j0:b0.frozen? ⟨wr.heap.size,1,none⟩=false:=(by rw [zp (n.block _ (by simp;omega) (by simp;omega))];exact f8);have l:=c0.box (g:=wr.heap.size) (by omega) a2 (by omega) 1 (.int .i64 (nF sn q).2);obtain ⟨⟨d5,M⟩,⟨d6,N⟩⟩:=l.cell (by have:=x.o;omega);have b7:=l.row.frozenAt (e*2);have b8:=l.row.frozenAt (e*2+1);have r:=l.put (by have:=x.o;omega) a2 (by omega) (D,(nF sn q).2);rw [x.o] at M N r;have W:=aA r;clear A c6 n c0 l r)
       |(go_at_call 36;refine (aC E _).mono ?_;rintro H O ⟨rfl,k⟩;obtain ⟨d3,d4,C⟩:=fY k;have f8:O.frozen? ⟨wr.heap.size,1,none⟩=false:=(by rw [zp (k.block _ (by simp))];simp);have Y:=b1.o.below C;have j9:=C.size;have k1:wr.heap.size<O.heap.size:=(by have:=k.size;simp at this;omega);obtain ⟨F,t,L⟩:=Y.map;have d8:=aA (aQ0 w.heap.size F sn q O t L h7 h8 h5);have e1:=aA Y;clear k C Y t L))
      go_roundw;case rel=>exact ⟨e+1,by omega,by go_num,by rw [X.o];exact W.o⟩
      case measure=>simp [intOf];omega
     ·have a7:D.toList.isEmpty=false:=by simpa using o
      have X:=aA (b2.o.trans (aQf a7));rw [a7] at E;clear o a7;go_wp2_with (first
       |(go_at_call 36;refine (aC E _).mono ?_;rintro H O ⟨rfl,k⟩;obtain ⟨d3,d4,C⟩:=fY k;have l:=b1.o.below C;obtain ⟨⟨d5,M⟩,⟨d6,N⟩⟩:=l.cell (by have:=x.o;omega);have b7:=l.row.frozenAt (e*2);have b8:=l.row.frozenAt (e*2+1);have r:=l.put (by have:=x.o;omega) a2 (by omega) (D,q);rw [x.o] at M N r;have W:=aA r;clear k C l r))
      go_roundw;case rel=>exact ⟨e+1,by omega,by go_num,by rw [X.o];exact W.o⟩
      case measure=>simp [intOf];omega
    ·have h0:¬((e:Int)<(i.length:Int)):=by omega
     have c3:e=i.length:=by omega
     rw [c3,zh] at j;have p:=e8.o;have c5:w.heap.size<wo.heap.size:=by obtain ⟨F,t,_⟩:=y.o.map;obtain ⟨f5,f1,a0,_⟩:=t;exact (zz.1 a0).1
     have i8:wr.cell? ⟨wo.heap.size,0,none⟩=some (.bool Q):=j.keep.cell (by rw [p];simp) (by simp;omega);rw [p] at j;obtain ⟨⟨d5,M⟩,⟨d6,N⟩,b7,b8,I⟩:=y.o.next (by omega) (by omega) a1 e4.o j
     have e2:=aA I;clear I j p c3 a5 c9 c2 d1 a4;go_wp2;go_roundw;case rel=>exact ⟨f+1,_,by omega,by go_num,e2.o⟩
     case measure=>simp [intOf];omega
  ·have h2:¬((f:Int)<(c.length:Int)):=by omega
   have h1:f=c.length:=by omega
   rw [h1] at z;have y:=aA z;clear z;go_wp2;go_ret;exact ⟨_,rfl,_,y.o⟩
theorem aBo{w':World}{a:Option Addr}{cap:Nat}{P:List (Lt×Value)}{c:List Lt}(y:w'.ownsRow B 41 2 (.slice a c.length cap) P.length (bC P))(r:P.map zt=c)(q:∀i∈P,kI w' i.2 i.1.2)(t:c.length<=4398046511104):bP w' a c:=by
 subst r;obtain ⟨z,A,f,s⟩:=sJ y;simp at f;obtain ⟨rfl,_⟩:=f;refine ⟨t,λe u=>?_⟩;have x:e<P.length:=by simpa using u
 obtain ⟨l,rfl,n,g⟩:=s e x;obtain ⟨j,k,o,p⟩:=q P[e] (zx _);rw [o] at g;refine ⟨l,0,j,k,rfl,?_,?_,?_⟩
 ·simpa using n
 ·simpa using g
 ·simpa using p
structure uF(w:World)(c:List Lt)(v:Value)(nb:Nat)(Q:List (Lt×Value))(w':World):Prop where
 val:v=.slice (some ⟨nb,0,none⟩) (aT c).length (aT c).length
 made:Q.map zt=aT c
 row:w'.ownsRow w.heap.size 41 2 (.slice (some ⟨nb,0,none⟩) (aT c).length (aT c).length) (aT c).length (bC Q)
 atoms:∀q∈Q,w'.ownsRow w.heap.size 43 2 q.2 q.1.2.length (aV q.1.2)
 once:(Q.map λq=>q.2.ownBlock).Nodup
 apart:∀q∈Q,q.2.ownBlock≠some nb
 low:aB w w'
theorem aG6(a:Option Addr)(s:Nat)(c:List Lt)(w:World)(N:bP w a c)(C:∀g∈c,uD g.2)(O:aS c<=100000)(P:c.length<=100000):Calls zv 32 #[.slice a c.length s] w λi a0=>∃v p f,i=.returned v/\uF w c v p f a0:=by
 have G:=aA (aGe a s c w N);obtain ⟨L,M,t⟩:=rF c;have H:=aA (λa' cp' wx (X:bP wx a' (bV c))=>aQg a' cp' (bV c) wx X (λg Q=>C g (t g Q)) (by omega) (by omega));have a1:(bV c).length<=100000:=by omega
 clear L M t C O P;go_enter Tryz.func32,Tryz.ntmps32;go_wp2_with (first
  |(go_at_call 60;refine (aC H D E F I.o).mono ?_;rintro i a2 ⟨p,f,rfl,e⟩;have J:=aA e;clear e)
  |(go_at_call 61;refine (aC G).mono ?_;rintro i F ⟨v,r,rfl,j,x,n,l⟩;obtain ⟨D,E,rfl⟩:=aY n;have k:r.length=(bV c).length:=(by rw [<-j];simp);have I:=aA (aBo (w':=F) (B:=w.heap.size) (a:=D) (P:=r) (c:=bV c) (cap:=E) (by rw [<-k];exact n) j (λY R=>(x Y R).below l (zy _)) (by omega));rw [k];have q:=aA l;clear j x n l k))
 go_ret;have e:=J.o;have T:f.length=(bV c).length:=by have u:=congrArg zf e.made;rw [(rG _).1] at u;simpa using u
 have z:(aT c).length=(bV c).length:=by unfold aT;exact (rG _).1
 have y:=e.made;rw [zh] at y;have o:=q.o.size;have A:=e.row;rw [T,Nat.sub_self,zl,zn] at A;exact ⟨_,p,f,rfl,by rw [z];rfl,y,by rw [z];exact gS A o,λZ W=>gS (e.atoms Z W) o,e.once,e.apart,q.o.trans (e.low.mono o)⟩
def bN(B:Nat)(w:World)(v:Value)(out:List Lt):Prop:=∃c:List (Lt×Value),c.map zt=out/\w.ownsRow B 41 2 v c.length (bC c)/\(∀e∈c,vO w B e.2 e.1.2)/\((c.map Prod.snd).filterMap zu).Nodup
theorem bN.nil(B:Nat)(w:World):bN B w (.slice none 0 0) []:=⟨[],rfl,World.ownsRow_nil _ _ _ _,λq c=>by simp at c,by simp⟩
structure Mv(S:List TypeId)(B:Nat)(W W':World):Prop where
 os:W'.os=W.os
 tape:W'.tape=W.tape
 output:W'.output=W.output
 size:W.heap.size<=W'.heap.size
 keep:∀k o,W.heap[k]?=some o->(k<B\/∀cs T,o=.cells cs T (0,0)->T∉S)->W'.heap[k]?=some o
theorem Mv.refl(S:List TypeId)(B:Nat)(W:World):Mv S B W W:=⟨rfl,rfl,rfl,zy _,λ_ _ c _=>c⟩
theorem Mv.trans{S:List TypeId}{B:Nat}{U V W:World}(c:Mv S B U V)(k:Mv S B V W):Mv S B U W:=
 ⟨k.os.trans c.os,k.tape.trans c.tape,k.output.trans c.output,Nat.le_trans c.size k.size,λf g i e=>k.keep f g (c.keep f g i e) e⟩
theorem Mv.mono{S':List TypeId}(c:Mv S B U V)(f:∀t∈S,t∈S')(k:B'<=B):Mv S' B' U V:=
 ⟨c.os,c.tape,c.output,c.size,λi o g ho=>c.keep i o g (by
  rcases ho with ho|ho
  ·exact zd (by omega)
  ·exact zi (λcs T e j=>ho cs T e (f _ j)))⟩
theorem Mv.of_below(c:aB U V):Mv S B U V:=
 ⟨c.os,c.tape,c.output,c.size,λf _ e _=>(c.block f (zz.1 e).1).trans e⟩
theorem Mv.of_grown{k:Option Nat}(c:U.grownBy V k)(p:∀i,k=some i->B<=i/\∃g e,U.heap[i]?=some (.cells g e (0,0))/\e∈S):Mv S B U V:=
 ⟨c.os,c.tape,c.output,c.size,λj r f ho=>(c.block j (zz.1 f).1 (by
  intro l;obtain ⟨q,g,e,n,o⟩:=p j l.symm;rw [n] at f;cases f;rcases ho with ho|ho
  ·omega
  ·exact ho g e rfl o)).trans f⟩
theorem Mv.cells(g:Mv S B U V){k:Nat}{e:Array Value}{c:TypeId}(j:U.heap[k]?=some (.cells e c (0,0)))(i:c∉S):V.heap[k]?=some (.cells e c (0,0)):=
 g.keep k _ j (zi (λn l f=>by cases f;exact i))
theorem Mv.below(c:Mv S B U V)(i:B<=U.heap.size):Below B U V:=
 ⟨c.os,c.tape,c.output,c.size,λk g=>by
  obtain ⟨e,f⟩ : ∃e,U.heap[k]?=some e:=⟨_,Array.getElem?_eq_getElem (by omega)⟩;rw [c.keep k e f (zd g),f]⟩
theorem Mv.keepsFrom(c:Mv S B U V):KeepsFrom B' U V:=
 ⟨c.size,λi j _ f g=>c.keep i j f (zi (λl k e=>by subst e;cases g))⟩
theorem Mv.row(l:Mv S B U V){c:TypeId}{i:Nat}{v:Value}{n:Nat}{f:List Value}(s:U.ownsRow B' c i v n f)(q:c∉S):V.ownsRow B' c i v n f:=by
 obtain ⟨e,⟨rfl,o⟩|⟨g,j,k,rfl,p,r,t⟩⟩:=s
 ·exact ⟨e,zd ⟨rfl,o⟩⟩
 ·exact ⟨e,zi ⟨g,j,k,rfl,p,l.cells r q,t⟩⟩
theorem Mv.clause(e:Mv S B U V){v:Value}{c:List Lt}(j:bN B' U v c)(g:41∉S)(i:43∉S):bN B' V v c:=by obtain ⟨f,n,o,p,q⟩:=j;exact ⟨f,n,e.row o g,λl k=>e.row (p l k) i,q⟩
theorem Mv.boxed(f:Mv S B U V){e:Nat}{c:TypeId}{v:Value}(i:Boxed U e c v)(g:c∉S):Boxed V e c v:=f.cells i g
theorem Mv.kps(c:Mv S B U V):cK S U V:=⟨c.size,λ_ _ _ e f=>c.cells e f⟩
theorem cK.row(l:cK S U V){c:TypeId}{i:Nat}{v:Value}{n:Nat}{f:List Value}(s:U.ownsRow B' c i v n f)(q:c∉S):V.ownsRow B' c i v n f:=by
 obtain ⟨e,⟨rfl,o⟩|⟨g,j,k,rfl,p,r,t⟩⟩:=s
 ·exact ⟨e,zd ⟨rfl,o⟩⟩
 ·exact ⟨e,zi ⟨g,j,k,rfl,p,l.kc _ _ _ r q,t⟩⟩
theorem cK.clause(e:cK S U V){v:Value}{c:List Lt}(j:bN B' U v c)(g:41∉S)(i:43∉S):bN B' V v c:=by obtain ⟨f,n,o,p,q⟩:=j;exact ⟨f,n,e.row o g,λl k=>e.row (p l k) i,q⟩
theorem cK.boxed(f:cK S U V){e:Nat}{c:TypeId}{v:Value}(i:Boxed U e c v)(g:c∉S):Boxed V e c v:=f.kc _ _ _ i g
structure jS(c:List Lt):Prop where
 len:c.length<=8
 term:∀x∈c,aN x.2 1=true/\x.2.length<=60
theorem aG7{e:Nd}(c:dE e=true):e.1.size<=80:=by
 unfold dE at c;split at c
 ·rename_i f;have:e.1.size=0:=by
   simp [aM] at f;have:=congrArg zf f;rw [ByteArray.toList_eq] at this;simpa using this
  omega
 ·simp at c;exact (uR _ c.1).2
theorem aBp:∀(e:List Nd) (f:Nat),aN e f=true->∀c∈e,dE c=true
 |[],_,_,c,hn=>by simp at hn
 |x::r,f,h,c,hn=>by
  unfold aN at h;split at h
  ·cases h
  ·split at h
   ·rename_i g;rcases List.mem_cons.1 hn with rfl|hn
    ·exact g
    ·exact aBp r _ h c hn
   ·cases h
theorem jS.nodes{f:List Lt}(g:jS f){x:Lt}(k:x∈f):x.2.length<=60/\0<x.2.length/\∀e (g:e<x.2.length),x.2[e].1.size<=80:=by
 obtain ⟨c,i⟩:=g.term x k;refine ⟨i,?_,λe j=>aG7 (aBp _ _ c _ (zx j))⟩;cases hl:x.2 with
 |nil=>rw [hl] at c;simp [aN] at c
 |cons=>simp
theorem kL{e:List Lt}(c:bK e=true):jS e:=by simp only [bK,Bool.and_eq_true,cZ,decide_eq_true_eq,List.all_eq_true] at c;exact ⟨c.1.1.1,λx f=>yW (c.1.2 x f)⟩
theorem bN.lits{e:List Lt}(F:bN B w v e)(t:jS e):∃a i,v=.slice a e.length i/\e.length<=i/\bP w a e/\pL w a e:=by
 obtain ⟨k,L,j,z,W⟩:=F;subst L;obtain ⟨a,i,rfl⟩:=aY j;refine ⟨a,i,by simp,?_,aBo (P:=k) (by simpa using j) rfl (λy u=>?_) (by have:=t.len;omega),?_⟩
 ·obtain ⟨_,⟨c,C⟩|⟨E,q,A,c,_,_,n,_⟩⟩:=j
  ·simp [C]
  ·simp at c;obtain ⟨_,rfl⟩:=c;simpa using n
 ·obtain ⟨O,Q,G⟩:=t.nodes (x:=y.1) (by simp;exact ⟨_,u⟩);obtain ⟨p,r,c,J⟩:=tR (z y u) (by omega) (λg o=>by have:=G g o;omega);exact ⟨p,r,c,J⟩
 ·intro g o b T p R r D s;have I:g<k.length:=by simpa using o
  obtain ⟨M,q,c,n⟩:=sJ j;simp at c;obtain ⟨rfl,rfl⟩:=c;obtain ⟨E,l,_,f⟩:=n g I;rw [D] at l;simp at l;obtain ⟨rfl,rfl⟩:=l;rw [Nat.zero_add] at s;rw [s] at f;obtain ⟨_,⟨c,_⟩|⟨N,q,A,c,_,_,H,_⟩⟩:=z k[g] (zx _)
  ·rw [c] at f;cases f;omega
  ·rw [c] at f;cases f;exact H
section
attribute [local go_sem] Oper.semAt_some
def jT(c:List Lt)(e:Nat):Option Nd:=(c[e]?).bind λf=>f.2[0]?
def lV(f d:List Lt)(e m:Nat):List (Nat×Nat):=((ze m).filter λc=>decide (jT f e=jT d c)).map λc=>(e,c)
def mO(c d:List Lt)(m:Nat):List (Nat×Nat):=(ze m).flatMap λe=>lV c d e d.length
def gM(c d:List Lt):List (Nat×Nat):=mO c d c.length
theorem aBq(c d:List Lt)(m:Nat):mO c d (m+1)=mO c d m++lV c d m d.length:=by simp [mO,zm]
theorem yM(e d:List Lt)(c m:Nat):lV e d c (m+1)=lV e d c m++if jT e c=jT d m then [(c,m)] else []:=by
 unfold lV;rw [zm,List.filter_append,zo];congr 1
 by_cases f:jT e c=jT d m<;>simp [f]
theorem aQh(f d:List Lt){m e:Nat}(g:m<=e):mO f d m <+: mO f d e:=by
 obtain ⟨c,rfl⟩ : ∃c,e=m+c:=⟨e-m,by omega⟩;clear g;induction c with
 |zero=>exact zg _
 |succ c ih=>rw [<-Nat.add_assoc,aBq];exact ih.trans (zj _ _)
theorem aQi(f d:List Lt)(g:Nat){m e:Nat}(i:m<=e):lV f d g m <+: lV f d g e:=by
 obtain ⟨c,rfl⟩ : ∃c,e=m+c:=⟨e-m,by omega⟩;clear i;induction c with
 |zero=>exact zg _
 |succ c ih=>rw [<-Nat.add_assoc,yM];exact ih.trans (zj _ _)
theorem aQj{c:List Lt}{e f:Nat}(n:e<c.length)(o:f<d.length)(l:jT c e=jT d f):(gM c d)[(mO c d e++lV c d e f).length]?=some (e,f):=by have g:lV c d e (f+1) <+: lV c d e d.length:=aQi c d e (by omega);have i:mO c d (e+1) <+: gM c d:=aQh c d (by omega);rw [yM,aG l] at g;rw [aBq] at i;obtain ⟨p,j⟩:=g;obtain ⟨q,k⟩:=i;rw [<-k,<-j];simp
def bO:List TypeId:=[99,120,96]
structure oJ(B:Nat)(W:World)(b1 b2:Nat)(v1 v2:Value)(c d:List Lt):Prop where
 x1:Boxed W b1 29 v1
 x2:Boxed W b2 29 v2
 m1:bN B W v1 c
 m2:bN B W v2 d
theorem oJ.kept{W e:World}{f g:Nat}{j l:Value}{i:List Lt}(c:oJ B W f g j l i d)(k:cK bO W e):oJ B e f g j l i d:=
 ⟨k.boxed c.x1 (by decide),k.boxed c.x2 (by decide),k.clause c.m1 (by decide) (by decide),k.clause c.m2 (by decide) (by decide)⟩
theorem oJ.drawn{c:World}{e f:Nat}{j k:Value}{g:List Lt}(l:oJ B c e f j k g d)(i:Nat):oJ B (c.drewN i) e f j k g d:=
 l.kept (Mv.of_below (S:=bO) (B:=0) (aQ ⟨i,rfl⟩)).kps
theorem aG8{c:Nat->World->Prop}{f:Nat}(i:OwnFrom f c){e:Nat}{w:World}(j:c e w)(d:Nat):c e (w.drewN d):=
 i e w _ none j ⟨rfl,rfl,rfl,zy _,λ_ _ _=>rfl⟩ (λk g=>by cases g)
theorem aG9{c:List Lt}{e:Nat}(g:e<c.length)(f:0<c[e].2.length):jT c e=some c[e].2[0]:=by unfold jT;rw [zw g];simp [zw f]
theorem aGa(a1 q r B:Nat)(c1 c2:Value)(c d:List Lt)(e8:1<=a1)(x:jS c)(y:jS d)(L:World)(n:oJ B L q r c1 c2 c d):rO Fence.wide a1 zv 142 #[.pointer (some ⟨q,0,none⟩),.pointer (some ⟨r,0,none⟩)] (λ(a3:Nat×Nat) args _=>args=#[.int .i64 a3.1,.int .i64 a3.2]) bO (gM c d) L:=by
 intro f3 J c3 T e1 W a9;have e2:=x.len;have e3:=y.len;have a5:=aA W;have I:=aA T;clear W T;refine callsIn_of_wp Tryz.func142 rfl trivial ?_;simp only [Tryz.ntmps142,List.size_toArray,List.length_cons,List.length_nil,Nat.reduceAdd,Nat.reduceSub,Array.replicate_succ,Array.replicate_zero,List.push_toArray,List.append_toArray,List.nil_append,List.cons_append];obtain ⟨M,O,rfl,_,o,_⟩:=n.m1.lits x;obtain ⟨N,P,rfl,_,p,_⟩:=n.m2.lits y;have R:=n.x1.cell;have a4:=aA n;clear n o p;gi_wp2
 clear R;gi_loopw [8] (λk wr=>∃e:Nat,e<=c.length/\k=.int .i64 e/\oJ B wr q r (.slice M c.length O) (.slice N d.length P) c d/\J (mO c d e).length wr) (λk _=>c.length-(intOf k).toNat)
 case atStart=>exact ⟨0,zr _,by go_num,a4.o,by simpa [mO] using a9⟩
 case round=>
  obtain ⟨e,e4,rfl,g,j⟩:=hrel;have a8:=g.x2.cell;have l:=aA g;have i:=aA j;clear g j;by_cases t:e<c.length
  ·have b3:(e:Int)<(c.length:Int):=by omega
   gi_wp2
   clear a8;gi_loopw [13] (λk wr=>∃f:Nat,f<=d.length/\k=.int .i64 f/\oJ B wr q r (.slice M c.length O) (.slice N d.length P) c d/\J (mO c d e++lV c d e f).length wr) (λk _=>d.length-(intOf k).toNat)
   case atStart=>exact ⟨0,zr _,by go_num,l.o,by simpa [lV] using i.o⟩
   case round=>
    obtain ⟨f,e5,rfl,g,j⟩:=hrel;by_cases u:f<d.length
    ·have b4:(f:Int)<(d.length:Int):=by omega
     obtain ⟨c5,d3,a6,_,o,_⟩:=g.m1.lits x;obtain ⟨c6,d4,a7,_,p,_⟩:=g.m2.lits y;cases a6;cases a7;obtain ⟨d7,f4,c7,c8,rfl,b5,f2,a0⟩:=o.cell e t;obtain ⟨d8,f5,d0,d1,rfl,b6,f8,a2⟩:=p.cell f u;have C:=(x.nodes (zx t)).2.1;have D:=(y.nodes (zx u)).2.1;obtain ⟨d9,f6,rfl,b7,b8⟩:=a0.cell 0 C;obtain ⟨e0,f7,rfl,b9,c0⟩:=a2.cell 0 D;have Y:=aG9 t C;have Z:=aG9 u D;have R:=g.x1.cell;have d5:=g.x2.cell;generalize hxe:c[e].2[0]=xe at *;generalize hye:d[f].2[0]=ye at *;obtain ⟨F,E⟩:=xe;obtain ⟨H,G⟩:=ye;simp only [Nat.zero_mul,Nat.add_zero] at b7 b8 b9 c0;have e6:(0:Int)<(c[e].2.length:Int):=by omega
     have e7:(0:Int)<(d[f].2.length:Int):=by omega
     clear hxe hye C D a0 a2 o p;generalize c[e].2.length=m1 at *;generalize d[f].2.length=m2 at *;have f0:=tQ F H E G;have e9:=tO;have A:=tP (F,E) (H,G);simp only at A;have l:=aA g;have i:=aA j;clear g j b5 b6;by_cases s:(F,E)=(H,G)
     ·rw [fH s] at A;have z:zv.follows .mixedOrders=true:=by kernel_rfl
      have X:jT c e=jT d f:=by rw [Y,Z,s]
      gi_wp2
      refine aDi [_,_,_,_,_,_,_,_,_,_,_,_,_,_,_,_,_,_,_] [_,_,_] rfl (aK8 rfl) z (by kernel_rfl) (by kernel_rfl) ?_;repeat (gi_big_quiet_step (fail))
      refine wpQuietIn_nil ?_;rintro _ ⟨nq,rfl⟩;obtain ⟨d6,f9,c9,d2,f1,b0⟩:=a5.o _ (e,f) #[.int .i64 e,.int .i64 f] (wr.drewN nq) (aQj t u X) (aG8 I.o i.o nq) rfl;refine wpAnyIn_ready (rs:=[19]) (by kernel_rfl) (by simp) ?_;refine AllReadyIn.cons rfl (λK hK=>?_) AllReadyIn.nil;go_simp;refine b0.mono ?_;rintro Q c4 (⟨rfl,hJ3,hk3⟩|⟨rfl,hJx3,_⟩)
      ·refine hK _ _ ?_;clear hK K;refine wpAnyIn_ready (rs:=[20]) (by kernel_rfl) (by simp) ?_;refine AllReadyIn.cons rfl (λK hK=>?_) AllReadyIn.nil;go_simp;refine hK _ _ ?_;clear hK K;refine wpAnyIn_ready (rs:=[21]) (by kernel_rfl) (by simp) ?_;refine AllReadyIn.cons rfl (λK hK=>?_) AllReadyIn.nil;go_simp;refine hK _ _ ?_;clear hK K;refine wpAnyIn_done (by kernel_rfl) ?_ _;gi_wp2
       go_roundw;case rel=>exact ⟨f+1,by omega,by go_num,(l.o.drawn nq).kept hk3.1,by rw [yM,aG X,<-List.append_assoc,List.length_append];exact hJ3⟩
       case measure=>simp [intOf];omega
      ·refine hK _ _ ?_;clear hK K;refine wpAnyIn_ready (rs:=[20]) (by kernel_rfl) (by simp) ?_;refine AllReadyIn.cons rfl (λK hK=>?_) AllReadyIn.nil;go_simp;refine hK _ _ ?_;clear hK K;refine wpAnyIn_ready (rs:=[21]) (by kernel_rfl) (by simp) ?_;refine AllReadyIn.cons rfl (λK hK=>?_) AllReadyIn.nil;go_simp;refine hK _ _ ?_;clear hK K;refine wpAnyIn_done (by kernel_rfl) ?_ _;gi_wp2
       refine bodyPost_ret (results_none rfl _ _ _) rfl ?_;exact ⟨⟨_,rfl⟩,.inr ⟨_,hJx3⟩⟩
     ·rw [gH s] at A;have z:zv.follows .mixedOrders=true:=by kernel_rfl
      gi_wp2
      refine aDi [_,_,_,_,_,_,_,_,_,_,_,_,_,_,_,_,_,_,_] [_,_,_] rfl (aK8 rfl) z (by kernel_rfl) (by kernel_rfl) ?_;repeat (gi_big_quiet_step (fail))
      refine wpQuietIn_nil ?_;rintro _ ⟨nq,rfl⟩;refine wpAnyIn_ready (rs:=[19]) (by kernel_rfl) (by simp) ?_;refine AllReadyIn.cons rfl (λK hK=>?_) AllReadyIn.nil;go_simp;refine ⟨λ_ _=>trivial,hK _ _ ?_⟩;clear hK K;refine wpAnyIn_ready (rs:=[20]) (by kernel_rfl) (by simp) ?_;refine AllReadyIn.cons rfl (λK hK=>?_) AllReadyIn.nil;go_simp;refine hK _ _ ?_;clear hK K;refine wpAnyIn_ready (rs:=[21]) (by kernel_rfl) (by simp) ?_;refine AllReadyIn.cons rfl (λK hK=>?_) AllReadyIn.nil;go_simp;refine hK _ _ ?_;clear hK K;refine wpAnyIn_done (by kernel_rfl) ?_ _;gi_wp2
      go_roundw;case rel=>exact ⟨f+1,by omega,by go_num,l.o.drawn nq,by rw [yM,aF (by rw [Y,Z];intro Q;exact s (Option.some.inj Q)),zn];exact aG8 I.o i.o nq⟩
      case measure=>simp [intOf];omega
    ·have b4:¬(f:Int)<(d.length:Int):=by omega
     have b2:f=d.length:=by omega
     have l:=aA g;have i:=aA j;clear g j;gi_wp2
     go_roundw;case rel=>exact ⟨e+1,by omega,by go_num,l.o,by rw [aBq,<-b2];exact i.o⟩
     case measure=>simp [intOf];omega
  ·have b3:¬(e:Int)<(c.length:Int):=by omega
   have b1:e=c.length:=by omega
   gi_wp2
   go_end0;exact ⟨⟨_,rfl⟩,.inl (by unfold gM;rw [<-b1];exact i.o)⟩
end
theorem aQk(g n:Bool)(f j:Option Addr)(k o l:Nat)(e i:List Nd)(w:World)(q:cS w f e)(r:cS w j i)(y:w.cell? ⟨l,0,none⟩=some (.bool n))(z:w.cell? ⟨l,1,none⟩=some (.slice j i.length o)):Calls zv 95 #[.agg #[.bool g,.slice f e.length k],.pointer (some ⟨l,0,none⟩)] w λp A=>p=.returned (.bool (lP (g,e) (n,i)))/\aB w A:=by
 have c:aB w (w.alloc (.cells #[.bool g,.slice f e.length k] 41)):=(Below.refl _ _).alloc (zy _) _;have t:=aA (aBt g n f j k o e i _ (q.below c (zy _)) (r.below c (zy _)));have C:=aD c y;have D:=aD c z;have u:=aA c;clear c q r;go_enter Tryz.func95,Tryz.ntmps95;go_wp2_with (go_at_call 48;refine (aC t).mono ?_;rintro p E ⟨rfl,s⟩;have x:=aA (u.o.trans (s.mono (by simp)));clear s);go_ret;exact ⟨rfl,x.o⟩
theorem aQl(a t:Option Addr)(Z F o:Nat)(e:List (Lt×Value))(i:Bool)(g:List Nd)(w:World)(a9:e.length<=4398046511104)
  (J:∀c (a8:c<e.length),∃p,a=some ⟨p,0,none⟩/\w.cell? ⟨p,c*2,none⟩=some (.bool e[c].1.1)/\w.cell? ⟨p,c*2+1,none⟩=some e[c].2)
  (H:∀P∈e,kI w P.2 P.1.2) (G:cS w t g) (a0:w.cell? ⟨o,0,none⟩=some (.bool i)) (a1:w.cell? ⟨o,1,none⟩=some (.slice t g.length F)):Calls zv 111 #[.slice a e.length Z,.func (Fn.func 95) #[] #[.pointer (some ⟨o,0,none⟩)]] w λu a4=>∃Q:Int,u=.returned (.int .i64 Q)/\decide (0<=Q)=fI (e.map zt) (i,g)/\aB w a4:=by
 have Y:=aA J;have X:=aA H;have W:=aA G;clear J H G;go_enter Tryz.func111,Tryz.ntmps111;go_wp2;go_loopw [8] (λC wr=>∃c:Nat,c<=e.length/\C=.int .i64 c/\fI ((e.map zt).take c) (i,g)=false/\aB w wr) (λC _=>e.length-(intOf C).toNat);case atStart=>exact ⟨0,zr _,rfl,rfl,Below.refl _ _⟩
 case round=>
  obtain ⟨c,b0,rfl,N,f⟩:=hrel;have s:=aA N;clear N;by_cases M:c<e.length
  ·obtain ⟨p,rfl,y,n⟩:=Y.o c M;obtain ⟨a2,a3,O,A⟩:=X.o e[c] (zx _);rw [O] at n;have q:=aGc e (i,g) c M;rw [s.o,Bool.false_or] at q;have z:=aGd e (i,g) (c+1);rw [q] at z;generalize e[c].1=x at *;obtain ⟨R,T⟩:=x;simp only at y n A;have a6:=aD f y;have a7:=aD f n;have k:=aA (aQk R i a2 t a3 F o T g wr (A.below f (zy _)) (W.o.below f (zy _)) (aD f a0) (aD f a1));have D:=aA q;have E:=aA z;have l:=aA f;have I:=f.size;clear q z f O A y n;cases hl:lP (R,T) (i,g)
   ·rw [hl] at k D;clear hl;go_wp2_with (go_at_call 95;refine (aC k).mono ?_;rintro u a5 ⟨rfl,j⟩;have r:=aA (l.o.trans (j.mono I));clear j);go_roundw;case rel=>exact ⟨c+1,by omega,by go_num,D.o,r.o⟩
    case measure=>simp [intOf];omega
   ·rw [hl] at k E;clear hl;go_wp2_with (go_at_call 95;refine (aC k).mono ?_;rintro u a5 ⟨rfl,j⟩;have r:=aA (l.o.trans (j.mono I));clear j);go_ret;exact ⟨_,rfl,by rw [E.o (by first|rfl|trivial)];simp,r.o⟩
  ·have L:(e.map zt).take c=e.map zt:=List.take_of_length_le (by simp;omega);rw [L] at s;have l:=aA f;clear L f;go_wp2;go_ret;exact ⟨_,rfl,by rw [s.o];rfl,l.o⟩
theorem aQm(a g:Option Addr)(n l e:Nat)(c:List (Lt×Value))(j:Bool)(f:List Nd)(w:World)(D:c.length<=4398046511104)
  (u:∀k (F:k<c.length),∃i,a=some ⟨i,0,none⟩/\w.cell? ⟨i,k*2,none⟩=some (.bool c[k].1.1)/\w.cell? ⟨i,k*2+1,none⟩=some c[k].2)
  (s:∀y∈c,kI w y.2 y.1.2) (r:cS w g f) (p:w.cell? ⟨e,0,none⟩=some (.bool j)) (q:w.cell? ⟨e,1,none⟩=some (.slice g f.length l)):Calls zv 90 #[.slice a c.length n,.func (Fn.func 95) #[] #[.pointer (some ⟨e,0,none⟩)]] w λo E=>o=.returned (.bool (fI (c.map zt) (j,f)))/\aB w E:=by
 have z:=aA (aQl a g n l e c j f w D u s r p q);clear u s r p q;go_enter Tryz.func90,Tryz.ntmps90;go_wp2_with (go_at_call 111;refine (aC z).mono ?_;rintro o H ⟨G,rfl,x,t⟩;have C:=aA x;have A:=aA t;clear x t);go_ret;exact ⟨cX C.o,A.o⟩
def qG(c:List Lt)(f:Nat):Bool:=(ze f).any λe=>fI (c.take e) (!(c.getD e default).1,(c.getD e default).2)
def jK(c:List Lt):Bool:=qG c c.length
theorem aQn(c:List Lt)(e:Nat)(f:e<c.length):qG c (e+1)=(qG c e || fI (c.take e) (!c[e].1,c[e].2)):=by unfold qG;rw [zm,List.any_append];simp [f]
theorem aQo(c:List Lt){k:Nat}(i:k<=c.length)(e:qG c k=true):jK c=true:=by unfold jK qG at *;rw [List.any_eq_true] at *;obtain ⟨j,g,f⟩:=e;exact ⟨j,List.mem_range.2 (zk (List.mem_range.1 g) i),f⟩
theorem aBr(a:Option Addr)(s:Nat)(e:List (Lt×Value))(w:World)(b1:e.length<=100000)(b0:e.length<=s)
  (N:∀c (a9:c<e.length),∃p,a=some ⟨p,0,none⟩/\w.cell? ⟨p,c*2,none⟩=some (.bool e[c].1.1)/\w.cell? ⟨p,c*2+1,none⟩=some e[c].2)
  (M:∀u∈e,kI w u.2 u.1.2):Calls zv 70 #[.slice a e.length s] w λz a5=>z=.returned (.bool (jK (e.map zt)))/\aB w a5:=by
 have I:=aA N;have H:=aA M;clear N M;go_enter Tryz.func70,Tryz.ntmps70;go_wp2;go_loopw [8] (λG wr=>∃c:Nat,c<=e.length/\G=.int .i64 c/\qG (e.map zt) c=false/\aB w wr) (λG _=>e.length-(intOf G).toNat);case atStart=>exact ⟨0,zr _,rfl,rfl,Below.refl _ _⟩
 case round=>
  obtain ⟨c,b3,rfl,r,k⟩:=hrel;have L:=aA r;clear r;by_cases O:c<e.length
  ·obtain ⟨p,rfl,A,t⟩:=I.o c O;obtain ⟨f,g,P,D⟩:=H.o e[c] (zx _);rw [P] at t;have E:=aQn (e.map zt) c (by simpa using O);rw [L.o,Bool.false_or] at E;have F:qG (e.map zt) (c+1)=fI ((e.map zt).take c) (!e[c].1.1,e[c].1.2):=by simpa using E
   generalize e[c].1=x at *;obtain ⟨i,j⟩:=x;simp only at A t D F;have a7:=aD k A;have a8:=aD k t;have a0:=k.size;have b5:(c:Int)<(e.length:Int):=by omega
   have b4:(c:Int)<=(s:Int):=by omega
   have n:aB w ((wr.alloc (.cells #[.bool i,.slice f j.length g] 41)).alloc (.cells #[.bool !i,.slice f j.length g] 41)):=(k.alloc a0 _).alloc (by simp;omega) _;have C:((wr.alloc (.cells #[.bool i,.slice f j.length g] 41)).alloc (.cells #[.bool !i,.slice f j.length g] 41)).heap[wr.heap.size+1]?=some (.cells #[.bool !i,.slice f j.length g] 41):=by have:=World.alloc_heap_new (wr.alloc (.cells #[.bool i,.slice f j.length g] 41)) (.cells #[.bool !i,.slice f j.length g] 41);rwa [World.size_alloc] at this
   have Q:(e.take c).length=c:=by simp;omega
   have o:=aA (aQm (some ⟨p,0,none⟩) f s g (wr.heap.size+1) (e.take c) (!i) j ((wr.alloc (.cells #[.bool i,.slice f j.length g] 41)).alloc (.cells #[.bool !i,.slice f j.length g] 41)) (by omega)
    (λa4 b2=>by
     obtain ⟨W,X,Y,Z⟩:=I.o a4 (by omega);rw [List.getElem_take];exact ⟨W,X,aD n Y,aD n Z⟩)
    (λu a3=>(H.o u (List.mem_of_mem_take a3)).below n (zy _)) (D.below n (zy _)) (wD C).1 (wD C).2)
   rw [Q,List.map_take,<-F] at o;have l:=aA n;have J:=aA (aQo (e.map zt) (k:=c+1) (by simp;omega));clear E F n C Q A t D P k;cases hi:qG (e.map zt) (c+1)
   ·rw [hi] at o;have R:=aA hi;clear hi;go_wp2_with (first
     |(go_at_call 90;refine (aC o).mono ?_;rintro z a6 ⟨rfl,q⟩;have y:=aA (l.o.trans (q.mono (by have:=l.o.size;simpa using this)));clear q)
     |go_in)
    go_roundw;case rel=>exact ⟨c+1,by omega,by go_num,R.o,y.o⟩
    case measure=>simp [intOf];omega
   ·have T:=aA (J.o hi);rw [hi] at o;clear hi J;go_wp2_with (first
     |(go_at_call 90;refine (aC o).mono ?_;rintro z a6 ⟨rfl,q⟩;have y:=aA (l.o.trans (q.mono (by have:=l.o.size;simpa using this)));clear q)
     |go_in)
    go_ret;exact ⟨by rw [T.o];rfl,y.o⟩
  ·have a2:c=(e.map zt).length:=by simp;omega
   have l:=aA k;clear k;go_wp2;go_ret;have a1:jK (e.map zt)=false:=by have r:=L.o;rw [a2] at r;exact r
   exact ⟨by rw [a1];rfl,l.o⟩
