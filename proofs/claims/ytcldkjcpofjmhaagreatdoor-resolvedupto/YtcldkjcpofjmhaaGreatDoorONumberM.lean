import Derived.Test.YtcldkjcpofjmhaaGreatDoorONumM
import Derived.Test.YtcldkjcpofjmhaaGreatDoorLMemM
import Derived.Deep.SlicePairs
import Derived.SizedLaws
import Derived.Test.YtcldkjcpofjmhaaGreatDoorRows
open Array renaming getElem?_eq_some_iff→zx
open List renaming range→zw,getElem?_eq_getElem→zu,replicate→zt,mem_append→zq,length_append→zp,take_succ_eq_append_getElem→zo,mem_map→zn,mem_cons→zj,getElem_mem→zh,take_of_length_le→zf,mem_range→zd,mem_cons_self→za,length→z1
open Nat renaming le_refl→zy,zero_le→ze,add_assoc→zc,le_trans→z0
namespace Go.Proofs.YtcldkjcpofjmhaaGreatDoor
open _root_.Go.Proofs.Tryz renaming prog→zz,underlying22→zs,underlying37→zr,underlying36→zm,underlying39→zk
open Value renaming ownBlock→zv
open World renaming block_lt_of_cell?→zi,frozen?_of_block→zg
set_option maxHeartbeats 4000000
set_option maxRecDepth 100000
section
open Go.RowKit Go.Shelf Go.WideMaps
structure kO(mp:Nat)(a b:World):Prop where
 size:a.heap.size<=b.heap.size
 block:∀k,k<a.heap.size->k≠mp->b.heap[k]?=a.heap[k]?
theorem kO.trans{mp:Nat}{a b c:World}(h:kO mp a b)(k:kO mp b c):kO mp a c:=⟨z0 h.size k.size,λi hi hm=>by rw [k.block i (Nat.lt_of_lt_of_le hi h.size) hm,h.block i hi hm]⟩
theorem kO.of_below{mp:Nat}{a b:World}(h:Below a.heap.size a b):kO mp a b:=⟨h.size,λk hk _=>h.block k hk⟩
theorem kO.of_grown{mp:Nat}{a b:World}(h:a.grownBy b (some mp)):kO mp a b:=⟨h.size,λk hk hm=>h.block k hk (λe=>hm (by simpa using e))⟩
theorem kO.own{mp:Nat}{a b:World}{B:Nat}{e:TypeId}{size:Nat}{v:Value}{n:Nat}{xs:List Value}(h:kO mp a b)(ho:a.ownsRow B e size v n xs)(hm:v.ownBlock≠some mp):b.ownsRow B e size v n xs:=by
 obtain ⟨h1,⟨rfl,h2⟩ | ⟨g,cap,cur,rfl,hb,hh,hr⟩⟩:=ho
 ·exact ⟨h1,Or.inl ⟨rfl,h2⟩⟩
 ·refine ⟨h1,Or.inr ⟨g,cap,cur,rfl,hb,?_,hr⟩⟩;rw [h.block g (zx.1 hh).1 (λe=>hm (by simp [zv,e])),hh]
theorem kO.cell{mp:Nat}{a b:World}(h:kO mp a b){p:Addr}{v:Value}(hc:a.cell? p=some v)(hm:p.block≠mp):b.cell? p=some v:=
 (World.cell?_of_block (h.block _ (zi a p hc) hm)).trans hc
theorem uN{mp n:Nat}{D:DataW Unit}{a b:World}(h:a.ownsMap zz 3 fN mp n D)(hb:b.heap[mp]?=a.heap[mp]?):b.ownsMap zz 3 fN mp n D:=by obtain ⟨es,clock,hh,hr⟩:=h;exact ⟨es,clock,by rw [hb];exact hh,hr⟩
def uO(l:List Nd):Prop:=∀n∈l,aF n=true->0<=n.2/\n.2<=1000000000
structure uP(w:World)(mp nb:Nat)(c:List Lt)(k:Nat)(Q:List (Lt×Value))(wr:World):Prop where
 map:∃D,wr.ownsMap zz 3 fN mp (cL (c.take k)).2.length D/\oA D (cL (c.take k)).2
 row:wr.ownsRow w.heap.size 39 2 (.slice (some ⟨nb,0,none⟩) c.length c.length) c.length (bA (Q++zt (c.length-Q.length) rR))
 made:Q.map Prod.fst=(cL (c.take k)).1
 atoms:∀q∈Q,wr.ownsRow w.heap.size 36 2 q.2 q.1.2.length (aH q.1.2)
 once:(Q.map λq=>q.2.ownBlock).Nodup
 apart:∀q∈Q,q.2.ownBlock≠some nb
 low:Below w.heap.size w wr
structure jJ(w wa:World)(mp ab m:Nat)(sn:List Int)(out:List Nd)(wi:World):Prop where
 abe:ab=wa.heap.size
 keep:kO mp wa wi
 row:wi.ownsRow ab 36 2 (.slice (some ⟨ab,0,none⟩) m m) m (aH (out++zt (m-out.length) yU))
 map:∃D,wi.ownsMap zz 3 fN mp sn.length D/\oA D sn
 low:Below w.heap.size w wi
theorem jJ.below{w wa wi wx:World}{mp ab m:Nat}{sn:List Int}{out:List Nd}(h:jJ w wa mp ab m sn out wi)(k:Below wi.heap.size wi wx):jJ w wa mp ab m sn out wx:=by obtain ⟨D,h1,h2⟩:=h.map;refine ⟨h.abe,h.keep.trans (kO.of_below k),aU h.row k (zy _),⟨D,uN h1 (k.block mp ?_),h2⟩,h.low.trans (k.mono h.low.size)⟩;obtain ⟨es,clock,hh,_⟩:=h1;exact (zx.1 hh).1
theorem jJ.count{w wa wi wx:World}{mp ab m:Nat}{sn sn':List Int}{out:List Nd}{D:DataW Unit}(h:jJ w wa mp ab m sn out wi)(hg:wi.grownBy wx (some mp))(h1:wx.ownsMap zz 3 fN mp sn'.length D)(h2:oA D sn')(hw:w.heap.size<=mp):jJ w wa mp ab m sn' out wx:=by obtain ⟨D0,h3,_⟩:=h.map;exact ⟨h.abe,h.keep.trans (kO.of_grown hg),h.row.kept hg (Or.inr (aG0 h.row h3)),⟨D,h1,h2⟩,h.low.grown hg h.low.size λk e=>by simp at e;omega⟩
theorem jJ.box{w wa wi:World}{mp ab m g:Nat}{sn:List Int}{out:List Nd}(h:jJ w wa mp ab m sn out wi)(hg:ab<g)(hmp:mp<ab)(hw:w.heap.size<=ab)(j:Nat)(u:Value):jJ w wa mp ab m sn out (wi.setCell ⟨g,j,none⟩ u):=by obtain ⟨D,h1,h2⟩:=h.map;have e:=h.abe;refine ⟨e,⟨by have:=h.keep.size;simpa [World.setCell] using this,λk hk hm=>by rw [heap_setCell_other _ _ _ _ (by simp;omega)];exact h.keep.block k hk hm⟩,pX h.row (by simp [zv];omega) u,⟨D,uN h1 (heap_setCell_other _ _ _ _ (by simp;omega)),h2⟩,h.low.setCell (by simp;omega) u⟩
theorem jJ.put{w wa wi:World}{mp ab m:Nat}{sn:List Int}{out:List Nd}(h:jJ w wa mp ab m sn out wi)(hl:out.length<m)(hmp:mp<ab)(hw:w.heap.size<=ab)(x:Nd) :
  jJ w wa mp ab m sn (out++[x]) ((wi.setCell ⟨ab,out.length*2,none⟩ (.string x.1)).setCell ⟨ab,out.length*2+1,none⟩ (.int .i64 x.2)):=by
 obtain ⟨D,h1,h2⟩:=h.map;have e:=h.abe;have r1:=(h.row.stored (out.length*2) (.string x.1)).1;have r2:=(r1.stored (out.length*2+1) (.int .i64 x.2)).1;refine ⟨e,⟨by have:=h.keep.size;simpa [World.setCell] using this,λk hk hm=>?_⟩,?_,⟨D,uN h1 ?_,h2⟩,(h.low.setCell (by simpa using hw) _).setCell (by simpa using hw) _⟩
 ·rw [heap_setCell_other _ _ _ _ (by simp;omega),heap_setCell_other _ _ _ _ (by simp;omega)];exact h.keep.block k hk hm
 ·rw [aPi _ _ _ (by simp;omega),aFz _ _ _ _ hl] at r2;simpa using r2
 ·rw [heap_setCell_other _ _ _ _ (by simp;omega),heap_setCell_other _ _ _ _ (by simp;omega)]
theorem jJ.cell{w wa wi:World}{mp ab m:Nat}{sn:List Int}{out:List Nd}(h:jJ w wa mp ab m sn out wi)(hl:out.length<m):(∃u,wi.cell? ⟨ab,out.length*2,none⟩=some u)/\(∃u,wi.cell? ⟨ab,out.length*2+1,none⟩=some u):=by
 have hlen:(aH (out++zt (m-out.length) yU)).length=m*2:=by rw [pR];simp;omega
 constructor
 ·rw [h.row.cellAt _ (by omega)];exact ⟨_,zu (by omega)⟩
 ·rw [h.row.cellAt _ (by omega)];exact ⟨_,zu (by omega)⟩
theorem aQ4(w:World)(x y:Value)(T:TypeId):(w.alloc (.cells #[x,y] T)).cell? ⟨w.heap.size,0,none⟩=some x/\(w.alloc (.cells #[x,y] T)).cell? ⟨w.heap.size,1,none⟩=some y:=by simp
theorem aQ5{st:List Nd×List Int}{s:ByteArray}{x:Int}(hv:s.toList.isEmpty=true):cZ st (s,x)=(st.1++[(s,(mT st.2 x).2)],(mT st.2 x).1):=by
 have hvb:aF (s,x)=true:=hv;unfold cZ mT;rw [hvb];by_cases hp:eF st.2 x<0
 ·simp [hp]
 ·simp [hp]
theorem aQ6{st:List Nd×List Int}{s:ByteArray}{x:Int}(hv:s.toList.isEmpty=false):cZ st (s,x)=(st.1++[(s,x)],st.2):=by have hvb:aF (s,x)=false:=hv;unfold cZ;rw [hvb];simp
theorem aBt{w:World}{B:Nat}{e:TypeId}{size:Nat}{v:Value}{n g:Nat}{xs:List Value}(h:w.ownsRow B e size v n xs)(hv:v.ownBlock=some g):g<w.heap.size:=by
 obtain ⟨_,⟨rfl,_⟩ | ⟨g',cap,cur,rfl,_,hg,_⟩⟩:=h
 ·simp [zv] at hv
 ·simp [zv] at hv;subst hv;exact (zx.1 hg).1
theorem uP.next{w wo wi:World}{o:Obj}{mp nb k:Nat}{c:List Lt}{Q:List (Lt×Value)}{xb:Bool}{xl:List Nd}(h:uP w mp nb c k Q wo)(hnb:nb≠mp)(hw:w.heap.size<=nb)(hk:k<c.length)
  (hst:cL (c.take (k+1))=eB (cL (c.take k)) (xb,xl))
  (hi:jJ w (wo.alloc o) mp (wo.heap.size+1) xl.length (cE xl (cL (c.take k)).2).2 (cE xl (cL (c.take k)).2).1 wi) :
  (∃u,wi.cell? ⟨nb,k*2,none⟩=some u)/\(∃u,wi.cell? ⟨nb,k*2+1,none⟩=some u)/\wi.frozen? ⟨nb,k*2,none⟩=false/\wi.frozen? ⟨nb,k*2+1,none⟩=false/\
  uP w mp nb c (k+1) (Q++[((xb,(cE xl (cL (c.take k)).2).1),.slice (some ⟨wo.heap.size+1,0,none⟩) xl.length xl.length)]) ((wi.setCell ⟨nb,k*2,none⟩ (.bool xb)).setCell ⟨nb,k*2+1,none⟩ (.slice (some ⟨wo.heap.size+1,0,none⟩) xl.length xl.length)):=by
 have hq:Q.length=k:=by have h1:=congrArg z1 h.made;rw [(pA _).1] at h1;simp at h1;omega
 have hal:Below wo.heap.size wo (wo.alloc o):=(Below.refl _ _).alloc (zy _) _;have hrl:=(sT xl (cL (c.take k)).2).1;have hnlt:nb<wo.heap.size:=aBt h.row rfl;have row1:=hi.keep.own (aU h.row hal (zy _)) (by simp [zv];exact hnb);have hlen:(bA (Q++zt (c.length-Q.length) rR)).length=c.length*2:=by
  have:∀P:List (Lt×Value),(bA P).length=P.length*2:=by
   intro P;induction P with
   | nil=>rfl
   | cons x r ih=>rw [yV];simp [ih];omega
  rw [this];simp;omega
 obtain ⟨D,hm1,hm2⟩:=hi.map;refine ⟨?_,?_,row1.frozenAt _,row1.frozenAt _,?_⟩
 ·rw [row1.cellAt _ (by omega)];exact ⟨_,zu (by omega)⟩
 ·rw [row1.cellAt _ (by omega)];exact ⟨_,zu (by omega)⟩
 have r1:=(row1.stored (k*2) (.bool xb)).1;have r2:=(r1.stored (k*2+1) (.slice (some ⟨wo.heap.size+1,0,none⟩) xl.length xl.length)).1;have hcs:=aPj (Q++zt (c.length-Q.length) rR) k ((xb,(cE xl (cL (c.take k)).2).1),.slice (some ⟨wo.heap.size+1,0,none⟩) xl.length xl.length) (by simp;omega);refine ⟨⟨D,?_,?_⟩,?_,?_,?_,?_,?_,?_⟩
 ·rw [hst];exact uN hm1 (by rw [heap_setCell_other _ _ _ _ (by simpa using λe=>hnb e.symm),heap_setCell_other _ _ _ _ (by simpa using λe=>hnb e.symm)])
 ·rw [hst];exact hm2
 ·rw [show (bA (Q++zt (c.length-Q.length) rR)).set (k*2) (.bool xb)=(bA (Q++zt (c.length-Q.length) rR)).set (k*2) (.bool (((xb,(cE xl (cL (c.take k)).2).1),(Value.slice (some ⟨wo.heap.size+1,0,none⟩) xl.length xl.length)):Lt×Value).1.1) from rfl] at r2;rw [hcs] at r2;have hsf:=aFz Q rR ((xb,(cE xl (cL (c.take k)).2).1),.slice (some ⟨wo.heap.size+1,0,none⟩) xl.length xl.length) c.length (by omega);rw [hq] at hsf;rw [hq,hsf] at r2;simpa [hq] using r2
 ·rw [hst,List.map_append,h.made];rfl
 ·intro q hqm;rcases zq.1 hqm with hqm | hqm
  ·obtain ⟨D0,hm0,_⟩:=h.map;have a1:=hi.keep.own (aU (h.atoms q hqm) hal (zy _)) (aG0 (h.atoms q hqm) hm0);have hap:=h.apart q hqm;exact pX (pX a1 (by simpa using λe=>hap e.symm) _) (by simpa using λe=>hap e.symm) _
  ·simp at hqm;subst hqm;have a1:=dI hi.row (show w.heap.size<=wo.heap.size+1 by have:=h.low.size;omega);rw [show xl.length-(cE xl (cL (c.take k)).2).1.length=0 by omega] at a1;simp only [List.replicate_zero,List.append_nil] at a1;simp only [hrl];exact pX (pX a1 (by simp [zv];omega) _) (by simp [zv];omega) _
 ·rw [List.map_append,List.nodup_append];refine ⟨h.once,by simp,?_⟩;intro a ha b hb;simp at hb;subst hb;simp only [zn] at ha;obtain ⟨q,hqm,rfl⟩:=ha;intro e;have:=aBt (g:=wo.heap.size+1) (h.atoms q hqm) e;omega
 ·intro q hqm;rcases zq.1 hqm with hqm | hqm
  ·exact h.apart q hqm
  ·simp at hqm;subst hqm;simp [zv];omega
 ·exact (hi.low.setCell (by simpa using hw) _).setCell (by simpa using hw) _
theorem aQ7(a:Option Addr)(cp:Nat)(c:List Lt)(w:World)(h:bD w a c)(hv:∀l∈c,uO l.2)(hc:aK c<=100000)(hl:c.length<=100000) :
  Calls zz 84 #[.slice a c.length cp] w λe w'=>∃(nb:Nat) (Q:List (Lt×Value)),e=.returned (.slice (some ⟨nb,0,none⟩) c.length c.length)/\uP w w.heap.size nb c c.length Q w':=by
 obtain ⟨iL,hL,hL0,hL1,hL2⟩:=info_parts rX;obtain ⟨iN,hN,hN0,hN1,hN2⟩:=info_parts mP;have hmm:=@run_makeMap zz;have HH:=aA h;have HV:=aA hv;clear h hv;go_enter Tryz.func84,Tryz.ntmps84;go_wp2_with (first
  | (at_make;refine wpList_make_full _ rfl _ _ 22 rfl w.heap.size 39 iL (.agg #[.bool false,.slice none 0 0]) 2 zs hL hL0 hL1 .i64 .i64 _ _ c.length rfl rfl rfl rfl ?m1 ?m2 ?m3 ?_)
  | go_in)
 case m1=>rw [hL2];omega
 case m2=>unfold maxLen;omega
 case m3=>simp
 intro w2 ho2 hg2;have HS2:Hid (uP w w.heap.size (w.heap.size+1) c 0 [] w2):=aA (by
  have hm:(w.alloc (.map #[] 0)).ownsMap zz 3 fN w.heap.size 0 (.map []):=World.ownsMap_made _ _ _ _;refine ⟨⟨.map [],uN hm (hg2.block _ (by simp) (by simp)),oA.start⟩,?_,rfl,by simp,by simp,by simp,((Below.refl _ _).alloc (zy _) _).grown hg2 (by simp) (by simp)⟩;rw [aPn] at ho2;simpa using ho2)
 clear ho2 hg2;go_wp2;go_loopw [16] (λi wr=>∃(k:Nat) (Q:List (Lt×Value)),k<=c.length/\i=.int .i64 k/\uP w w.heap.size (w.heap.size+1) c k Q wr) (λi _=>c.length-(intOf i).toNat);case atStart=>exact ⟨0,[],ze _,rfl,HS2.out⟩
 case round=>
  rename World=>wo
  obtain ⟨k,Q,hk,rfl,hS⟩:=hrel;have hb:=hS.low;have hbs:=hb.size;by_cases hlt:k<c.length
  ·have hlti:(k:Int)<(c.length:Int):=by omega
   obtain ⟨b,o,xa,xc,rfl,e1,f1,hX⟩:=HH.out.cell k hlt;have e2:=Below.at' hb (zy _) e1;have f2:=Below.at' hb (zy _) f1;have hvx:=HV.out c[k] (zh _);have hxl:=zF c c[k] (zh _);have hst:=aHa c k hlt;generalize c[k]=x at *;obtain ⟨xb,xl⟩:=x;simp only at e2 f2 hX hvx hxl;have hbx:=aQ4 wo (.bool xb) (.slice xa xl.length xc) 39;have hb1:Below wo.heap.size wo (wo.alloc (.cells #[.bool xb,.slice xa xl.length xc] 39)):=(Below.refl _ _).alloc (zy _) _;obtain ⟨hbx0,hbx1⟩:=hbx;have HS:=aA hS;have HX:=aA hX;have HVX:=aA hvx;have HST:=aA hst;clear hS hX hvx hst e1 f1 hb;go_wp2_with (first
    | (at_make;refine wpList_make_full _ rfl _ _ 37 rfl (wo.heap.size+1) 36 iN (.agg #[.string ⟨#[]⟩,.int .i64 0]) 2 zr hN hN0 hN1 .i64 .i64 _ _ xl.length rfl rfl rfl rfl ?n1 ?n2 ?n3 ?_)
    | go_in)
   case n1=>rw [hN2];omega
   case n2=>unfold maxLen;omega
   case n3=>simp
   intro w3 ho3 hg3;obtain ⟨wa,hwa⟩ : ∃wa,wa=wo.alloc (.cells #[.bool xb,.slice xa xl.length xc] 39):=⟨_,rfl⟩;have hsz:wo.heap.size+1=wa.heap.size:=by rw [hwa];simp
   have HI0:Hid (jJ w wa w.heap.size (wo.heap.size+1) xl.length (cL (c.take k)).2 [] w3):=aA (by
    obtain ⟨D,hm1,hm2⟩:=HS.out.map;rw [<-hwa] at hg3 hb1;rw [aPm] at ho3;have hmlt:w.heap.size<wo.heap.size:=by obtain ⟨es,clock,hh,_⟩:=hm1;exact (zx.1 hh).1
    refine ⟨hsz,⟨hg3.size,λq hq _=>hg3.block q hq (by simp)⟩,by simpa using ho3,⟨D,uN hm1 ?_,hm2⟩,(HS.out.low.trans (hb1.mono hbs)).grown hg3 (by omega) (by simp)⟩;rw [hg3.block _ (by omega) (by simp),hb1.block _ hmlt])
   have hmp:w.heap.size<wo.heap.size+1:=by omega
   have c0:w3.cell? ⟨wo.heap.size,1,none⟩=some (.slice xa xl.length xc):=hg3.cell hbx1 (by simp);have HWA:=aA hwa;have hrb:=sT;clear ho3 hg3;have HSZ:=aA hsz;have hsz1:wo.heap.size+1<=wa.heap.size:=by omega
   clear hwa hsz;go_wp2;clear c0 hbx0 hbx1 hb1;go_loopw [28] (λi wi=>∃j:Nat,j<=xl.length/\i=.int .i64 j/\jJ w wa w.heap.size (wo.heap.size+1) xl.length (cE (xl.take j) (cL (c.take k)).2).2 (cE (xl.take j) (cL (c.take k)).2).1 wi) (λi _=>xl.length-(intOf i).toNat);case atStart=>exact ⟨0,ze _,rfl,HI0.out⟩
   case round=>
    obtain ⟨j,hj,rfl,hI⟩:=hrel;have hrl:=hrb (xl.take j) (cL (c.take k)).2;have hsb:=pA (c.take k);have hcb:=rW c k;have htl:(xl.take j).length=j:=by simp;omega
    by_cases hjl:j<xl.length
    ·have hjli:(j:Int)<(xl.length:Int):=by omega
     obtain ⟨b3,o3,rfl,e3,f3⟩:=HX.out.cell j hjl;have e4:=Below.at' hI.low (zy _) e3;have f4:=Below.at' hI.low (zy _) f3;have hrt:=aEd xl (cL (c.take k)).2 j hjl;have hvj:=HVX.out xl[j] (zh _);generalize cE (xl.take j) (cL (c.take k)).2=R at *;generalize xl[j]=nd at *;obtain ⟨out,sn⟩:=R;obtain ⟨s,x⟩:=nd;simp only at e4 f4 hI hrl hvj;have hol:out.length=j:=by omega
     have hsn:sn.length<=1000000:=by omega
     have hki:=hI.keep.size;have hbi:Below wr.heap.size wr (wr.alloc (.cells #[.string s,.int .i64 x] 36)):=(Below.refl _ _).alloc (zy _) _;have CV:=aA (λwx=>qI s x wx);have hlb:=hI.low.size;have hblk:wo.heap.size+1<wr.heap.size:=by obtain ⟨⟨u,hu⟩,_⟩:=hI.cell (by omega);exact zi wr _ hu
     have HI:=aA hI;have HOL:=aA hol;have HRT:=aA hrt;have HVJ:=aA hvj;clear hI hol hrt hvj e3 f3 hrl hrb hsb hcb htl hbi;by_cases hv:s.toList.isEmpty=true
     ·have hxx:=HVJ.out hv;obtain ⟨hx0,hx1⟩:=hxx;have HRS:=aA (HRT.out.trans (aQ5 hv));rw [hv] at CV;clear hv;go_wp2_with (first
       | (go_at_call 109;refine (aB CN).mono ?_;rintro e w2 ⟨D',rfl,ho2,hn2,hg2⟩;have hI2:=HI1.out.count hg2 ho2 hn2 (zy _);have r1:=hg2.cell q1 (by simp;omega);have r2:=hg2.cell q2 (by simp;omega);have fz2:w2.frozen? ⟨wr.heap.size,1,none⟩=false:=(by rw [zg (hg2.block _ (by simp;omega) (by simp;omega))];exact fz1);have hI3:=hI2.box (g:=wr.heap.size) (by omega) hmp (by omega) 1 (.int .i64 (mT sn x).2);obtain ⟨⟨u1,hu1⟩,⟨u2,hu2⟩⟩:=hI3.cell (by have:=HOL.out;omega);have fa1:=hI3.row.frozenAt (j*2);have fa2:=hI3.row.frozenAt (j*2+1);have hI4:=hI3.put (by have:=HOL.out;omega) hmp (by omega) (s,(mT sn x).2);rw [HOL.out] at hu1 hu2 hI4;have HI4:=aA hI4;clear ho2 hn2 hg2 hI2 hI3 hI4)
       | (go_at_call 83;refine (aB CV _).mono ?_;rintro e w1 ⟨rfl,hb1⟩;obtain ⟨q1,q2,q3⟩:=jL hb1;have fz1:w1.frozen? ⟨wr.heap.size,1,none⟩=false:=(by rw [zg (hb1.block _ (by simp))];simp);have hI1:=HI.out.below q3;have hq3:=q3.size;have hw1:wr.heap.size<w1.heap.size:=(by have:=hb1.size;simp at this;omega);obtain ⟨D,hm1,hm2⟩:=hI1.map;have CN:=aA (aPh w.heap.size D sn x w1 hm1 hm2 hx0 hx1 hsn);have HI1:=aA hI1;clear hb1 q3 hI1 hm1 hm2))
      go_roundw;case rel=>exact ⟨j+1,by omega,by go_num,by rw [HRS.out];exact HI4.out⟩
      case measure=>simp [intOf];omega
     ·have hv':s.toList.isEmpty=false:=by simpa using hv
      have HRS:=aA (HRT.out.trans (aQ6 hv'));rw [hv'] at CV;clear hv hv';go_wp2_with (first
       | (go_at_call 83;refine (aB CV _).mono ?_;rintro e w1 ⟨rfl,hb1⟩;obtain ⟨q1,q2,q3⟩:=jL hb1;have hI3:=HI.out.below q3;obtain ⟨⟨u1,hu1⟩,⟨u2,hu2⟩⟩:=hI3.cell (by have:=HOL.out;omega);have fa1:=hI3.row.frozenAt (j*2);have fa2:=hI3.row.frozenAt (j*2+1);have hI4:=hI3.put (by have:=HOL.out;omega) hmp (by omega) (s,x);rw [HOL.out] at hu1 hu2 hI4;have HI4:=aA hI4;clear hb1 q3 hI3 hI4))
      go_roundw;case rel=>exact ⟨j+1,by omega,by go_num,by rw [HRS.out];exact HI4.out⟩
      case measure=>simp [intOf];omega
    ·have hjli:¬((j:Int)<(xl.length:Int)):=by omega
     have hje:j=xl.length:=by omega
     rw [hje,List.take_length] at hI;have hwa:=HWA.out;have hmlt:w.heap.size<wo.heap.size:=by obtain ⟨D,hm1,_⟩:=HS.out.map;obtain ⟨es,clock,hh,_⟩:=hm1;exact (zx.1 hh).1
     have b0:wr.cell? ⟨wo.heap.size,0,none⟩=some (.bool xb):=hI.keep.cell (by rw [hwa];simp) (by simp;omega);rw [hwa] at hI;obtain ⟨⟨u1,hu1⟩,⟨u2,hu2⟩,fa1,fa2,hN1⟩:=HS.out.next (by omega) (by omega) hlt HST.out hI
     have HN1:=aA hN1;clear hN1 hI hwa hje hrl hsb hcb htl hrb;go_wp2;go_roundw;case rel=>exact ⟨k+1,_,by omega,by go_num,HN1.out⟩
     case measure=>simp [intOf];omega
  ·have hlti:¬((k:Int)<(c.length:Int)):=by omega
   have hke:k=c.length:=by omega
   rw [hke] at hS;have HS:=aA hS;clear hS;go_wp2;go_ret;exact ⟨_,rfl,_,HS.out⟩
end
section
open Go.RowKit
abbrev Us:=ByteArray×Bool×Int
def lR(k:Nat)(n:Nd):List Us:=if aF n then [] else [(n.1,decide (k=0),n.2)]
def jD(l:List Nd):Nat->List Us
 | 0=>[]
 | k+1=>jD l k++((l[k]?).map (lR k)).getD []
def lS(c:List Lt):Nat->List Us
 | 0=>[]
 | k+1=>lS c k++((c[k]?).map λx=>jD x.2 x.2.length).getD []
def oX(c:List Lt):List Us:=lS c c.length
theorem aGe(l:List Nd)(k:Nat)(h:k<l.length):jD l (k+1)=jD l k++lR k l[k]:=by simp [jD,h]
theorem aBu(c:List Lt)(k:Nat)(h:k<c.length):lS c (k+1)=lS c k++jD c[k].2 c[k].2.length:=by simp [lS,h]
theorem aGf(l:List Nd)(k:Nat):(jD l k).length<=k:=by
 induction k with
 | zero=>simp [jD]
 | succ k ih=>
  simp only [jD,zp];have:(((l[k]?).map (lR k)).getD []).length<=1:=by
   cases l[k]? with
   | none=>simp
   | some n=>simp [lR];split <;> simp
  omega
theorem aQ8(c:List Lt)(k:Nat):(lS c k).length<=aK (c.take k):=by
 induction k with
 | zero=>simp [lS]
 | succ k ih=>
  by_cases h:k<c.length
  ·rw [aBu c k h,zo h,oD,zp];have:=aGf c[k].2 c[k].2.length;omega
  ·have h1:c[k]?=none:=List.getElem?_eq_none (by omega);have h2:c.take (k+1)=c.take k:=by rw [zf (by omega),zf (by omega)]
   simp only [lS,h1,h2];simpa using ih
def aGg(u:List Us):Prop:=∀i (h:i<u.length),u[i].2.2<=5/\∀k (hk:k<i),(u[k]'(by omega)).1=u[i].1->(u[k]'(by omega)).2=u[i].2
theorem aQ9(n:Nat):((n:Int) == 0)=decide (n=0):=by rw [Bool.eq_iff_iff];simp
def lT(p:Pl):Us:=(p.1,p.2.1,p.2.2.1)
end
section
open Go.RowKit Go.Shelf
def fY(U:List Us):List Value:=U.flatMap λu=>[.string u.1,.bool u.2.1,.int .i64 u.2.2]
theorem aQa(U:List Us)(x:Us):fY (U++[x])=fY U++[.string x.1,.bool x.2.1,.int .i64 x.2.2]:=by simp [fY]
theorem aBv(U:List Us):∀k (h:k<U.length),(fY U)[k*3]?=some (.string U[k].1)/\(fY U)[k*3+1]?=some (.bool U[k].2.1)/\(fY U)[k*3+2]?=some (.int .i64 U[k].2.2):=by
 induction U with
 | nil=>intro k h;simp at h
 | cons x r ih=>
  intro k h;cases k with
  | zero=>simp [fY]
  | succ k=>
   have:=ih k (by simpa using h);have e1:(k+1)*3=k*3+3:=by omega
   rw [e1];simp only [fY,List.flatMap_cons,List.cons_append,List.nil_append,List.getElem_cons_succ] at this ⊢;have e2:k*3+3+1=k*3+1+3:=by omega
   have e3:k*3+3+2=k*3+2+3:=by omega
   rw [e2,e3];simp only [List.getElem?_cons_succ];exact this
structure aGh(w:World)(a:Option Addr)(U:List Us):Prop where
 few:U.length<=1000000
 short:∀k (h:k<U.length),U[k].1.size<=140737488355328
 cell:∀k (h:k<U.length),∃b,a=some ⟨b,0,none⟩/\w.cell? ⟨b,k*3,none⟩=some (.string U[k].1)/\w.cell? ⟨b,k*3+1,none⟩=some (.bool U[k].2.1)/\w.cell? ⟨b,k*3+2,none⟩=some (.int .i64 U[k].2.2)
theorem aQb{w:World}{B:Nat}{v:Value}{U:List Us}(h:w.ownsRow B 102 3 v U.length (fY U))(hf:U.length<=1000000)(hs:∀k (h:k<U.length),U[k].1.size<=140737488355328) :
  ∃a cap,v=.slice a U.length cap/\aGh w a U:=by
 obtain ⟨h1,⟨rfl,h2⟩ | ⟨g,cap,cur,rfl,hb,hh,hc,hm,hz,ht⟩⟩:=h
 ·exact ⟨none,0,by rw [h2],hf,hs,λk hk=>by omega⟩
 ·have ho:w.ownsRow B 102 3 (.slice (some ⟨g,0,none⟩) U.length cap) U.length (fY U):=⟨h1,Or.inr ⟨g,cap,cur,rfl,hb,hh,hc,hm,hz,ht⟩⟩;refine ⟨_,_,rfl,hf,hs,λk hk=>⟨g,rfl,?_,?_,?_⟩⟩
  ·rw [ho.cellAt (k*3) (by omega),(aBv U k hk).1]
  ·rw [ho.cellAt (k*3+1) (by omega),(aBv U k hk).2.1]
  ·rw [ho.cellAt (k*3+2) (by omega),(aBv U k hk).2.2]
theorem aGi:(zz.info? 102).map (λi=>(i.zero,i.size,i.bytes))=some (some (.agg #[.string ⟨#[]⟩,.bool false,.int .i64 0]),3,32):=by kernel_rfl
theorem aQc{w wm w1:World}{o v':Value}{U:List Us}{x:Us}(ho:wm.ownsRow w.heap.size 102 3 o U.length (fY U))(hb:Below w.heap.size w wm)
  (ho':w1.ownsRow w.heap.size 102 3 v' (U.length+1) (fY U++[.string x.1,.bool x.2.1,.int .i64 x.2.2])) (hg:wm.grownBy w1 o.ownBlock) :
  w1.ownsRow w.heap.size 102 3 v' (U++[x]).length (fY (U++[x]))/\Below w.heap.size w w1:=by
 refine ⟨?_,hb.grown hg hb.size λk e=>(aT ho k e).1⟩;rw [aQa,zp];exact ho'
theorem aQd(w:World)(r s x:Value)(t:TypeId)(n:Nat)(hn:n=w.heap.size):∀j u,[r,s,x][j]?=some u->(w.alloc (.cells #[r,s,x] t)).cell? ((⟨n,0,none⟩ : Addr).add j)=some u:=by
 subst hn;intro j u hj;match j,hj with
 | 0,hj=>simp at hj;subst hj;simp [Addr.add]
 | 1,hj=>simp at hj;subst hj;simp [Addr.add]
 | 2,hj=>simp at hj;subst hj;simp [Addr.add]
 | j+3,hj=>simp at hj
theorem aQe(s:ByteArray)(b:Bool)(x:Int):∀u∈[Value.string s,Value.bool b,Value.int .i64 x],u.oneCell'=true:=by intro u hu;simp at hu;rcases hu with rfl | rfl | rfl <;> rfl
theorem aQf(a:Option Addr)(cp:Nat)(c:List Lt)(w:World)(h:bD w a c)(h60:aK c<=100000) :
  Calls zz 51 #[.slice a c.length cp] w λe w'=>∃v,e=.returned v/\w'.ownsRow w.heap.size 102 3 v (oX c).length (fY (oX c))/\Below w.heap.size w w':=by
 obtain ⟨iU,hU,hU0,hU1,hU2⟩:=info_parts aGi;have hf:=h.few;have HH:=aA h;clear h;go_enter Tryz.func51,Tryz.ntmps51;go_wp2;go_loopw [3,10] (λo i wr=>∃k:Nat,k<=c.length/\i=.int .i64 k/\wr.ownsRow w.heap.size 102 3 o (lS c k).length (fY (lS c k))/\Below w.heap.size w wr) (λ_ i _=>c.length-(intOf i).toNat);case atStart=>exact ⟨0,ze _,rfl,World.ownsRow_nil _ _ _ _,Below.refl _ _⟩
 case round=>
  obtain ⟨k,hk,rfl,ho,hb⟩:=hrel;by_cases hlt:k<c.length
  ·obtain ⟨b,q,aa,acp,rfl,e1,f1,g1⟩:=HH.out.cell k hlt;have e2:=Below.at' hb (zy _) e1;have f2:=Below.at' hb (zy _) f1;have hus:=aBu c k hlt;have hul:=aQ8 c k;have hct:=rW c (k+1);rw [zo hlt,oD] at hct;generalize c[k]=z at *;obtain ⟨zb,zl⟩:=z;simp only at e2 f2 g1 hus hct;generalize lS c k=U0 at *;have HUS:=aA hus;have HG:=aA g1;have hzl:=g1.few;have hbs:=hb.size;clear e1 f1 g1 hus;go_wp2;go_loopw [3,17] (λo j wi=>∃n:Nat,n<=zl.length/\j=.int .i64 n/\wi.ownsRow w.heap.size 102 3 o (U0++jD zl n).length (fY (U0++jD zl n))/\Below w.heap.size w wi) (λ_ j _=>zl.length-(intOf j).toNat);case atStart=>exact ⟨0,ze _,rfl,by simpa [jD] using ho.alloc _,hb.alloc hbs _⟩
   case round=>
    obtain ⟨n,hn,rfl,ho2,hb2⟩:=hrel;by_cases hnl:n<zl.length
    ·obtain ⟨b3,o3,rfl,e3,f3⟩:=HG.out.cell n hnl;have q3:=Below.at' hb2 (zy _) e3;have q4:=Below.at' hb2 (zy _) f3;have hpt:=aGe zl n hnl;have hpl:=aGf zl n;generalize zl[n]=nd at *;obtain ⟨s,x⟩:=nd;simp only at q3 q4;have CV:=aA (λwx=>qI s x wx);have hb2s:=hb2.size;have HB2:=aA hb2;clear e3 f3 hb2;cases hv:s.toList.isEmpty
     ·have hus:lR n (s,x)=[(s,((n:Int) == 0),x)]:=by simp [lR,aF,hv,aQ9]
      rw [hus] at hpt;rw [hv] at CV;have HP:=aA hpt;have hlen:(U0++jD zl n).length<=200000:=by rw [zp];omega
      have HV:Hid (U0++jD zl (n+1)=(U0++jD zl n)++[(s,((n:Int) == 0),x)]):=aA (by rw [hpt,List.append_assoc]);clear hpt HP;generalize U0++jD zl n=V at *;clear hus hv;go_wp2_with (first
       | (go_at_call 83;refine (aB CV _).mono ?_;rintro e w1 ⟨rfl,hb1⟩;obtain ⟨r1,r2,r3⟩:=jL hb1;have ho1:=aU (ho2.alloc _) hb1 (zy _);have HB1:=aA (HB2.out.trans (r3.mono hb2s));have h1s:=HB1.out.size;clear hb1 r3)
       | (at_builtin;refine wpList_append_own _ rfl (.tmp 25) (.tmp 33) 84 rfl w.heap.size 102 iU (.agg #[.string ⟨#[]⟩,.bool false,.int .i64 0]) 3 32 Tryz.underlying84 hU hU0 hU1 hU2 rfl (by decide) _ _ _ rfl (ho1.alloc _) ⟨w1.heap.size,0,none⟩ 1 1 [.string s,.bool ((n:Int) == 0),.int .i64 x] rfl rfl ?c1 ?c2 ?c3 ?c4 ?c5 ?_)
       | go_in)
      case c1=>exact aQd _ _ _ _ _ _ (by simp)
      case c2=>first | exact aQe _ _ _ | exact ⟨rfl,rfl,rfl⟩
      case c3=>unfold maxLen;omega
      case c4=>omega
      case c5=>exact z0 h1s (World.grownBy_alloc _ _ none).size
      intro v' w2 ho' hg' _;have R:=aQc (x:=(s,((n:Int) == 0),x)) (ho1.alloc _) (HB1.out.alloc h1s _) ho' hg';have HR:=aA R;clear ho' hg' ho1 R;go_wp2;go_roundw;case rel=>exact ⟨n+1,by omega,by go_num,by rw [HV.out];exact HR.out.1,HR.out.2⟩
      case measure=>simp [intOf];omega
     ·have hus:lR n (s,x)=[]:=by simp [lR,aF,hv]
      rw [hus,List.append_nil] at hpt;rw [hv] at CV;have HP:=aA hpt;have HO:=aA ho2;clear hpt hus hv ho2;go_wp2_with (first
       | (go_at_call 83;refine (aB CV _).mono ?_;rintro e w1 ⟨rfl,hb1⟩;obtain ⟨r1,r2,r3⟩:=jL hb1;have HO1:=aA (aU (HO.out.alloc _) hb1 (zy _));have HB1:=aA (HB2.out.trans (r3.mono hb2s));clear hb1 r3)
       | go_in)
      go_roundw;case rel=>exact ⟨n+1,by omega,by go_num,by rw [HP.out];exact HO1.out,HB1.out⟩
      case measure=>simp [intOf];omega
    ·have hn':n=zl.length:=by omega
     subst hn';rw [<-HUS.out] at ho2;have HO:=aA ho2;have HB2:=aA hb2;clear ho2 hb2 HUS;go_wp2;go_roundw;case rel=>exact ⟨k+1,by omega,by go_num,HO.out,HB2.out⟩
     case measure=>simp [intOf];omega
  ·have hk':k=c.length:=by omega
   subst hk';have F:=aA (And.intro ho hb);clear ho hb;go_wp2;go_ret;exact ⟨_,rfl,F.out⟩
end
section
open Go.RowKit Go.Shelf Go.WideMaps
def wK(v:Value):Option (DataW Unit×List MemPlace):=
 match v with
 | .agg cs=>match cs.toList with
  | [.string s,.bool b,.int .i64 n]=>some (.agg [.lit (.string s.data.toList),.lit (.bool b),.lit (.int .i64 n)],[])
  | _=>none
 | _=>none
def qC(u:Us):DataW Unit:=.agg [.lit (.string u.1.data.toList),.lit (.bool u.2.1),.lit (.int .i64 u.2.2)]
theorem aGj{v:Value}{u:Us}{ps:List MemPlace}(h:wK v=some (qC u,ps)):v=.agg #[.string u.1,.bool u.2.1,.int .i64 u.2.2]:=by
 unfold wK at h;split at h
 ·next cs=>
  split at h
  ·next s b n hcs=>
   have hcs':cs=#[.string s,.bool b,.int .i64 n]:=by have:=congrArg List.toArray hcs;simpa using this
   subst hcs';simp only [qC,Option.some.injEq,Prod.mk.injEq,DataW.agg.injEq,List.cons.injEq,DataW.lit.injEq,Lit.string.injEq,Lit.bool.injEq,Lit.int.injEq,and_true,true_and] at h;obtain ⟨⟨h1,h2,h3⟩,_⟩:=h;have:s=u.1:=by obtain ⟨⟨x⟩⟩:=s;obtain ⟨⟨⟨y⟩⟩,z⟩:=u;simp at h1;rw [h1]
   rw [this,h2,h3]
  ·simp at h
 ·simp at h
structure wL(D:DataW Unit)(U:List Us)(k:Nat):Prop where
 isMap:Maps.IsMap D
 old:∀j (h:j<U.length),j<k->Maps.has D (.string U[j].1.data.toList)=true/\∀z,D.atKey (.string U[j].1.data.toList) z=qC U[j]
 new:∀s:ByteArray,(∀j (h:j<U.length),j<k->U[j].1≠s)->Maps.has D (.string s.data.toList)=false
theorem aGk{s t:ByteArray}(h:s.data.toList=t.data.toList):s=t:=by obtain ⟨⟨x⟩⟩:=s;obtain ⟨⟨y⟩⟩:=t;simp at h;rw [h]
theorem aQg(U:List Us):wL (.map []) U 0:=⟨Maps.isMap_empty,λj _ h=>by omega,λs _=>rfl⟩
theorem aQh{D:DataW Unit}{U:List Us}{k:Nat}(h:wL D U k)(hk:k<U.length)(hsame:∀j (hj:j<U.length),j<k->U[j].1=U[k].1->U[j]=U[k]) :
  wL (D.put (.string U[k].1.data.toList) (qC U[k])) U (k+1):=by
 have hkey:WideAt.IsKeyLit (.string U[k].1.data.toList):=trivial;refine ⟨h.isMap.put _ _,λj hj hjk=>?_,λs hs=>?_⟩
 ·by_cases he:U[j].1=U[k].1
  ·have hu:U[j]=U[k]:=by
    by_cases hjk':j=k
    ·subst hjk';rfl
    ·exact hsame j hj (by omega) he
   rw [hu];exact ⟨Maps.has_put_same h.isMap hkey _,λz=>Maps.atKey_put_same h.isMap hkey _ _⟩
  ·have hne:(Lit.string U[j].1.data.toList)≠.string U[k].1.data.toList:=λe=>he (aGk (by simpa using e))
   have hjk':j<k:=by
    rcases Nat.lt_or_ge j k with h1 | h1
    ·exact h1
    ·have:j=k:=by omega
     subst this;exact absurd rfl he
   have ho:=h.old j hj hjk';exact ⟨by rw [Maps.has_put_other hne];exact ho.1,λz=>by rw [Maps.atKey_put_other hne];exact ho.2 z⟩
 ·have hne:(Lit.string s.data.toList)≠.string U[k].1.data.toList:=λe=>hs k hk (by omega) (aGk (by simpa using e)).symm
  rw [Maps.has_put_other hne];exact h.new s λj hj hjk=>hs j hj (by omega)
def rU(U:List Us)(k:Nat):Prop:=∀i (h:i<U.length),i<k->U[i].2.2<=5/\∀j (hj:j<i),(U[j]'(by omega)).1=U[i].1->(U[j]'(by omega)).2=U[i].2
theorem aQi{U:List Us}(h:rU U U.length):aGg U:=λi hi=>h i hi hi
theorem aQj:zz.stoodInHeld 102=false:=by kernel_rfl
theorem aQk:zz.eqGuardType zz.depth 102=false:=by kernel_rfl
theorem aQl:zz.underlying 102=some (.struct (zz.fieldsOf 102)):=by kernel_rfl
def uQ(x y:Us):Bool:=decide (x=y)
theorem aQm(x y:Us)(w:World):(Op.equalIn 10000 102 (.agg #[.string x.1,.bool x.2.1,.int .i64 x.2.2]) (.agg #[.string y.1,.bool y.2.1,.int .i64 y.2.2])).run zz w=.ok (uQ x y) w:=by rw [show (10000:Nat)=9999+1 from rfl,run_equalIn_agg w 9999 102 _ _ aQl aQj];simp only [Program.fieldsOf,Tryz.underlying102];go_simp;obtain ⟨s,b,n⟩:=x;obtain ⟨t,d,m⟩:=y;simp only [uQ,aAt];by_cases h1:s=t <;> by_cases h2:b=d <;> by_cases h3:n=m <;> simp [h1,h2,h3]
end
section
open Go.RowKit Go.ChangeShapes Go.WideShapes
theorem aGl{w:World}{a:Addr}{v:Value}(h:w.cell? (a.add (0*2))=some v):∃b o,a=⟨b,o,none⟩:=by
 obtain ⟨b,o,sp⟩:=a;cases sp with
 | none=>exact ⟨b,o,rfl⟩
 | some s=>
  simp only [Addr.add,World.cell?] at h;split at h <;> simp at h
theorem wM(b o j:Nat):(⟨b,o,none⟩ : Addr).add j=⟨b,o+j,none⟩:=by unfold Addr.add;split <;> simp_all
theorem aQn:zz.bytesOf 36=24:=by kernel_rfl
theorem aQo:zz.bytesOf 39=32:=by kernel_rfl
theorem aBw{H:Type}{P:Program}{e:TypeId}{d:DataW H}:∀{ds:List (DataW H)},d∈ds->∀n∈d.weights P e,n∈DataW.weightsAll P e ds
 | [],h,_,_=>by simp at h
 | x :: r,h,n,hn=>by
  simp only [DataW.weightsAll,zq];rcases zj.1 h with rfl | h
  ·exact Or.inl hn
  ·exact Or.inr (aBw h n hn)
theorem aQp{H:Type}{len:Nat}{D0 D1:Nat->DataW H}{sp:List (DataW H)}{i n:Nat}(hi:i<len)(hn:n∈(D0 i).weights zz 9):n∈(DataW.slice ((zw len).map λi=>.agg [D0 i,D1 i]) sp).weights zz 37:=by simp only [DataW.weights,zr,zj,zq];right;left;refine aBw (d:=.agg [D0 i,D1 i]) (zn.2 ⟨i,zd.2 hi,rfl⟩) n ?_;simp only [DataW.weights,zm];exact DataW.weights_mem_each (j:=0) rfl rfl n hn
theorem aQq{H:Type}{len:Nat}{D0 D1:Nat->DataW H}{sp:List (DataW H)}{i n:Nat}(hi:i<len)(hn:n∈(D1 i).weights zz 37):n∈(DataW.slice ((zw len).map λi=>.agg [D0 i,D1 i]) sp).weights zz 22:=by simp only [DataW.weights,zs,zj,zq];right;left;refine aBw (d:=.agg [D0 i,D1 i]) (zn.2 ⟨i,zd.2 hi,rfl⟩) n ?_;simp only [DataW.weights,zk];exact DataW.weights_mem_each (j:=1) rfl rfl n hn
theorem aQr{H:Type}{enc:TypeId×Value->H}{w:World}{fuel:Nat}{cs:List Value}{x:DataW H×List MemPlace}(h:DataW.trod enc zz w 0 (λ_=>true) true fuel 37 cs=some x)(hz:∀n∈x.1.weights zz 37,n<=reachBytes) :
  ∃a l cap,cs=[.slice a (z1 l) cap]/\cM w a l/\(a=none->cap=0):=by
 rcases Deep.open_slice_pairs zr zm (by kernel_rfl) rfl rfl (by kernel_rfl) (by kernel_rfl) h with ⟨rfl,rfl⟩ | ⟨a,len,cap,m,n,V0,V1,D0,D1,P0,P1,rfl,hb,hl,hm,hmm,rfl,hx⟩
 ·exact ⟨none,[],0,rfl,⟨by decide,λk h=>absurd h (by simp),λk h=>absurd h (by simp)⟩,λ_=>rfl⟩
 ·have hmc:m=cap:=by simpa using hmm
  subst hmc;obtain ⟨f,hf⟩:=Deep.choose_lt (α:=Nd) (n:=len) (p:=λi nd=>V0 i=.string nd.1/\V1 i=.int .i64 nd.2/\D0 i=.lit (.string nd.1.data.toList)) (λi hi=>by
   obtain ⟨_,_,h0,h1⟩:=hx i (by omega);obtain ⟨s,hs,hd,_⟩:=DataW.trod_string Tryz.underlying9 h0;obtain ⟨z,hz,_⟩:=DataW.trod_int Tryz.underlying3 h1;exact ⟨(s,z),by simpa using hs,by simpa using hz,congrArg Prod.fst hd⟩)
  have hw:(len+(m-len))*24<=reachBytes:=by have:=hz ((((zw len).map λi=>DataW.agg [D0 i,D1 i]).length+((zw (m-len)).map λj=>DataW.agg [D0 (len+j),D1 (len+j)]).length)*zz.bytesOf 36) (by simp only [DataW.weights,zr];exact za);rw [aQn] at this;simpa using this
  have hr:=reachBytes_lt;refine ⟨some a,(zw len).map f,m,by simp,⟨by simp;omega,λk hk=>?_,λk hk=>?_⟩,by simp⟩
  ·have hk':k<len:=by simpa using hk
   have hs:(f k).1.size<=reachBytes:=by refine hz _ (aQp hk' ?_);rw [(hf k hk').2.2];simp [DataW.weights]
   simp;omega
  ·have hk':k<len:=by simpa using hk
   obtain ⟨b,o,rfl⟩:=aGl (hx 0 (by omega)).1;obtain ⟨g0,g1,_⟩:=hx k (by omega);rw [wM,(hf k hk').1] at g0;rw [wM,(hf k hk').2.1] at g1;exact ⟨b,o,rfl,by simpa using g0,by simpa [zc] using g1⟩
theorem aGm{H:Type}{enc:TypeId×Value->H}{w:World}{fuel:Nat}{cs:List Value}{x:DataW H×List MemPlace}(h:DataW.trod enc zz w 0 (λ_=>true) true fuel 22 cs=some x)(hz:∀n∈x.1.weights zz 22,n<=reachBytes) :
  ∃a c cap,cs=[.slice a (z1 c) cap]/\bD w a c/\oU w a c:=by
 rcases Deep.open_slice_pairs zs zk (by kernel_rfl) rfl rfl (by kernel_rfl) (by kernel_rfl) h with ⟨rfl,rfl⟩ | ⟨a,len,cap,m,n,V0,V1,D0,D1,P0,P1,rfl,hb,hl,hm,hmm,rfl,hx⟩
 ·exact ⟨none,[],0,rfl,⟨by decide,λk h=>absurd h (by simp)⟩,λk h=>absurd h (by simp)⟩
 ·have hmc:m=cap:=by simpa using hmm
  subst hmc;obtain ⟨f,hf⟩:=Deep.choose_lt (α:=Lt×Option Addr×Nat) (n:=len) (p:=λi y=>V0 i=.bool y.1.1/\V1 i=.slice y.2.1 y.1.2.length y.2.2/\cM w y.2.1 y.1.2/\(y.2.1=none->y.2.2=0)) (λi hi=>by
   obtain ⟨_,_,h0,h1⟩:=hx i (by omega);obtain ⟨b,hs,hd⟩:=DataW.trod_bool Tryz.underlying4 h0;obtain ⟨aa,l,ac,hv,hn,hq⟩:=aQr h1 (λn hn=>hz n (aQq hi hn));exact ⟨((b,l),aa,ac),by simpa using hs,by simpa using hv,hn,hq⟩)
  have hw:(len+(m-len))*32<=reachBytes:=by have:=hz ((((zw len).map λi=>DataW.agg [D0 i,D1 i]).length+((zw (m-len)).map λj=>DataW.agg [D0 (len+j),D1 (len+j)]).length)*zz.bytesOf 39) (by simp only [DataW.weights,zs];exact za);rw [aQo] at this;simpa using this
  have hr:=reachBytes_lt;have cells:∀k,k<len->∃b o,a=⟨b,o,none⟩/\w.cell? ⟨b,o+k*2,none⟩=some (.bool (f k).1.1)/\w.cell? ⟨b,o+k*2+1,none⟩=some (.slice (f k).2.1 (f k).1.2.length (f k).2.2):=by intro k hk';obtain ⟨b,o,rfl⟩:=aGl (hx 0 (by omega)).1;obtain ⟨g0,g1,_⟩:=hx k (by omega);rw [wM,(hf k hk').1] at g0;rw [wM,(hf k hk').2.1] at g1;exact ⟨b,o,rfl,g0,by simpa [zc] using g1⟩
  refine ⟨some a,(zw len).map λi=>(f i).1,m,by simp,⟨by simp;omega,λk hk=>?_⟩,λk hk b o aa n cc ha hc=>?_⟩
  ·have hk':k<len:=by simpa using hk
   obtain ⟨b,o,rfl,g0,g1⟩:=cells k hk';exact ⟨b,o,(f k).2.1,(f k).2.2,rfl,by simpa using g0,by simpa using g1,by simpa using (hf k hk').2.2.1⟩
  ·have hk':k<len:=by simpa using hk
   obtain ⟨b',o',rfl,g0,g1⟩:=cells k hk';obtain ⟨rfl,rfl⟩ : b'=b/\o'=o:=by simpa using ha
   rw [g1] at hc;obtain ⟨rfl,rfl,rfl⟩ : (f k).2.1=aa/\(f k).1.2.length=n/\(f k).2.2=cc:=by simpa using hc
   exact (hf k hk').2.2.2
end
section
open Go.ChangeShapes Go.WideShapes Go.RowKit
theorem aGn{H:Type}(d:DataW H):1<=Rows.uptoBulk d:=by
 cases d with
 | lit l=>cases l <;> simp [Rows.uptoBulk]
 | nil=>simp [Rows.uptoBulk]
 | ptr d=>simp [Rows.uptoBulk]
 | slice elems spare=>simp [Rows.uptoBulk]
 | agg parts=>simp [Rows.uptoBulk]
 | iface t d=>simp [Rows.uptoBulk]
 | map entries=>simp [Rows.uptoBulk]
 | held h=>simp [Rows.uptoBulk]
theorem aGo{H:Type}:∀(l:List (DataW H)),(∀d∈l,2<=Rows.uptoBulk d)->2*l.length<=Rows.uptoBulkAll l
 | [],_=>by simp [Rows.uptoBulkAll]
 | x :: r,h=>by
  have h1:=h x (by simp);have h2:=aGo r λd hd=>h d (by simp [hd])
  simp only [Rows.uptoBulkAll,List.length_cons];omega
theorem aQs{H:Type}{d:DataW H}{l:List (DataW H)}(h:d∈l):Rows.uptoBulk d<=Rows.uptoBulkAll l:=by
 induction l with
 | nil=>cases h
 | cons x r ih=>
  simp only [Rows.uptoBulkAll];cases zj.1 h with
  | inl e=>subst e;omega
  | inr e=>have:=ih e;omega
theorem aGp{H:Type}(a b:DataW H):Rows.uptoBulk (.agg [a,b])=Rows.uptoBulk a+Rows.uptoBulk b+1:=by simp [Rows.uptoBulk,Rows.uptoBulkAll]
theorem aBx{H:Type}{len:Nat}{D0 D1:Nat->DataW H}{sp:List (DataW H)}:2*len<=Rows.uptoBulk (.slice ((zw len).map λi=>.agg [D0 i,D1 i]) sp)/\∀i,i<len->Rows.uptoBulk (D1 i)<=Rows.uptoBulk (.slice ((zw len).map λi=>.agg [D0 i,D1 i]) sp):=by
 constructor
 ·have:=aGo ((zw len).map λi=>DataW.agg [D0 i,D1 i]) (λd hd=>by
   obtain ⟨i,_,rfl⟩:=zn.1 hd;rw [aGp];have:=aGn (D0 i);have:=aGn (D1 i);omega)
  simp only [List.length_map,List.length_range] at this;simp only [Rows.uptoBulk];omega
 ·intro i hi;have h1:=aQs (d:=DataW.agg [D0 i,D1 i]) (l:=(zw len).map λi=>DataW.agg [D0 i,D1 i]) (zn.2 ⟨i,zd.2 hi,rfl⟩);rw [aGp] at h1;simp only [Rows.uptoBulk];omega
theorem aQt{H:Type}{enc:TypeId×Value->H}{w:World}{fuel:Nat}{a:Option Addr}{n cap:Nat}{x:DataW H×List MemPlace}(h:DataW.trod enc zz w 0 (λ_=>true) true fuel 37 [.slice a n cap]=some x):2*n<=Rows.uptoBulk x.1:=by
 rcases Deep.open_slice_pairs zr zm (by kernel_rfl) rfl rfl (by kernel_rfl) (by kernel_rfl) h with ⟨e,_⟩ | ⟨a',len,cap',m,n',V0,V1,D0,D1,P0,P1,e,hb,hl,hm,hmm,rfl,hx⟩
 ·obtain ⟨-,rfl,-⟩ : a=none/\n=0/\cap=0:=by simpa using e
  omega
 ·obtain ⟨-,rfl,-⟩ : a=some a'/\n=len/\cap=cap':=by simpa using e
  exact aBx.1
theorem aGq{H:Type}{enc:TypeId×Value->H}{w:World}{fuel:Nat}{a:Option Addr}{c:List Lt}{cap:Nat}{x:DataW H×List MemPlace}(h:DataW.trod enc zz w 0 (λ_=>true) true fuel 22 [.slice a c.length cap]=some x)(hl:bD w a c):2*c.length<=Rows.uptoBulk x.1/\∀z∈c,2*z.2.length<=Rows.uptoBulk x.1:=by
 rcases Deep.open_slice_pairs zs zk (by kernel_rfl) rfl rfl (by kernel_rfl) (by kernel_rfl) h with ⟨e,_⟩ | ⟨a',len,cap',m,n',V0,V1,D0,D1,P0,P1,e,hb,hl',hm,hmm,rfl,hx⟩
 ·obtain ⟨-,h0,-⟩ : a=none/\c.length=0/\cap=0:=by simpa using e
  refine ⟨by omega,λz hz=>?_⟩;rw [List.length_eq_zero_iff] at h0;subst h0;simp at hz
 ·obtain ⟨rfl,rfl,rfl⟩ : a=some a'/\c.length=len/\cap=cap':=by simpa using e
  have hmc:m=cap:=by simpa using hmm
  refine ⟨aBx.1,λz hz=>?_⟩;obtain ⟨k,hk,rfl⟩:=List.getElem_of_mem hz;obtain ⟨b,o,aa,cc,ea,_,e2,_⟩:=hl.cell k hk;obtain rfl:a'=⟨b,o,none⟩:=by simpa using ea
  obtain ⟨_,g1,_,h1⟩:=hx k (by omega);rw [wM,<-zc,e2] at g1;have hv:V1 k=.slice aa c[k].2.length cc:=by simpa using g1.symm
  rw [hv] at h1;have q1:=aQt h1;have q2:=(aBx (len:=c.length) (D0:=D0) (D1:=D1) (sp:=(zw (m-c.length)).map λj=>DataW.agg [D0 (c.length+j),D1 (c.length+j)])).2 k hk;exact z0 q1 q2
theorem aQu{H:Type}{l:List (DataW H)}(hk:Rows.uptoSmall H l=true):Rows.uptoBulkAll l<=1048576:=of_decide_eq_true hk
end
end Go.Proofs.YtcldkjcpofjmhaaGreatDoor
