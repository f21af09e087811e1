import Derived.Test.YtcldkjcpofjmhaaGreatDoorPDistF
import Derived.Test.YtcldkjcpofjmhaaGreatDoorLMemF
import Derived.RangeFuncNested
import Derived.RangeFuncBound
import Derived.RangeFuncCalls
import Derived.RangeFuncLeaves
open Array renaming getElem?_eq_some_iff→zz
open List renaming getElem?_eq_getElem→zv,replicate→zu,getElem_mem→zt,replicate_zero→zl,take_length→zj,length→zi
open Nat renaming le_refl→zy,le_succ→zs,le_trans→zr,lt_succ_self→zq
open Or renaming inr→zk,inl→zg
namespace Go.Proofs.YtcldkjcpofjmhaaGreatDoor
open _root_.Go.Proofs.Tryz renaming prog→zp
open Value renaming ownBlock→zx
open World renaming putObj_heap_other→zw,block_lt_of_cell?→zo,frozen?_of_block→zn,alloc_heap_new→zm
set_option maxHeartbeats 4000000
set_option maxRecDepth 100000
variable{sn:List Int}{c:List Lt}{out:List Nd}{S:List TypeId}{B B' ab m mp n:Nat}{v:Value}{U V W a b w wa wi:World}
section
open Go.RowKit Go.Shelf Go.WideMaps
structure kR(mp:Nat)(a b:World):Prop where
 size:a.heap.size<=b.heap.size
 block:∀k,k<a.heap.size->k≠mp->b.heap[k]?=a.heap[k]?
theorem kR.trans{mp:Nat}{a b c:World}(h:kR mp a b)(k:kR mp b c):kR mp a c:=⟨zr h.size k.size,λi hi hm=>by rw [k.block i (Nat.lt_of_lt_of_le hi h.size) hm,h.block i hi hm]⟩
theorem kR.of_below(h:Below a.heap.size a b):kR mp a b:=⟨h.size,λk hk _=>h.block k hk⟩
theorem kR.of_grown(h:a.grownBy b (some mp)):kR mp a b:=⟨h.size,λk hk hm=>h.block k hk (λe=>hm (by simpa using e))⟩
theorem kR.own{e:TypeId}{size:Nat}{xs:List Value}(h:kR mp a b)(ho:a.ownsRow B e size v n xs)(hm:v.ownBlock≠some mp):b.ownsRow B e size v n xs:=by
 obtain ⟨h1,⟨rfl,h2⟩ | ⟨g,cap,cur,rfl,hb,hh,hr⟩⟩:=ho
 ·exact ⟨h1,zg ⟨rfl,h2⟩⟩
 ·refine ⟨h1,zk ⟨g,cap,cur,rfl,hb,?_,hr⟩⟩;rw [h.block g (zz.1 hh).1 (λe=>hm (by simp [zx,e])),hh]
theorem kR.cell(h:kR mp a b){p:Addr}{v:Value}(hc:a.cell? p=some v)(hm:p.block≠mp):b.cell? p=some v:=
 (World.cell?_of_block (h.block _ (zo a p hc) hm)).trans hc
theorem uZ{D:DataW Unit}(h:a.ownsMap zp 3 fW mp n D)(hb:b.heap[mp]?=a.heap[mp]?):b.ownsMap zp 3 fW mp n D:=by obtain ⟨es,clock,hh,hr⟩:=h;exact ⟨es,clock,by rw [hb];exact hh,hr⟩
def vA(l:List Nd):Prop:=∀n∈l,aF n=true->0<=n.2/\n.2<=1000000000
structure vD(w:World)(mp nb:Nat)(c:List Lt)(k:Nat)(Q:List (Lt×Value))(wr:World):Prop where
 map:∃D,wr.ownsMap zp 3 fW mp (cQ (c.take k)).2.length D/\oK D (cQ (c.take k)).2
 row:wr.ownsRow w.heap.size 39 2 (.slice (some ⟨nb,0,none⟩) c.length c.length) c.length (bA (Q++zu (c.length-Q.length) sD))
 made:Q.map Prod.fst=(cQ (c.take k)).1
 atoms:∀q∈Q,wr.ownsRow w.heap.size 36 2 q.2 q.1.2.length (aG q.1.2)
 once:(Q.map λq=>q.2.ownBlock).Nodup
 apart:∀q∈Q,q.2.ownBlock≠some nb
 low:Below w.heap.size w wr
structure jO(w wa:World)(mp ab m:Nat)(sn:List Int)(out:List Nd)(wi:World):Prop where
 abe:ab=wa.heap.size
 keep:kR mp wa wi
 row:wi.ownsRow ab 36 2 (.slice (some ⟨ab,0,none⟩) m m) m (aG (out++zu (m-out.length) zM))
 map:∃D,wi.ownsMap zp 3 fW mp sn.length D/\oK D sn
 low:Below w.heap.size w wi
theorem jO.below{wx:World}(h:jO w wa mp ab m sn out wi)(k:Below wi.heap.size wi wx):jO w wa mp ab m sn out wx:=by obtain ⟨D,h1,h2⟩:=h.map;refine ⟨h.abe,h.keep.trans (kR.of_below k),aU h.row k (zy _),⟨D,uZ h1 (k.block mp ?_),h2⟩,h.low.trans (k.mono h.low.size)⟩;obtain ⟨es,clock,hh,_⟩:=h1;exact (zz.1 hh).1
theorem jO.count{wx:World}{sn':List Int}{D:DataW Unit}(h:jO w wa mp ab m sn out wi)(hg:wi.grownBy wx (some mp))(h1:wx.ownsMap zp 3 fW mp sn'.length D)(h2:oK D sn')(hw:w.heap.size<=mp):jO w wa mp ab m sn' out wx:=by obtain ⟨D0,h3,_⟩:=h.map;exact ⟨h.abe,h.keep.trans (kR.of_grown hg),h.row.kept hg (zk (aHm h.row h3)),⟨D,h1,h2⟩,h.low.grown hg h.low.size λk e=>by simp at e;omega⟩
theorem jO.box{g:Nat}(h:jO w wa mp ab m sn out wi)(hg:ab<g)(hmp:mp<ab)(hw:w.heap.size<=ab)(j:Nat)(u:Value):jO w wa mp ab m sn out (wi.setCell ⟨g,j,none⟩ u):=by obtain ⟨D,h1,h2⟩:=h.map;have e:=h.abe;refine ⟨e,⟨by have:=h.keep.size;simpa [World.setCell] using this,λk hk hm=>by rw [heap_setCell_other _ _ _ _ (by simp;omega)];exact h.keep.block k hk hm⟩,qN h.row (by simp [zx];omega) u,⟨D,uZ h1 (heap_setCell_other _ _ _ _ (by simp;omega)),h2⟩,h.low.setCell (by simp;omega) u⟩
theorem jO.put(h:jO w wa mp ab m sn out wi)(hl:out.length<m)(hmp:mp<ab)(hw:w.heap.size<=ab)(x:Nd) :
  jO w wa mp ab m sn (out++[x]) ((wi.setCell ⟨ab,out.length*2,none⟩ (.string x.1)).setCell ⟨ab,out.length*2+1,none⟩ (.int .i64 x.2)):=by
 obtain ⟨D,h1,h2⟩:=h.map;have e:=h.abe;have r1:=(h.row.stored (out.length*2) (.string x.1)).1;have r2:=(r1.stored (out.length*2+1) (.int .i64 x.2)).1;refine ⟨e,⟨by have:=h.keep.size;simpa [World.setCell] using this,λk hk hm=>?_⟩,?_,⟨D,uZ h1 ?_,h2⟩,(h.low.setCell (by simpa using hw) _).setCell (by simpa using hw) _⟩
 ·rw [heap_setCell_other _ _ _ _ (by simp;omega),heap_setCell_other _ _ _ _ (by simp;omega)];exact h.keep.block k hk hm
 ·rw [aSi _ _ _ (by simp;omega),aHl _ _ _ _ hl] at r2;simpa using r2
 ·rw [heap_setCell_other _ _ _ _ (by simp;omega),heap_setCell_other _ _ _ _ (by simp;omega)]
theorem jO.cell(h:jO w wa mp ab m sn out wi)(hl:out.length<m):(∃u,wi.cell? ⟨ab,out.length*2,none⟩=some u)/\(∃u,wi.cell? ⟨ab,out.length*2+1,none⟩=some u):=by
 have hlen:(aG (out++zu (m-out.length) zM)).length=m*2:=by rw [qC];simp;omega
 constructor
 ·rw [h.row.cellAt _ (by omega)];exact ⟨_,zv (by omega)⟩
 ·rw [h.row.cellAt _ (by omega)];exact ⟨_,zv (by omega)⟩
theorem aRn(w:World)(x y:Value)(T:TypeId):(w.alloc (.cells #[x,y] T)).cell? ⟨w.heap.size,0,none⟩=some x/\(w.alloc (.cells #[x,y] T)).cell? ⟨w.heap.size,1,none⟩=some y:=by simp
theorem aRo{st:List Nd×List Int}{s:ByteArray}{x:Int}(hv:s.toList.isEmpty=true):dC st (s,x)=(st.1++[(s,(nJ st.2 x).2)],(nJ st.2 x).1):=by
 have hvb:aF (s,x)=true:=hv;unfold dC nJ;rw [hvb];by_cases hp:eJ st.2 x<0
 ·simp [hp]
 ·simp [hp]
theorem aRp{st:List Nd×List Int}{s:ByteArray}{x:Int}(hv:s.toList.isEmpty=false):dC st (s,x)=(st.1++[(s,x)],st.2):=by have hvb:aF (s,x)=false:=hv;unfold dC;rw [hvb];simp
theorem aC8{e:TypeId}{size:Nat}{g:Nat}{xs:List Value}(h:w.ownsRow B e size v n xs)(hv:v.ownBlock=some g):g<w.heap.size:=by
 obtain ⟨_,⟨rfl,_⟩ | ⟨g',cap,cur,rfl,_,hg,_⟩⟩:=h
 ·simp [zx] at hv
 ·simp [zx] at hv;subst hv;exact (zz.1 hg).1
theorem vD.next{wo:World}{o:Obj}{nb k:Nat}{Q:List (Lt×Value)}{xb:Bool}{xl:List Nd}(h:vD w mp nb c k Q wo)(hnb:nb≠mp)(hw:w.heap.size<=nb)(hk:k<c.length)
  (hst:cQ (c.take (k+1))=eE (cQ (c.take k)) (xb,xl))
  (hi:jO w (wo.alloc o) mp (wo.heap.size+1) xl.length (cG xl (cQ (c.take k)).2).2 (cG xl (cQ (c.take k)).2).1 wi) :
  (∃u,wi.cell? ⟨nb,k*2,none⟩=some u)/\(∃u,wi.cell? ⟨nb,k*2+1,none⟩=some u)/\wi.frozen? ⟨nb,k*2,none⟩=false/\wi.frozen? ⟨nb,k*2+1,none⟩=false/\
  vD w mp nb c (k+1) (Q++[((xb,(cG xl (cQ (c.take k)).2).1),.slice (some ⟨wo.heap.size+1,0,none⟩) xl.length xl.length)]) ((wi.setCell ⟨nb,k*2,none⟩ (.bool xb)).setCell ⟨nb,k*2+1,none⟩ (.slice (some ⟨wo.heap.size+1,0,none⟩) xl.length xl.length)):=by
 have hq:Q.length=k:=by have h1:=congrArg zi h.made;rw [(pG _).1] at h1;simp at h1;omega
 have hal:Below wo.heap.size wo (wo.alloc o):=(Below.refl _ _).alloc (zy _) _;have hrl:=(tM xl (cQ (c.take k)).2).1;have hnlt:nb<wo.heap.size:=aC8 h.row rfl;have row1:=hi.keep.own (aU h.row hal (zy _)) (by simp [zx];exact hnb);have hlen:(bA (Q++zu (c.length-Q.length) sD)).length=c.length*2:=by
  have:∀P:List (Lt×Value),(bA P).length=P.length*2:=by
   intro P;induction P with
   | nil=>rfl
   | cons x r ih=>rw [zN];simp [ih];omega
  rw [this];simp;omega
 obtain ⟨D,hm1,hm2⟩:=hi.map;refine ⟨?_,?_,row1.frozenAt _,row1.frozenAt _,?_⟩
 ·rw [row1.cellAt _ (by omega)];exact ⟨_,zv (by omega)⟩
 ·rw [row1.cellAt _ (by omega)];exact ⟨_,zv (by omega)⟩
 have r1:=(row1.stored (k*2) (.bool xb)).1;have r2:=(r1.stored (k*2+1) (.slice (some ⟨wo.heap.size+1,0,none⟩) xl.length xl.length)).1;have hcs:=aSj (Q++zu (c.length-Q.length) sD) k ((xb,(cG xl (cQ (c.take k)).2).1),.slice (some ⟨wo.heap.size+1,0,none⟩) xl.length xl.length) (by simp;omega);refine ⟨⟨D,?_,?_⟩,?_,?_,?_,?_,?_,?_⟩
 ·rw [hst];exact uZ hm1 (by rw [heap_setCell_other _ _ _ _ (by simpa using λe=>hnb e.symm),heap_setCell_other _ _ _ _ (by simpa using λe=>hnb e.symm)])
 ·rw [hst];exact hm2
 ·rw [show (bA (Q++zu (c.length-Q.length) sD)).set (k*2) (.bool xb)=(bA (Q++zu (c.length-Q.length) sD)).set (k*2) (.bool (((xb,(cG xl (cQ (c.take k)).2).1),(Value.slice (some ⟨wo.heap.size+1,0,none⟩) xl.length xl.length)):Lt×Value).1.1) from rfl] at r2;rw [hcs] at r2;have hsf:=aHl Q sD ((xb,(cG xl (cQ (c.take k)).2).1),.slice (some ⟨wo.heap.size+1,0,none⟩) xl.length xl.length) c.length (by omega);rw [hq] at hsf;rw [hq,hsf] at r2;simpa [hq] using r2
 ·rw [hst,List.map_append,h.made];rfl
 ·intro q hqm;rcases List.mem_append.1 hqm with hqm | hqm
  ·obtain ⟨D0,hm0,_⟩:=h.map;have a1:=hi.keep.own (aU (h.atoms q hqm) hal (zy _)) (aHm (h.atoms q hqm) hm0);have hap:=h.apart q hqm;exact qN (qN a1 (by simpa using λe=>hap e.symm) _) (by simpa using λe=>hap e.symm) _
  ·simp at hqm;subst hqm;have a1:=dN hi.row (show w.heap.size<=wo.heap.size+1 by have:=h.low.size;omega);rw [show xl.length-(cG xl (cQ (c.take k)).2).1.length=0 by omega] at a1;simp only [zl,List.append_nil] at a1;simp only [hrl];exact qN (qN a1 (by simp [zx];omega) _) (by simp [zx];omega) _
 ·rw [List.map_append,List.nodup_append];refine ⟨h.once,by simp,?_⟩;intro a ha b hb;simp at hb;subst hb;simp only [List.mem_map] at ha;obtain ⟨q,hqm,rfl⟩:=ha;intro e;have:=aC8 (g:=wo.heap.size+1) (h.atoms q hqm) e;omega
 ·intro q hqm;rcases List.mem_append.1 hqm with hqm | hqm
  ·exact h.apart q hqm
  ·simp at hqm;subst hqm;simp [zx];omega
 ·exact (hi.low.setCell (by simpa using hw) _).setCell (by simpa using hw) _
theorem aRq(a:Option Addr)(cp:Nat)(c:List Lt)(w:World)(h:bE w a c)(hv:∀l∈c,vA l.2)(hc:aK c<=100000)(hl:c.length<=100000) :
  Calls zp 84 #[.slice a c.length cp] w λe w'=>∃(nb:Nat) (Q:List (Lt×Value)),e=.returned (.slice (some ⟨nb,0,none⟩) c.length c.length)/\vD w w.heap.size nb c c.length Q w':=by
 obtain ⟨iL,hL,hL0,hL1,hL2⟩:=info_parts sF;obtain ⟨iN,hN,hN0,hN1,hN2⟩:=info_parts nB;have hmm:=@run_makeMap zp;have HH:=aA h;have HV:=aA hv;clear h hv;go_enter Tryz.func84,Tryz.ntmps84;go_wp2_with (first
  | (at_make;refine wpList_make_full _ rfl _ _ 22 rfl w.heap.size 39 iL (.agg #[.bool false,.slice none 0 0]) 2 Tryz.underlying22 hL hL0 hL1 .i64 .i64 _ _ c.length rfl rfl rfl rfl ?m1 ?m2 ?m3 ?_)
  | go_in)
 case m1=>rw [hL2];omega
 case m2=>unfold maxLen;omega
 case m3=>simp
 intro w2 ho2 hg2;have HS2:Hid (vD w w.heap.size (w.heap.size+1) c 0 [] w2):=aA (by
  have hm:(w.alloc (.map #[] 0)).ownsMap zp 3 fW w.heap.size 0 (.map []):=World.ownsMap_made _ _ _ _;refine ⟨⟨.map [],uZ hm (hg2.block _ (by simp) (by simp)),oK.start⟩,?_,rfl,by simp,by simp,by simp,((Below.refl _ _).alloc (zy _) _).grown hg2 (by simp) (by simp)⟩;rw [aSn] at ho2;simpa using ho2)
 clear ho2 hg2;go_wp2;go_loopw [16] (λi wr=>∃(k:Nat) (Q:List (Lt×Value)),k<=c.length/\i=.int .i64 k/\vD w w.heap.size (w.heap.size+1) c k Q wr) (λi _=>c.length-(intOf i).toNat);case atStart=>exact ⟨0,[],Nat.zero_le _,rfl,HS2.out⟩
 case round=>
  rename World=>wo
  obtain ⟨k,Q,hk,rfl,hS⟩:=hrel;have hb:=hS.low;have hbs:=hb.size;by_cases hlt:k<c.length
  ·have hlti:(k:Int)<(c.length:Int):=by omega
   obtain ⟨b,o,xa,xc,rfl,e1,f1,hX⟩:=HH.out.cell k hlt;have e2:=Below.at' hb (zy _) e1;have f2:=Below.at' hb (zy _) f1;have hvx:=HV.out c[k] (zt _);have hxl:=zO c c[k] (zt _);have hst:=aI1 c k hlt;generalize c[k]=x at *;obtain ⟨xb,xl⟩:=x;simp only at e2 f2 hX hvx hxl;have hbx:=aRn wo (.bool xb) (.slice xa xl.length xc) 39;have hb1:Below wo.heap.size wo (wo.alloc (.cells #[.bool xb,.slice xa xl.length xc] 39)):=(Below.refl _ _).alloc (zy _) _;obtain ⟨hbx0,hbx1⟩:=hbx;have HS:=aA hS;have HX:=aA hX;have HVX:=aA hvx;have HST:=aA hst;clear hS hX hvx hst e1 f1 hb;go_wp2_with (first
    | (at_make;refine wpList_make_full _ rfl _ _ 37 rfl (wo.heap.size+1) 36 iN (.agg #[.string ⟨#[]⟩,.int .i64 0]) 2 Tryz.underlying37 hN hN0 hN1 .i64 .i64 _ _ xl.length rfl rfl rfl rfl ?n1 ?n2 ?n3 ?_)
    | go_in)
   case n1=>rw [hN2];omega
   case n2=>unfold maxLen;omega
   case n3=>simp
   intro w3 ho3 hg3;obtain ⟨wa,hwa⟩ : ∃wa,wa=wo.alloc (.cells #[.bool xb,.slice xa xl.length xc] 39):=⟨_,rfl⟩;have hsz:wo.heap.size+1=wa.heap.size:=by rw [hwa];simp
   have HI0:Hid (jO w wa w.heap.size (wo.heap.size+1) xl.length (cQ (c.take k)).2 [] w3):=aA (by
    obtain ⟨D,hm1,hm2⟩:=HS.out.map;rw [<-hwa] at hg3 hb1;rw [aSm] at ho3;have hmlt:w.heap.size<wo.heap.size:=by obtain ⟨es,clock,hh,_⟩:=hm1;exact (zz.1 hh).1
    refine ⟨hsz,⟨hg3.size,λq hq _=>hg3.block q hq (by simp)⟩,by simpa using ho3,⟨D,uZ hm1 ?_,hm2⟩,(HS.out.low.trans (hb1.mono hbs)).grown hg3 (by omega) (by simp)⟩;rw [hg3.block _ (by omega) (by simp),hb1.block _ hmlt])
   have hmp:w.heap.size<wo.heap.size+1:=by omega
   have c0:w3.cell? ⟨wo.heap.size,1,none⟩=some (.slice xa xl.length xc):=hg3.cell hbx1 (by simp);have HWA:=aA hwa;have hrb:=tM;clear ho3 hg3;have HSZ:=aA hsz;have hsz1:wo.heap.size+1<=wa.heap.size:=by omega
   clear hwa hsz;go_wp2;clear c0 hbx0 hbx1 hb1;go_loopw [28] (λi wi=>∃j:Nat,j<=xl.length/\i=.int .i64 j/\jO w wa w.heap.size (wo.heap.size+1) xl.length (cG (xl.take j) (cQ (c.take k)).2).2 (cG (xl.take j) (cQ (c.take k)).2).1 wi) (λi _=>xl.length-(intOf i).toNat);case atStart=>exact ⟨0,Nat.zero_le _,rfl,HI0.out⟩
   case round=>
    obtain ⟨j,hj,rfl,hI⟩:=hrel;have hrl:=hrb (xl.take j) (cQ (c.take k)).2;have hsb:=pG (c.take k);have hcb:=sE c k;have htl:(xl.take j).length=j:=by simp;omega
    by_cases hjl:j<xl.length
    ·have hjli:(j:Int)<(xl.length:Int):=by omega
     obtain ⟨b3,o3,rfl,e3,f3⟩:=HX.out.cell j hjl;have e4:=Below.at' hI.low (zy _) e3;have f4:=Below.at' hI.low (zy _) f3;have hrt:=aF4 xl (cQ (c.take k)).2 j hjl;have hvj:=HVX.out xl[j] (zt _);generalize cG (xl.take j) (cQ (c.take k)).2=R at *;generalize xl[j]=nd at *;obtain ⟨out,sn⟩:=R;obtain ⟨s,x⟩:=nd;simp only at e4 f4 hI hrl hvj;have hol:out.length=j:=by omega
     have hsn:sn.length<=1000000:=by omega
     have hki:=hI.keep.size;have hbi:Below wr.heap.size wr (wr.alloc (.cells #[.string s,.int .i64 x] 36)):=(Below.refl _ _).alloc (zy _) _;have CV:=aA (λwx=>qS s x wx);have hlb:=hI.low.size;have hblk:wo.heap.size+1<wr.heap.size:=by obtain ⟨⟨u,hu⟩,_⟩:=hI.cell (by omega);exact zo wr _ hu
     have HI:=aA hI;have HOL:=aA hol;have HRT:=aA hrt;have HVJ:=aA hvj;clear hI hol hrt hvj e3 f3 hrl hrb hsb hcb htl hbi;by_cases hv:s.toList.isEmpty=true
     ·have hxx:=HVJ.out hv;obtain ⟨hx0,hx1⟩:=hxx;have HRS:=aA (HRT.out.trans (aRo hv));rw [hv] at CV;clear hv;go_wp2_with (first
       | (go_at_call 109;refine (aB CN).mono ?_;rintro e w2 ⟨D',rfl,ho2,hn2,hg2⟩;have hI2:=HI1.out.count hg2 ho2 hn2 (zy _);have r1:=hg2.cell q1 (by simp;omega);have r2:=hg2.cell q2 (by simp;omega);have fz2:w2.frozen? ⟨wr.heap.size,1,none⟩=false:=(by rw [zn (hg2.block _ (by simp;omega) (by simp;omega))];exact fz1);have hI3:=hI2.box (g:=wr.heap.size) (by omega) hmp (by omega) 1 (.int .i64 (nJ sn x).2);obtain ⟨⟨u1,hu1⟩,⟨u2,hu2⟩⟩:=hI3.cell (by have:=HOL.out;omega);have fa1:=hI3.row.frozenAt (j*2);have fa2:=hI3.row.frozenAt (j*2+1);have hI4:=hI3.put (by have:=HOL.out;omega) hmp (by omega) (s,(nJ sn x).2);rw [HOL.out] at hu1 hu2 hI4;have HI4:=aA hI4;clear ho2 hn2 hg2 hI2 hI3 hI4)
       | (go_at_call 83;refine (aB CV _).mono ?_;rintro e w1 ⟨rfl,hb1⟩;obtain ⟨q1,q2,q3⟩:=jR hb1;have fz1:w1.frozen? ⟨wr.heap.size,1,none⟩=false:=(by rw [zn (hb1.block _ (by simp))];simp);have hI1:=HI.out.below q3;have hq3:=q3.size;have hw1:wr.heap.size<w1.heap.size:=(by have:=hb1.size;simp at this;omega);obtain ⟨D,hm1,hm2⟩:=hI1.map;have CN:=aA (aSh w.heap.size D sn x w1 hm1 hm2 hx0 hx1 hsn);have HI1:=aA hI1;clear hb1 q3 hI1 hm1 hm2))
      go_roundw;case rel=>exact ⟨j+1,by omega,by go_num,by rw [HRS.out];exact HI4.out⟩
      case measure=>simp [intOf];omega
     ·have hv':s.toList.isEmpty=false:=by simpa using hv
      have HRS:=aA (HRT.out.trans (aRp hv'));rw [hv'] at CV;clear hv hv';go_wp2_with (first
       | (go_at_call 83;refine (aB CV _).mono ?_;rintro e w1 ⟨rfl,hb1⟩;obtain ⟨q1,q2,q3⟩:=jR hb1;have hI3:=HI.out.below q3;obtain ⟨⟨u1,hu1⟩,⟨u2,hu2⟩⟩:=hI3.cell (by have:=HOL.out;omega);have fa1:=hI3.row.frozenAt (j*2);have fa2:=hI3.row.frozenAt (j*2+1);have hI4:=hI3.put (by have:=HOL.out;omega) hmp (by omega) (s,x);rw [HOL.out] at hu1 hu2 hI4;have HI4:=aA hI4;clear hb1 q3 hI3 hI4))
      go_roundw;case rel=>exact ⟨j+1,by omega,by go_num,by rw [HRS.out];exact HI4.out⟩
      case measure=>simp [intOf];omega
    ·have hjli:¬((j:Int)<(xl.length:Int)):=by omega
     have hje:j=xl.length:=by omega
     rw [hje,zj] at hI;have hwa:=HWA.out;have hmlt:w.heap.size<wo.heap.size:=by obtain ⟨D,hm1,_⟩:=HS.out.map;obtain ⟨es,clock,hh,_⟩:=hm1;exact (zz.1 hh).1
     have b0:wr.cell? ⟨wo.heap.size,0,none⟩=some (.bool xb):=hI.keep.cell (by rw [hwa];simp) (by simp;omega);rw [hwa] at hI;obtain ⟨⟨u1,hu1⟩,⟨u2,hu2⟩,fa1,fa2,hN1⟩:=HS.out.next (by omega) (by omega) hlt HST.out hI
     have HN1:=aA hN1;clear hN1 hI hwa hje hrl hsb hcb htl hrb;go_wp2;go_roundw;case rel=>exact ⟨k+1,_,by omega,by go_num,HN1.out⟩
     case measure=>simp [intOf];omega
  ·have hlti:¬((k:Int)<(c.length:Int)):=by omega
   have hke:k=c.length:=by omega
   rw [hke] at hS;have HS:=aA hS;clear hS;go_wp2;go_ret;exact ⟨_,rfl,_,HS.out⟩
theorem tT{w':World}{a:Option Addr}{cap:Nat}{P:List (Lt×Value)}(ho:w'.ownsRow B 39 2 (.slice a c.length cap) P.length (bA P))(hP:P.map Prod.fst=c)(hA:∀p∈P,kC w' p.2 p.1.2)(hf:c.length<=4398046511104):bE w' a c:=by
 subst hP;obtain ⟨a',cap',e,hc⟩:=qR ho;simp at e;obtain ⟨rfl,_⟩:=e;refine ⟨hf,λk hk=>?_⟩;have hk':k<P.length:=by simpa using hk
 obtain ⟨g,rfl,h1,h2⟩:=hc k hk';obtain ⟨aa,cp,h3,h4⟩:=hA P[k] (zt _);rw [h3] at h2;refine ⟨g,0,aa,cp,rfl,?_,?_,?_⟩
 ·simpa using h1
 ·simpa using h2
 ·simpa using h4
structure vE(w:World)(c:List Lt)(v:Value)(nb:Nat)(Q:List (Lt×Value))(w':World):Prop where
 val:v=.slice (some ⟨nb,0,none⟩) (aR c).length (aR c).length
 made:Q.map Prod.fst=aR c
 row:w'.ownsRow w.heap.size 39 2 (.slice (some ⟨nb,0,none⟩) (aR c).length (aR c).length) (aR c).length (bA Q)
 atoms:∀q∈Q,w'.ownsRow w.heap.size 36 2 q.2 q.1.2.length (aG q.1.2)
 once:(Q.map λq=>q.2.ownBlock).Nodup
 apart:∀q∈Q,q.2.ownBlock≠some nb
 low:Below w.heap.size w w'
theorem aHb(a:Option Addr)(cp:Nat)(c:List Lt)(w:World)(h:bE w a c)(hv:∀l∈c,vA l.2)(hc:aK c<=100000)(hl:c.length<=100000) :
  Calls zp 52 #[.slice a c.length cp] w λe w'=>∃v nb Q,e=.returned v/\vE w c v nb Q w':=by
 have CD:=aA (aHk a cp c w h);obtain ⟨d1,d2,d3⟩:=qQ c;have CN:=aA (λa' cp' wx (hx:bE wx a' (cK c))=>aRq a' cp' (cK c) wx hx (λl hlm=>hv l (d3 l hlm)) (by omega) (by omega));have hd:(cK c).length<=100000:=by omega
 clear d1 d2 d3 hv hc hl;go_enter Tryz.func52,Tryz.ntmps52;go_wp2_with (first
  | (go_at_call 84;refine (aB CN va vcp w1 HL.out).mono ?_;rintro e w2 ⟨nb,Q,rfl,hN⟩;have HN:=aA hN;clear hN)
  | (go_at_call 85;refine (aB CD).mono ?_;rintro e w1 ⟨v,P,rfl,hP,hA,ho,hb⟩;obtain ⟨va,vcp,rfl⟩:=aS ho;have hPl:P.length=(cK c).length:=(by rw [<-hP];simp);have HL:=aA (tT (w':=w1) (B:=w.heap.size) (a:=va) (P:=P) (c:=cK c) (cap:=vcp) (by rw [<-hPl];exact ho) hP (λp hp=>(hA p hp).below hb (zy _)) (by omega));rw [hPl];have HB:=aA hb;clear hP hA ho hb hPl))
 go_ret;have hN:=HN.out;have hq:Q.length=(cK c).length:=by have h1:=congrArg zi hN.made;rw [(pG _).1] at h1;simpa using h1
 have hol:(aR c).length=(cK c).length:=by unfold aR;exact (pG _).1
 have hm:=hN.made;rw [zj] at hm;have hw:=HB.out.size;have hr:=hN.row;rw [hq,Nat.sub_self,zl,List.append_nil] at hr;exact ⟨_,nb,Q,rfl,by rw [hol];rfl,hm,by rw [hol];exact dN hr hw,λq hqm=>dN (hN.atoms q hqm) hw,hN.once,hN.apart,HB.out.trans (hN.low.mono hw)⟩
end
section
open Go.RowKit
def bM(B:Nat)(w:World)(v:Value)(out:List Lt):Prop:=∃Q:List (Lt×Value),Q.map Prod.fst=out/\w.ownsRow B 39 2 v Q.length (bA Q)/\(∀q∈Q,fP w B q.2 q.1.2)/\((Q.map Prod.snd).filterMap zx).Nodup
theorem bM.nil(B:Nat)(w:World):bM B w (.slice none 0 0) []:=⟨[],rfl,World.ownsRow_nil _ _ _ _,λq hq=>by simp at hq,by simp⟩
end
section
open Go Go.RowKit
structure dD(S:List TypeId)(W W':World):Prop where
 size:W.heap.size<=W'.heap.size
 kc:∀(k:Nat) (cs:Array Value) (T:TypeId),W.heap[k]?=some (Obj.cells cs T (0,0))->T∉S->W'.heap[k]?=some (Obj.cells cs T (0,0))
theorem dD.refl(S:List TypeId)(W:World):dD S W W:=⟨zy _,λ_ _ _ h _=>h⟩
theorem dD.trans{S:List TypeId}{A B C:World}(h:dD S A B)(k:dD S B C):dD S A C:=⟨zr h.size k.size,λi cs T hi ht=>k.kc i cs T (h.kc i cs T hi ht) ht⟩
theorem dD.put(W:World)(l:Nat)(o o':Obj)(hl:W.heap[l]?=some o)(ho:o.isCells=false):dD S W (W.putObj l o'):=
 ⟨by simp,λk cs T hk _=>(zw (by rintro rfl;rw [hl] at hk;cases hk;cases ho)).trans hk⟩
theorem dD.grown{row:Option Nat}(h:U.grownBy V row)(hr:∀r,row=some r->∃o:Obj,U.heap[r]?=some o/\o.isCells=false):dD S U V:=
 ⟨h.size,λi cs T hi _=>(h.block i (zz.1 hi).1 (by
  intro e;obtain ⟨o,h1,h2⟩:=hr i e.symm;rw [h1] at hi;cases hi;cases h2)).trans hi⟩
def lI(S:List TypeId)(N:Nat)(W W':World):Prop:=dD S W W'/\KeepsFrom N W W'
theorem jP{W':World}(h:KeepsFrom B W W')(hB:B<=B'):KeepsFrom B' W W':=⟨h.size,λk o hk h1 h2=>h.same k o (zr hB hk) h1 h2⟩
theorem lI.trans{S:List TypeId}{N:Nat}{A B C:World}(h:lI S N A B)(k:lI S N B C):lI S N A C:=⟨h.1.trans k.1,⟨zr h.2.size k.2.size,λi o hi h1 h2=>k.2.same i o hi (h.2.same i o hi h1 h2) h2⟩⟩
theorem lJ{N:Nat}{A B C:World}(h:KeepsFrom N A B)(k:KeepsFrom N B C):KeepsFrom N A C:=⟨zr h.size k.size,λi o hi h1 h2=>k.same i o hi (h.same i o hi h1 h2) h2⟩
theorem lI.put{N:Nat}(W:World)(l:Nat)(o o':Obj)(hl:W.heap[l]?=some o)(ho:o.isCells=false)(hN:l<N):lI S N W (W.putObj l o'):=
 ⟨dD.put W l o o' hl ho,⟨by simp,λk _ hk h1 _=>(zw (by omega)).trans h1⟩⟩
def tU{α:Type}(F:Fence)(n:Nat)(P:Program)(g:Nat)(lb:Array Value)(Enc:α->Array Value->World->Prop)(S:List TypeId)(L:List α)(W:World):Prop:=
 ∀(l:Nat) (J Jx:Nat->World->Prop),OwnFrom W.heap.size J->OwnFrom W.heap.size Jx->
  (∀k x args W1,L[k]?=some x->J k W1->Enc x args W1->YieldAt F (n-1) P l args W1 λe W'=>
   (e=.returned (.bool true)/\J (k+1) W'/\lI S W.heap.size W1 W')\/(e=.returned (.bool false)/\Jx k W'/\KeepsFrom W.heap.size W1 W'))->
  J 0 W->
  CallsIn F n P g (#[.func (.yield l) #[] #[]]++lb) W λe W'=>(∃v,e=.returned v)/\(J L.length W'\/∃k,Jx k W')
def zJ(B:Nat)(S:List TypeId)(I:Nat->World->Prop)(Ix:Code->Nat->World->Prop)(k:Nat)(W:World):Exit->Act->World->Prop
 | .normal,_,W'=>KeepsFrom B W W'/\dD S W W'/\I (k+1) W'
 | .ret,_,W'=>KeepsFrom B W W'/\Ix .ret k W'
 | .exit i,_,W'=>KeepsFrom B W W'/\Ix (.exit i) k W'
 | .goto t,_,W'=>KeepsFrom B W W'/\Ix (.goto t) k W'
 | .panic _,_,_=>False
 | .outgrown,_,_=>False
theorem sC{β:Type}{I:β->World->Prop}(h:OwnFrom B I)(hB:B<=B'):OwnFrom B' I:=
 λs X Y row hs hg hr=>h s X Y row hs hg (λr e=>⟨zr hB (hr r e).1,(hr r e).2⟩)
def iZ(fn:FuncId)(tmps:Array Value)(ps:Array Tmp)(assign body:Code)(d:Nat)(s:LoopState)(p:Option Code):Loop:=
 {state:=s,pending:=p,fn:=fn,tmps:=tmps,params:=ps,assign:=assign,body:=body,defers:=d}
structure mE(D:Nat)(r:Loop)(W:World):Prop where
 k:W.heap[D]?=some (.deferred (some []))
 l:W.heap[D+1]?=some (.loop r)
theorem mE.own{D:Nat}{r:Loop}(hB:D+1<B):OwnFrom B (λ(_:Nat) W=>mE D r W):=λ_ X Y row hs hg hr=>by
 refine ⟨(hg.block _ (zz.1 hs.k).1 ?_).trans hs.k,(hg.block _ (zz.1 hs.l).1 ?_).trans hs.l⟩;all_goals
  intro e;have:=(hr _ e.symm).1;omega
theorem mE.put{D:Nat}{r:Loop}(h:mE D r W)(r':Loop):mE D r' (W.putObj (D+1) (.loop r')):=
 ⟨(zw (by omega)).trans h.k,World.putObj_heap_same (zz.1 h.l).1⟩
theorem mE.keep{D:Nat}{r:Loop}{W':World}(h:mE D r W)(hB:B<=D)(hk:KeepsFrom B W W'):mE D r W':=
 ⟨hk.same _ _ hB h.k rfl,hk.same _ _ (by omega) h.l rfl⟩
theorem zK{α:Type}{F:Fence}{P:Program}{g:Operand}{ps:Array Tmp}{assign body:Code}{Q:Exit->Act->World->Prop}{a:Act}
  (hro:F.round=none) (h1:1<=n) {gf:Nat} {lb:Array Value} (hg:a.eval g=.func (.func gf) #[] lb) (hFg:F.fn gf) (eg:∀args w,(callFunc gf args).run P w=.ok (.enter gf args) w)
  {Enc:α->Array Value->World->Prop} {S:List TypeId} {L:List α}
  (hseq:∀o o',tU F (n-1) P gf lb Enc S L ((w.alloc o).alloc o'))
  (hps:∀x args W,Enc x args W->args.size=ps.size)
  (I:Nat->World->Prop) (Ix:Code->Nat->World->Prop) (hI:OwnFrom w.heap.size I) (hIx:∀c,OwnFrom w.heap.size (Ix c)) (h0:I 0 w)
  (Ax:α->Act->World->Prop) (hAx:∀x a',OwnFrom w.heap.size (λ(_:Unit) W=>Ax x a' W))
  (hassign:∀(l k:Nat) (x:α) (args:Array Value) (W:World) (K:Act->World->Prop),L[k]?=some x->I k W->Enc x args W->(∀a' W',KeepsFrom w.heap.size W W'->dD S W W'->I k W'->Ax x a' W'->K a' W')->
   assign.wpIn (F.inRound l) (n-1-1) P (Exit.then K (λ_ _ _=>False)) {tmps:=(ps.zip args).foldl (λt (p,v)=>t.setIfInBounds p v) a.tmps,defers:=[]} W)
  (hbody:∀(l k:Nat) (x:α) (a':Act) (W:World),w.heap.size<=l->L[k]?=some x->I k W->Ax x a' W->
   body.wpIn (F.inRound l) (n-1-1) P (zJ w.heap.size S I Ix k W) a' W)
  (hdone:∀(W:World),I L.length W->W.heap[w.heap.size]?=some (.deferred (some []))->Q .normal {a with defers:={target:=.collected w.heap.size,args:=#[]} :: a.defers} W)
  (hstop:∀(c:Code) (k:Nat) (W:World),Ix c k W->W.heap[w.heap.size]?=some (.deferred (some []))->c.wpIn F n P Q {a with defers:={target:=.collected w.heap.size,args:=#[]} :: a.defers} W) :
  (Code.rangeFunc g ps assign body).wpIn F n P Q a w:=by
 refine wpIn_rangeFunc λfn hfn=>?_
 have hL1:mE w.heap.size (iZ fn a.tmps ps assign body w.heap.size .ready none) ((w.alloc (.deferred (some []))).alloc (.loop (iZ fn a.tmps ps assign body w.heap.size .ready none))):=by refine ⟨(Below.heap_alloc _ _ _ (by simp)).trans (zm w _),?_⟩;have:=zm (w.alloc (.deferred (some []))) (.loop (iZ fn a.tmps ps assign body w.heap.size .ready none));rwa [World.size_alloc] at this
 have hz:((w.alloc (.deferred (some []))).alloc (.loop (iZ fn a.tmps ps assign body w.heap.size .ready none))).heap.size=w.heap.size+1+1:=by simp
 rw [hro];have henter:=run_enterLoop_outer (P:=P) (w:=w) fn a.tmps ps assign body;refine ⟨w.heap.size+1,[{target:=.collected w.heap.size,args:=#[]}],(w.alloc (.deferred (some []))).alloc (.loop (iZ fn a.tmps ps assign body w.heap.size .ready none)),{target:=.fn (.func gf) lb,args:=#[.func (.yield (w.heap.size+1)) #[] #[]]},
  (w.alloc (.deferred (some []))).alloc (.loop (iZ fn a.tmps ps assign body w.heap.size .ready none)),gf,#[.func (.yield (w.heap.size+1)) #[] #[]]++lb,(w.alloc (.deferred (some []))).alloc (.loop (iZ fn a.tmps ps assign body w.heap.size .ready none)),henter,?_,?_,?_,λ_=>h1,?_⟩
 ·simp only [resolve,hg];simp [go_sem]
 ·intro f' hf';simp [Target.leads] at hf';subst hf';exact hFg
 ·simp [invoke,go_sem,eg]
 refine (hseq _ _ (w.heap.size+1) (λk W=>I k W/\mE w.heap.size (iZ fn a.tmps ps assign body w.heap.size .ready none) W)
  (λk W=>∃c,Ix c k W/\mE w.heap.size (iZ fn a.tmps ps assign body w.heap.size .done (some c)) W) ?o1 ?o2 ?round ⟨hI.alloc _ (hI.alloc _ h0),hL1⟩).mono ?behind
 case o1=>exact (sC hI (by simp;omega)).and (mE.own (by simp))
 case o2=>
  rintro s X Y row ⟨c,h,h'⟩ hg' hr;exact ⟨c,sC (hIx c) (by simp;omega) s X Y row h hg' hr,mE.own (by simp) s X Y row h' hg' hr⟩
 case round=>
  rintro k x args W hx ⟨hi,hl⟩ he;refine ⟨fn,_,assign,body,run_yield (P:=P) (args:=args) hl.l (hps x args W he),roundIn_of_wpIn hfn (hassign _ k x args W _ hx hi he ?_)⟩;intro a' Wa hkf hkp hia hax;have hla:=hl.keep (zy _) hkf;refine ⟨_,run_beginRound hla.l rfl,?_⟩;have hl2:=hla.put (iZ fn a.tmps ps assign body w.heap.size .busy none);have hi2:=hI.putObj (.loop (iZ fn a.tmps ps assign body w.heap.size .busy none)) hia (zs _) hla.l rfl;have ha2:=(hAx x a').putObj (s:=()) (.loop (iZ fn a.tmps ps assign body w.heap.size .busy none)) hax (zs _) hla.l rfl;have hk2:lI S (w.heap.size+1+1) W _:=lI.trans ⟨hkp,jP hkf (by omega)⟩ (lI.put Wa _ _ (.loop (iZ fn a.tmps ps assign body w.heap.size .busy none)) hla.l rfl (zq _));refine wpIn_mono (hbody _ k x a' _ (zs _) hx hi2 ha2) ?_;rintro e a3 W3 hp;cases e with
  | normal=>
   obtain ⟨hk3,hkp3,hi3⟩:=hp;have hl3:=hl2.keep (zy _) hk3;have hl4:=hl3.put (iZ fn a.tmps ps assign body w.heap.size .ready none);exact ⟨_,_,run_endRound none hl3.l,.inl ⟨rfl,⟨hI.putObj _ hi3 (zs _) hl3.l rfl,hl4⟩,by rw [hz];exact (hk2.trans ⟨hkp3,jP hk3 (by omega)⟩).trans (lI.put _ _ _ _ hl3.l rfl (zq _))⟩⟩
  | ret=>
   obtain ⟨hk3,hi3⟩:=hp;have hl3:=hl2.keep (zy _) hk3;exact ⟨_,_,run_endRound (some .ret) hl3.l,.inr ⟨rfl,⟨.ret,(hIx _).putObj _ hi3 (zs _) hl3.l rfl,hl3.put (iZ fn a.tmps ps assign body w.heap.size .done (some .ret))⟩,by rw [hz];exact (lJ (lJ hk2.2 (jP hk3 (by omega))) (lI.put (S:=S) _ _ _ _ hl3.l rfl (zq _)).2)⟩⟩
  | exit i=>
   obtain ⟨hk3,hi3⟩:=hp;have hl3:=hl2.keep (zy _) hk3;exact ⟨_,_,run_endRound (some (.exit i)) hl3.l,.inr ⟨rfl,⟨.exit i,(hIx _).putObj _ hi3 (zs _) hl3.l rfl,hl3.put (iZ fn a.tmps ps assign body w.heap.size .done (some (.exit i)))⟩,by rw [hz];exact (lJ (lJ hk2.2 (jP hk3 (by omega))) (lI.put (S:=S) _ _ _ _ hl3.l rfl (zq _)).2)⟩⟩
  | goto t=>
   obtain ⟨hk3,hi3⟩:=hp;have hl3:=hl2.keep (zy _) hk3;exact ⟨_,_,run_endRound (some (.goto t)) hl3.l,.inr ⟨rfl,⟨.goto t,(hIx _).putObj _ hi3 (zs _) hl3.l rfl,hl3.put (iZ fn a.tmps ps assign body w.heap.size .done (some (.goto t)))⟩,by rw [hz];exact (lJ (lJ hk2.2 (jP hk3 (by omega))) (lI.put (S:=S) _ _ _ _ hl3.l rfl (zq _)).2)⟩⟩
  | panic ch=>exact hp.elim
  | outgrown=>exact hp.elim
 case behind=>
  rintro e W2 ⟨⟨v,rfl⟩,(⟨hi,hl⟩ | ⟨k,c,hi,hl⟩)⟩
  ·exact ⟨none,_,run_endLoop hl.l (by simp [iZ]),hdone _ (hI.putObj _ hi (zs _) hl.l rfl) ((zw (by omega)).trans hl.k)⟩
  ·exact ⟨some c,_,run_endLoop hl.l (by simp [iZ]),hstop c k _ ((hIx c).putObj _ hi (zs _) hl.l rfl) ((zw (by omega)).trans hl.k)⟩
theorem aHc{α:Type}{F:Fence}{P:Program}{g:Operand}{ps:Array Tmp}{assign body:Code}{Q:Exit->Act->World->Prop}{a:Act}
  (hro:F.round=none) (h1:1<=n) {gf:Nat} {lb:Array Value} (hg:a.eval g=.func (.func gf) #[] lb) (hFg:F.fn gf) (eg:∀args w,(callFunc gf args).run P w=.ok (.enter gf args) w)
  {Enc:α->Array Value->World->Prop} {S:List TypeId} {L:List α}
  (hseq:∀o o',tU F (n-1) P gf lb Enc S L ((w.alloc o).alloc o'))
  (hps:∀x args W,Enc x args W->args.size=ps.size)
  (I:Nat->World->Prop) (Ix:Code->Nat->World->Prop) (hI:OwnFrom w.heap.size I) (hIx:∀c,OwnFrom w.heap.size (Ix c)) (h0:I 0 w)
  (A:α->Act)
  (hassign:∀(l:Nat) (x:α) (args:Array Value) (W:World) (K:Act->World->Prop),Enc x args W->K (A x) W->
   assign.wpIn (F.inRound l) (n-1-1) P (Exit.then K (λ_ _ _=>False)) {tmps:=(ps.zip args).foldl (λt (p,v)=>t.setIfInBounds p v) a.tmps,defers:=[]} W)
  (hbody:∀(l k:Nat) (x:α) (W:World),w.heap.size<=l->L[k]?=some x->I k W->
   body.wpIn (F.inRound l) (n-1-1) P (zJ w.heap.size S I Ix k W) (A x) W)
  (hdone:∀(W:World),I L.length W->W.heap[w.heap.size]?=some (.deferred (some []))->Q .normal {a with defers:={target:=.collected w.heap.size,args:=#[]} :: a.defers} W)
  (hstop:∀(c:Code) (k:Nat) (W:World),Ix c k W->W.heap[w.heap.size]?=some (.deferred (some []))->c.wpIn F n P Q {a with defers:={target:=.collected w.heap.size,args:=#[]} :: a.defers} W) :
  (Code.rangeFunc g ps assign body).wpIn F n P Q a w:=
 zK hro h1 hg hFg eg hseq hps I Ix hI hIx h0 (λx a' _=>a'=A x) (λ_ _ _ _ _ _ h _ _=>h)
  (λl k x args W K _ hi he hK=>hassign l x args W K he (hK _ _ (KeepsFrom.refl _ _) (dD.refl _ _) hi rfl))
  (λl k x a' W hl hx hi ha=>by subst ha;exact hbody l k x W hl hx hi) hdone hstop
end
section
open Go.RowKit
structure Mv(S:List TypeId)(B:Nat)(W W':World):Prop where
 os:W'.os=W.os
 tape:W'.tape=W.tape
 output:W'.output=W.output
 size:W.heap.size<=W'.heap.size
 keep:∀k o,W.heap[k]?=some o->(k<B\/∀cs T,o=.cells cs T (0,0)->T∉S)->W'.heap[k]?=some o
theorem Mv.refl(S:List TypeId)(B:Nat)(W:World):Mv S B W W:=⟨rfl,rfl,rfl,zy _,λ_ _ h _=>h⟩
theorem Mv.trans{S:List TypeId}{B:Nat}{U V W:World}(h:Mv S B U V)(k:Mv S B V W):Mv S B U W:=
 ⟨k.os.trans h.os,k.tape.trans h.tape,k.output.trans h.output,zr h.size k.size,λi o hi ho=>k.keep i o (h.keep i o hi ho) ho⟩
theorem Mv.mono{S':List TypeId}(h:Mv S B U V)(hS:∀t∈S,t∈S')(hB:B'<=B):Mv S' B' U V:=
 ⟨h.os,h.tape,h.output,h.size,λi o hi ho=>h.keep i o hi (by
  rcases ho with ho | ho
  ·exact zg (by omega)
  ·exact zk (λcs T e hm=>ho cs T e (hS _ hm)))⟩
theorem Mv.of_below(h:Below U.heap.size U V):Mv S B U V:=
 ⟨h.os,h.tape,h.output,h.size,λi _ hi _=>(h.block i (zz.1 hi).1).trans hi⟩
theorem Mv.of_grown{row:Option Nat}(h:U.grownBy V row)(hr:∀k,row=some k->B<=k/\∃cs T,U.heap[k]?=some (.cells cs T (0,0))/\T∈S):Mv S B U V:=
 ⟨h.os,h.tape,h.output,h.size,λi o hi ho=>(h.block i (zz.1 hi).1 (by
  intro e;obtain ⟨h1,cs,T,h2,h3⟩:=hr i e.symm;rw [h2] at hi;cases hi;rcases ho with ho | ho
  ·omega
  ·exact ho cs T rfl h3)).trans hi⟩
theorem Mv.cells(h:Mv S B U V){k:Nat}{cs:Array Value}{T:TypeId}(hk:U.heap[k]?=some (.cells cs T (0,0)))(hT:T∉S):V.heap[k]?=some (.cells cs T (0,0)):=
 h.keep k _ hk (zk (λcs' T' e=>by cases e;exact hT))
theorem Mv.below(h:Mv S B U V)(hB:B<=U.heap.size):Below B U V:=
 ⟨h.os,h.tape,h.output,h.size,λk hk=>by
  obtain ⟨o,ho⟩ : ∃o,U.heap[k]?=some o:=⟨_,Array.getElem?_eq_getElem (by omega)⟩;rw [h.keep k o ho (zg hk),ho]⟩
theorem Mv.keepsFrom(h:Mv S B U V):KeepsFrom B' U V:=
 ⟨h.size,λk o _ hk ho=>h.keep k o hk (zk (λcs T e=>by subst e;cases ho))⟩
theorem Mv.row(h:Mv S B U V){e:TypeId}{z:Nat}{v:Value}{n:Nat}{xs:List Value}(hr:U.ownsRow B' e z v n xs)(he:e∉S):V.ownsRow B' e z v n xs:=by
 obtain ⟨h1,⟨rfl,h2⟩ | ⟨g,cap,cur,rfl,hb,hh,hx⟩⟩:=hr
 ·exact ⟨h1,zg ⟨rfl,h2⟩⟩
 ·exact ⟨h1,zk ⟨g,cap,cur,rfl,hb,h.cells hh he,hx⟩⟩
theorem Mv.clause(h:Mv S B U V){v:Value}{c:List Lt}(hc:bM B' U v c)(h1:39∉S)(h2:36∉S):bM B' V v c:=by obtain ⟨Q,q1,q2,q3,q4⟩:=hc;exact ⟨Q,q1,h.row q2 h1,λq hq=>h.row (q3 q hq) h2,q4⟩
theorem Mv.boxed(h:Mv S B U V){k:Nat}{T:TypeId}{v:Value}(hb:Boxed U k T v)(hT:T∉S):Boxed V k T v:=h.cells hb hT
theorem Mv.kps(h:Mv S B U V):dD S U V:=⟨h.size,λ_ _ _ hk ht=>h.cells hk ht⟩
theorem dD.row(h:dD S U V){e:TypeId}{z:Nat}{v:Value}{n:Nat}{xs:List Value}(hr:U.ownsRow B' e z v n xs)(he:e∉S):V.ownsRow B' e z v n xs:=by
 obtain ⟨h1,⟨rfl,h2⟩ | ⟨g,cap,cur,rfl,hb,hh,hx⟩⟩:=hr
 ·exact ⟨h1,zg ⟨rfl,h2⟩⟩
 ·exact ⟨h1,zk ⟨g,cap,cur,rfl,hb,h.kc _ _ _ hh he,hx⟩⟩
theorem dD.clause(h:dD S U V){v:Value}{c:List Lt}(hc:bM B' U v c)(h1:39∉S)(h2:36∉S):bM B' V v c:=by obtain ⟨Q,q1,q2,q3,q4⟩:=hc;exact ⟨Q,q1,h.row q2 h1,λq hq=>h.row (q3 q hq) h2,q4⟩
theorem dD.boxed(h:dD S U V){k:Nat}{T:TypeId}{v:Value}(hb:Boxed U k T v)(hT:T∉S):Boxed V k T v:=h.kc _ _ _ hb hT
structure jH(c:List Lt):Prop where
 len:c.length<=8
 term:∀x∈c,aW x.2 1=true/\x.2.length<=60
theorem aHd{n:Nd}(h:eA n=true):n.1.size<=80:=by
 unfold eA at h;split at h
 ·rename_i h';have:n.1.size=0:=by
   simp [aF] at h';have:=congrArg zi h';rw [ByteArray.toList_eq] at this;simpa using this
  omega
 ·simp at h;exact (aIu _ h.1).2
theorem aC9:∀(l:List Nd) (q:Nat),aW l q=true->∀n∈l,eA n=true
 | [],_,_,n,hn=>by simp at hn
 | x :: r,q,h,n,hn=>by
  unfold aW at h;split at h
  ·cases h
  ·split at h
   ·rename_i hx;rcases List.mem_cons.1 hn with rfl | hn
    ·exact hx
    ·exact aC9 r _ h n hn
   ·cases h
theorem jH.nodes(h:jH c){x:Lt}(hx:x∈c):x.2.length<=60/\0<x.2.length/\∀k (h:k<x.2.length),x.2[k].1.size<=80:=by
 obtain ⟨h1,h2⟩:=h.term x hx;refine ⟨h2,?_,λk hk=>aHd (aC9 _ _ h1 _ (zt hk))⟩;cases hl:x.2 with
 | nil=>rw [hl] at h1;simp [aW] at h1
 | cons=>simp
theorem pD(h:dI c=true):jH c:=by simp only [dI,Bool.and_eq_true,dP,decide_eq_true_eq,List.all_eq_true] at h;exact ⟨h.1.1.1,λx hx=>aQp (h.1.2 x hx)⟩
theorem bM.lits(h:bM B w v c)(hn:jH c):∃a cap,v=.slice a c.length cap/\c.length<=cap/\bE w a c/\aQo w a c:=by
 obtain ⟨Q,q1,q2,q3,q4⟩:=h;subst q1;obtain ⟨a,cap,rfl⟩:=aS q2;refine ⟨a,cap,by simp,?_,tT (P:=Q) (by simpa using q2) rfl (λq hq=>?_) (by have:=hn.len;omega),?_⟩
 ·obtain ⟨_,⟨e,e'⟩ | ⟨g,cap',cur,e,_,_,hc,_⟩⟩:=q2
  ·simp [e']
  ·simp at e;obtain ⟨_,rfl⟩:=e;simpa using hc
 ·obtain ⟨h1,h2,h3⟩:=hn.nodes (x:=q.1) (by simp;exact ⟨_,hq⟩);obtain ⟨aa,cp,e,hx⟩:=rT (q3 q hq) (by omega) (λk hk=>by have:=h3 k hk;omega);exact ⟨aa,cp,e,hx⟩
 ·intro k hk b o aa n cp ea hcell;have hk':k<Q.length:=by simpa using hk
  obtain ⟨a',cap',e,hc⟩:=qR q2;simp at e;obtain ⟨rfl,rfl⟩:=e;obtain ⟨g,e1,_,e3⟩:=hc k hk';rw [ea] at e1;simp at e1;obtain ⟨rfl,rfl⟩:=e1;rw [Nat.zero_add] at hcell;rw [hcell] at e3;obtain ⟨_,⟨e,_⟩ | ⟨g',cap',cur,e,_,_,hcc,_⟩⟩:=q3 Q[k] (zt _)
  ·rw [e] at e3;cases e3;omega
  ·rw [e] at e3;cases e3;exact hcc
end
end Go.Proofs.YtcldkjcpofjmhaaGreatDoor
