/- The program: literals are copied, their variables numbered anew. The program: literals are brought to order. A clause in memory. -/
import Derived.Test.YtbddofieljiihaaGreatDoorONumI
namespace Go.Proofs.YtbddofieljiihaaGreatDoor
open Go.RowKit Go.Shelf Go.WideMaps
set_option maxRecDepth 100000
structure jR (mp:Nat) (a b:World):Prop where
 size:a.heap.size≤b.heap.size
 block:∀k,k < a.heap.size→k≠mp→b.heap[k]?=a.heap[k]?
theorem jR.trans {mp:Nat} {a b c:World} (h:jR mp a b) (k:jR mp b c):jR mp a c:=⟨Nat.le_trans h.size k.size,fun i hi hm=>by rw [k.block i (Nat.lt_of_lt_of_le hi h.size) hm,h.block i hi hm]⟩
theorem jR.of_below {mp:Nat} {a b:World} (h:Below a.heap.size a b):jR mp a b:=⟨h.size,fun k hk _=>h.block k hk⟩
theorem jR.of_grown {mp:Nat} {a b:World} (h:a.grownBy b (some mp)):jR mp a b:=⟨h.size,fun k hk hm=>h.block k hk (fun e=>hm (by simpa using e))⟩
theorem jR.own {mp:Nat} {a b:World} {B:Nat} {e:TypeId} {size:Nat} {v:Value} {n:Nat} {xs:List Value} (h:jR mp a b) (ho:a.ownsRow B e size v n xs) (hm:v.ownBlock≠some mp):b.ownsRow B e size v n xs:=by
 obtain ⟨h1,⟨rfl,h2⟩ | ⟨g,cap,cur,rfl,hb,hh,hr⟩⟩:=ho
 ·exact ⟨h1,Or.inl ⟨rfl,h2⟩⟩
 ·refine ⟨h1,Or.inr ⟨g,cap,cur,rfl,hb,?_,hr⟩⟩
  rw [h.block g (Array.getElem?_eq_some_iff.1 hh).1 (fun e=>hm (by simp [Value.ownBlock,e])),hh]
theorem jR.cell {mp:Nat} {a b:World} (h:jR mp a b) {p:Addr} {v:Value} (hc:a.cell? p=some v) (hm:p.block≠mp):b.cell? p=some v:=
 (World.cell?_of_block (h.block _ (World.block_lt_of_cell? a p hc) hm)).trans hc
theorem sF {mp n:Nat} {D:DataW Unit} {a b:World} (h:a.ownsMap Tryz.prog 3 eR mp n D) (hb:b.heap[mp]?=a.heap[mp]?):b.ownsMap Tryz.prog 3 eR mp n D:=by
 obtain ⟨es,clock,hh,hr⟩:=h
 exact ⟨es,clock,by rw [hb];exact hh,hr⟩
def sG (l:List Nd):Prop:=∀n∈l,aH n=true→0≤n.2∧n.2≤1000000000
structure sH (w:World) (mp nb:Nat) (c:List Lt) (k:Nat) (Q:List (Lt×Value)) (wr:World):Prop where
 map:∃D,wr.ownsMap Tryz.prog 3 eR mp (cH (c.take k)).2.length D∧nC D (cH (c.take k)).2
 row:wr.ownsRow w.heap.size 74 2 (.slice (some ⟨nb,0,none⟩) c.length c.length) c.length (aT (Q++List.replicate (c.length - Q.length) pY))
 made:Q.map Prod.fst=(cH (c.take k)).1
 atoms:∀q∈Q,wr.ownsRow w.heap.size 106 2 q.2 q.1.2.length (aP q.1.2)
 once:(Q.map fun q=>q.2.ownBlock).Nodup
 apart:∀q∈Q,q.2.ownBlock≠some nb
 low:Below w.heap.size w wr
structure iC (w wa:World) (mp ab m:Nat) (sn:List Int) (out:List Nd) (wi:World):Prop where
 abe:ab=wa.heap.size
 keep:jR mp wa wi
 row:wi.ownsRow ab 106 2 (.slice (some ⟨ab,0,none⟩) m m) m (aP (out++List.replicate (m - out.length) wM))
 map:∃D,wi.ownsMap Tryz.prog 3 eR mp sn.length D∧nC D sn
 low:Below w.heap.size w wi
theorem iC.below {w wa wi wx:World} {mp ab m:Nat} {sn:List Int} {out:List Nd} (h:iC w wa mp ab m sn out wi) (k:Below wi.heap.size wi wx):iC w wa mp ab m sn out wx:=by
 obtain ⟨D,h1,h2⟩:=h.map
 refine ⟨h.abe,h.keep.trans (jR.of_below k),aZ h.row k (Nat.le_refl _),⟨D,sF h1 (k.block mp ?_),h2⟩,h.low.trans (k.mono h.low.size)⟩
 obtain ⟨es,clock,hh,_⟩:=h1
 exact (Array.getElem?_eq_some_iff.1 hh).1
theorem iC.count {w wa wi wx:World} {mp ab m:Nat} {sn sn':List Int} {out:List Nd} {D:DataW Unit} (h:iC w wa mp ab m sn out wi) (hg:wi.grownBy wx (some mp)) (h1:wx.ownsMap Tryz.prog 3 eR mp sn'.length D) (h2:nC D sn') (hw:w.heap.size≤mp):iC w wa mp ab m sn' out wx:=by
 obtain ⟨D0,h3,_⟩:=h.map
 exact ⟨h.abe,h.keep.trans (jR.of_grown hg),h.row.kept hg (Or.inr (aEn h.row h3)),⟨D,h1,h2⟩,h.low.grown hg h.low.size fun k e=>by simp at e;omega⟩
theorem iC.box {w wa wi:World} {mp ab m g:Nat} {sn:List Int} {out:List Nd} (h:iC w wa mp ab m sn out wi) (hg:ab < g) (hmp:mp < ab) (hw:w.heap.size≤ab) (j:Nat) (u:Value):iC w wa mp ab m sn out (wi.setCell ⟨g,j,none⟩ u):=by
 obtain ⟨D,h1,h2⟩:=h.map
 have e:=h.abe
 refine ⟨e,⟨by have:=h.keep.size;simpa [World.setCell] using this,fun k hk hm=>by rw [heap_setCell_other _ _ _ _ (by simp;omega)];exact h.keep.block k hk hm⟩,qX h.row (by simp [Value.ownBlock];omega) u,⟨D,sF h1 (heap_setCell_other _ _ _ _ (by simp;omega)),h2⟩,h.low.setCell (by simp;omega) u⟩
theorem iC.put {w wa wi:World} {mp ab m:Nat} {sn:List Int} {out:List Nd} (h:iC w wa mp ab m sn out wi) (hl:out.length < m) (hmp:mp < ab) (hw:w.heap.size≤ab) (x:Nd) :
  iC w wa mp ab m sn (out++[x]) ((wi.setCell ⟨ab,out.length * 2,none⟩ (.string x.1)).setCell ⟨ab,out.length * 2+1,none⟩ (.int .i64 x.2)):=by
 obtain ⟨D,h1,h2⟩:=h.map
 have e:=h.abe
 have r1:=(h.row.stored (out.length * 2) (.string x.1)).1
 have r2:=(r1.stored (out.length * 2+1) (.int .i64 x.2)).1
 refine ⟨e,⟨by have:=h.keep.size;simpa [World.setCell] using this,fun k hk hm=>?_⟩,?_,⟨D,sF h1 ?_,h2⟩,(h.low.setCell (by simpa using hw) _).setCell (by simpa using hw) _⟩
 ·rw [heap_setCell_other _ _ _ _ (by simp;omega),heap_setCell_other _ _ _ _ (by simp;omega)];exact h.keep.block k hk hm
 ·rw [aOp _ _ _ (by simp;omega),aEm _ _ _ _ hl] at r2
  simpa using r2
 ·rw [heap_setCell_other _ _ _ _ (by simp;omega),heap_setCell_other _ _ _ _ (by simp;omega)]
theorem iC.cell {w wa wi:World} {mp ab m:Nat} {sn:List Int} {out:List Nd} (h:iC w wa mp ab m sn out wi) (hl:out.length < m):(∃u,wi.cell? ⟨ab,out.length * 2,none⟩=some u)∧(∃u,wi.cell? ⟨ab,out.length * 2+1,none⟩=some u):=by
 have hlen:(aP (out++List.replicate (m - out.length) wM)).length=m * 2:=by rw [aIn];simp;omega
 constructor
 ·rw [h.row.cellAt _ (by omega)];exact ⟨_,List.getElem?_eq_getElem (by omega)⟩
 ·rw [h.row.cellAt _ (by omega)];exact ⟨_,List.getElem?_eq_getElem (by omega)⟩
theorem aP0 (w:World) (x y:Value) (T:TypeId):(w.alloc (.cells #[x,y] T)).cell? ⟨w.heap.size,0,none⟩=some x∧(w.alloc (.cells #[x,y] T)).cell? ⟨w.heap.size,1,none⟩=some y:=by simp
theorem aP1 {st:List Nd×List Int} {s:ByteArray} {x:Int} (hv:s.toList.isEmpty=true):bV st (s,x)=(st.1++[(s,(mA st.2 x).2)],(mA st.2 x).1):=by
 have hvb:aH (s,x)=true:=hv
 unfold bV mA
 rw [hvb]
 by_cases hp:dY st.2 x < 0
 ·simp [hp]
 ·simp [hp]
theorem aP2 {st:List Nd×List Int} {s:ByteArray} {x:Int} (hv:s.toList.isEmpty=false):bV st (s,x)=(st.1++[(s,x)],st.2):=by
 have hvb:aH (s,x)=false:=hv
 unfold bV
 rw [hvb]
 simp
theorem aEu {w:World} {B:Nat} {e:TypeId} {size:Nat} {v:Value} {n g:Nat} {xs:List Value} (h:w.ownsRow B e size v n xs) (hv:v.ownBlock=some g):g < w.heap.size:=by
 obtain ⟨_,⟨rfl,_⟩ | ⟨g',cap,cur,rfl,_,hg,_⟩⟩:=h
 ·simp [Value.ownBlock] at hv
 ·simp [Value.ownBlock] at hv
  subst hv
  exact (Array.getElem?_eq_some_iff.1 hg).1
theorem sH.next {w wo wi:World} {o:Obj} {mp nb k:Nat} {c:List Lt} {Q:List (Lt×Value)} {xb:Bool} {xl:List Nd} (h:sH w mp nb c k Q wo) (hnb:nb≠mp) (hw:w.heap.size≤nb) (hk:k < c.length)
  (hst:cH (c.take (k+1))=cS (cH (c.take k)) (xb,xl))
  (hi:iC w (wo.alloc o) mp (wo.heap.size+1) xl.length (dC xl (cH (c.take k)).2).2 (dC xl (cH (c.take k)).2).1 wi) :
  (∃u,wi.cell? ⟨nb,k * 2,none⟩=some u)∧(∃u,wi.cell? ⟨nb,k * 2+1,none⟩=some u)∧wi.frozen? ⟨nb,k * 2,none⟩=false∧wi.frozen? ⟨nb,k * 2+1,none⟩=false∧
  sH w mp nb c (k+1) (Q++[((xb,(dC xl (cH (c.take k)).2).1),.slice (some ⟨wo.heap.size+1,0,none⟩) xl.length xl.length)]) ((wi.setCell ⟨nb,k * 2,none⟩ (.bool xb)).setCell ⟨nb,k * 2+1,none⟩ (.slice (some ⟨wo.heap.size+1,0,none⟩) xl.length xl.length)):=by
 have hq:Q.length=k:=by
  have h1:=congrArg List.length h.made
  rw [(pM _).1] at h1
  simp at h1
  omega
 have hal:Below wo.heap.size wo (wo.alloc o):=(Below.refl _ _).alloc (Nat.le_refl _) _
 have hrl:=(tE xl (cH (c.take k)).2).1
 have hnlt:nb < wo.heap.size:=aEu h.row rfl
 have row1:=hi.keep.own (aZ h.row hal (Nat.le_refl _)) (by simp [Value.ownBlock];exact hnb)
 have hlen:(aT (Q++List.replicate (c.length - Q.length) pY)).length=c.length * 2:=by
  have:∀P:List (Lt×Value),(aT P).length=P.length * 2:=by
   intro P;induction P with
   | nil=>rfl
   | cons x r ih=>rw [wN];simp [ih];omega
  rw [this];simp;omega
 obtain ⟨D,hm1,hm2⟩:=hi.map
 refine ⟨?_,?_,row1.frozenAt _,row1.frozenAt _,?_⟩
 ·rw [row1.cellAt _ (by omega)];exact ⟨_,List.getElem?_eq_getElem (by omega)⟩
 ·rw [row1.cellAt _ (by omega)];exact ⟨_,List.getElem?_eq_getElem (by omega)⟩
 have r1:=(row1.stored (k * 2) (.bool xb)).1
 have r2:=(r1.stored (k * 2+1) (.slice (some ⟨wo.heap.size+1,0,none⟩) xl.length xl.length)).1
 have hcs:=aOq (Q++List.replicate (c.length - Q.length) pY) k ((xb,(dC xl (cH (c.take k)).2).1),.slice (some ⟨wo.heap.size+1,0,none⟩) xl.length xl.length) (by simp;omega)
 refine ⟨⟨D,?_,?_⟩,?_,?_,?_,?_,?_,?_⟩
 ·rw [hst]
  exact sF hm1 (by rw [heap_setCell_other _ _ _ _ (by simpa using fun e=>hnb e.symm),heap_setCell_other _ _ _ _ (by simpa using fun e=>hnb e.symm)])
 ·rw [hst];exact hm2
 ·rw [show (aT (Q++List.replicate (c.length - Q.length) pY)).set (k * 2) (.bool xb)=(aT (Q++List.replicate (c.length - Q.length) pY)).set (k * 2) (.bool (((xb,(dC xl (cH (c.take k)).2).1),(Value.slice (some ⟨wo.heap.size+1,0,none⟩) xl.length xl.length)):Lt×Value).1.1) from rfl] at r2
  rw [hcs] at r2
  have hsf:=aEm Q pY ((xb,(dC xl (cH (c.take k)).2).1),.slice (some ⟨wo.heap.size+1,0,none⟩) xl.length xl.length) c.length (by omega)
  rw [hq] at hsf
  rw [hq,hsf] at r2
  simpa [hq] using r2
 ·rw [hst,List.map_append,h.made];rfl
 ·intro q hqm
  rcases List.mem_append.1 hqm with hqm | hqm
  ·obtain ⟨D0,hm0,_⟩:=h.map
   have a1:=hi.keep.own (aZ (h.atoms q hqm) hal (Nat.le_refl _)) (aEn (h.atoms q hqm) hm0)
   have hap:=h.apart q hqm
   exact qX (qX a1 (by simpa using fun e=>hap e.symm) _) (by simpa using fun e=>hap e.symm) _
  ·simp at hqm
   subst hqm
   have a1:=fS hi.row (show w.heap.size≤wo.heap.size+1 by have:=h.low.size;omega)
   rw [show xl.length - (dC xl (cH (c.take k)).2).1.length=0 by omega] at a1
   simp only [List.replicate_zero,List.append_nil] at a1
   simp only [hrl]
   exact qX (qX a1 (by simp [Value.ownBlock];omega) _) (by simp [Value.ownBlock];omega) _
 ·rw [List.map_append,List.nodup_append]
  refine ⟨h.once,by simp,?_⟩
  intro a ha b hb
  simp at hb
  subst hb
  simp only [List.mem_map] at ha
  obtain ⟨q,hqm,rfl⟩:=ha
  intro e
  have:=aEu (g:=wo.heap.size+1) (h.atoms q hqm) e
  omega
 ·intro q hqm
  rcases List.mem_append.1 hqm with hqm | hqm
  ·exact h.apart q hqm
  ·simp at hqm
   subst hqm
   simp [Value.ownBlock];omega
 ·exact (hi.low.setCell (by simpa using hw) _).setCell (by simpa using hw) _
set_option maxHeartbeats 4000000 in
theorem aP3 (a:Option Addr) (cp:Nat) (c:List Lt) (w:World) (h:bP w a c) (hv:∀l∈c,sG l.2) (hc:aN c≤100000) (hl:c.length≤100000) :
  Calls Tryz.prog 76 #[.slice a c.length cp] w fun e w'=>∃(nb:Nat) (Q:List (Lt×Value)),e=.returned (.slice (some ⟨nb,0,none⟩) c.length c.length)∧sH w w.heap.size nb c c.length Q w':=by
 obtain ⟨iL,hL,hL0,hL1,hL2⟩:=info_parts qP
 obtain ⟨iN,hN,hN0,hN1,hN2⟩:=info_parts pL
 have hmm:=@run_makeMap Tryz.prog
 have HH:=aA h
 have HV:=aA hv
 clear h hv
 go_enter Tryz.func76,Tryz.ntmps76
 go_wp2_with (first
  | (at_make;refine wpList_make_full _ rfl _ _ 24 rfl w.heap.size 74 iL (.agg #[.bool false,.slice none 0 0]) 2 Tryz.underlying24 hL hL0 hL1 .i64 .i64 _ _ c.length rfl rfl rfl rfl ?m1 ?m2 ?m3 ?_)
  | go_in)
 case m1=>rw [hL2];omega
 case m2=>unfold maxLen;omega
 case m3=>simp
 intro w2 ho2 hg2
 have HS2:Hid (sH w w.heap.size (w.heap.size+1) c 0 [] w2):=aA (by
  have hm:(w.alloc (.map #[] 0)).ownsMap Tryz.prog 3 eR w.heap.size 0 (.map []):=World.ownsMap_made _ _ _ _
  refine ⟨⟨.map [],sF hm (hg2.block _ (by simp) (by simp)),nC.start⟩,?_,rfl,by simp,by simp,by simp,((Below.refl _ _).alloc (Nat.le_refl _) _).grown hg2 (by simp) (by simp)⟩
  rw [aOu] at ho2
  simpa using ho2)
 clear ho2 hg2
 go_wp2
 go_loopw [16] (fun i wr=>∃(k:Nat) (Q:List (Lt×Value)),k≤c.length∧i=.int .i64 k∧sH w w.heap.size (w.heap.size+1) c k Q wr) (fun i _=>c.length - (intOf i).toNat)
 case atStart=>exact ⟨0,[],Nat.zero_le _,rfl,HS2.out⟩
 case round=>
  rename World=>wo
  obtain ⟨k,Q,hk,rfl,hS⟩:=hrel
  have hb:=hS.low
  have hbs:=hb.size
  by_cases hlt:k < c.length
  ·have hlti:(k:Int) < (c.length:Int):=by omega
   obtain ⟨b,o,xa,xc,rfl,e1,f1,hX⟩:=HH.out.cell k hlt
   have e2:=Below.at' hb (Nat.le_refl _) e1
   have f2:=Below.at' hb (Nat.le_refl _) f1
   have hvx:=HV.out c[k] (List.getElem_mem _)
   have hxl:=vJ c c[k] (List.getElem_mem _)
   have hst:=aIy c k hlt
   generalize c[k]=x at *
   obtain ⟨xb,xl⟩:=x
   simp only at e2 f2 hX hvx hxl
   have hbx:=aP0 wo (.bool xb) (.slice xa xl.length xc) 74
   have hb1:Below wo.heap.size wo (wo.alloc (.cells #[.bool xb,.slice xa xl.length xc] 74)):=(Below.refl _ _).alloc (Nat.le_refl _) _
   obtain ⟨hbx0,hbx1⟩:=hbx
   have HS:=aA hS
   have HX:=aA hX
   have HVX:=aA hvx
   have HST:=aA hst
   clear hS hX hvx hst e1 f1 hb
   go_wp2_with (first
    | (at_make;refine wpList_make_full _ rfl _ _ 72 rfl (wo.heap.size+1) 106 iN (.agg #[.string ⟨#[]⟩,.int .i64 0]) 2 Tryz.underlying72 hN hN0 hN1 .i64 .i64 _ _ xl.length rfl rfl rfl rfl ?n1 ?n2 ?n3 ?_)
    | go_in)
   case n1=>rw [hN2];omega
   case n2=>unfold maxLen;omega
   case n3=>simp
   intro w3 ho3 hg3
   obtain ⟨wa,hwa⟩ : ∃wa,wa=wo.alloc (.cells #[.bool xb,.slice xa xl.length xc] 74):=⟨_,rfl⟩
   have hsz:wo.heap.size+1=wa.heap.size:=by rw [hwa];simp
   have HI0:Hid (iC w wa w.heap.size (wo.heap.size+1) xl.length (cH (c.take k)).2 [] w3):=aA (by
    obtain ⟨D,hm1,hm2⟩:=HS.out.map
    rw [←hwa] at hg3 hb1
    rw [aOt] at ho3
    have hmlt:w.heap.size < wo.heap.size:=by obtain ⟨es,clock,hh,_⟩:=hm1;exact (Array.getElem?_eq_some_iff.1 hh).1
    refine ⟨hsz,⟨hg3.size,fun q hq _=>hg3.block q hq (by simp)⟩,by simpa using ho3,⟨D,sF hm1 ?_,hm2⟩,(HS.out.low.trans (hb1.mono hbs)).grown hg3 (by omega) (by simp)⟩
    rw [hg3.block _ (by omega) (by simp),hb1.block _ hmlt])
   have hmp:w.heap.size < wo.heap.size+1:=by omega
   have c0:w3.cell? ⟨wo.heap.size,1,none⟩=some (.slice xa xl.length xc):=hg3.cell hbx1 (by simp)
   have HWA:=aA hwa
   have hrb:=tE
   clear ho3 hg3
   have HSZ:=aA hsz
   have hsz1:wo.heap.size+1≤wa.heap.size:=by omega
   clear hwa hsz
   go_wp2
   clear c0 hbx0 hbx1 hb1
   go_loopw [28] (fun i wi=>∃j:Nat,j≤xl.length∧i=.int .i64 j∧iC w wa w.heap.size (wo.heap.size+1) xl.length (dC (xl.take j) (cH (c.take k)).2).2 (dC (xl.take j) (cH (c.take k)).2).1 wi) (fun i _=>xl.length - (intOf i).toNat)
   case atStart=>exact ⟨0,Nat.zero_le _,rfl,HI0.out⟩
   case round=>
    obtain ⟨j,hj,rfl,hI⟩:=hrel
    have hrl:=hrb (xl.take j) (cH (c.take k)).2
    have hsb:=pM (c.take k)
    have hcb:=tF c k
    have htl:(xl.take j).length=j:=by simp;omega
    by_cases hjl:j < xl.length
    ·have hjli:(j:Int) < (xl.length:Int):=by omega
     obtain ⟨b3,o3,rfl,e3,f3⟩:=HX.out.cell j hjl
     have e4:=Below.at' hI.low (Nat.le_refl _) e3
     have f4:=Below.at' hI.low (Nat.le_refl _) f3
     have hrt:=aIu xl (cH (c.take k)).2 j hjl
     have hvj:=HVX.out xl[j] (List.getElem_mem _)
     generalize dC (xl.take j) (cH (c.take k)).2=R at *
     generalize xl[j]=nd at *
     obtain ⟨out,sn⟩:=R
     obtain ⟨s,x⟩:=nd
     simp only at e4 f4 hI hrl hvj
     have hol:out.length=j:=by omega
     have hsn:sn.length≤1000000:=by omega
     have hki:=hI.keep.size
     have hbi:Below wr.heap.size wr (wr.alloc (.cells #[.string s,.int .i64 x] 106)):=(Below.refl _ _).alloc (Nat.le_refl _) _
     have CV:=aA (fun wx=>nE s x wx)
     have hlb:=hI.low.size
     have hblk:wo.heap.size+1 < wr.heap.size:=by
      obtain ⟨⟨u,hu⟩,_⟩:=hI.cell (by omega)
      exact World.block_lt_of_cell? wr _ hu
     have HI:=aA hI
     have HOL:=aA hol
     have HRT:=aA hrt
     have HVJ:=aA hvj
     clear hI hol hrt hvj e3 f3 hrl hrb hsb hcb htl hbi
     by_cases hv:s.toList.isEmpty=true
     ·have hxx:=HVJ.out hv
      obtain ⟨hx0,hx1⟩:=hxx
      have HRS:=aA (HRT.out.trans (aP1 hv))
      rw [hv] at CV
      clear hv
      go_wp2_with (first
       | (go_at_call 105;refine (aB CN).mono ?_;rintro e w2 ⟨D',rfl,ho2,hn2,hg2⟩;have hI2:=HI1.out.count hg2 ho2 hn2 (Nat.le_refl _);have r1:=hg2.cell q1 (by simp;omega);have r2:=hg2.cell q2 (by simp;omega);have fz2:w2.frozen? ⟨wr.heap.size,1,none⟩=false:=(by rw [World.frozen?_of_block (hg2.block _ (by simp;omega) (by simp;omega))];exact fz1);have hI3:=hI2.box (g:=wr.heap.size) (by omega) hmp (by omega) 1 (.int .i64 (mA sn x).2);obtain ⟨⟨u1,hu1⟩,⟨u2,hu2⟩⟩:=hI3.cell (by have:=HOL.out;omega);have fa1:=hI3.row.frozenAt (j * 2);have fa2:=hI3.row.frozenAt (j * 2+1);have hI4:=hI3.put (by have:=HOL.out;omega) hmp (by omega) (s,(mA sn x).2);rw [HOL.out] at hu1 hu2 hI4;have HI4:=aA hI4;clear ho2 hn2 hg2 hI2 hI3 hI4)
       | (go_at_call 49;refine (aB CV _).mono ?_;rintro e w1 ⟨rfl,hb1⟩;obtain ⟨q1,q2,q3⟩:=gD hb1;have fz1:w1.frozen? ⟨wr.heap.size,1,none⟩=false:=(by rw [World.frozen?_of_block (hb1.block _ (by simp))];simp);have hI1:=HI.out.below q3;have hq3:=q3.size;have hw1:wr.heap.size < w1.heap.size:=(by have:=hb1.size;simp at this;omega);obtain ⟨D,hm1,hm2⟩:=hI1.map;have CN:=aA (aOo w.heap.size D sn x w1 hm1 hm2 hx0 hx1 hsn);have HI1:=aA hI1;clear hb1 q3 hI1 hm1 hm2))
      go_roundw
      case rel=>exact ⟨j+1,by omega,by go_num,by rw [HRS.out];exact HI4.out⟩
      case measure=>simp [intOf];omega
     ·have hv':s.toList.isEmpty=false:=by simpa using hv
      have HRS:=aA (HRT.out.trans (aP2 hv'))
      rw [hv'] at CV
      clear hv hv'
      go_wp2_with (first
       | (go_at_call 49;refine (aB CV _).mono ?_;rintro e w1 ⟨rfl,hb1⟩;obtain ⟨q1,q2,q3⟩:=gD hb1;have hI3:=HI.out.below q3;obtain ⟨⟨u1,hu1⟩,⟨u2,hu2⟩⟩:=hI3.cell (by have:=HOL.out;omega);have fa1:=hI3.row.frozenAt (j * 2);have fa2:=hI3.row.frozenAt (j * 2+1);have hI4:=hI3.put (by have:=HOL.out;omega) hmp (by omega) (s,x);rw [HOL.out] at hu1 hu2 hI4;have HI4:=aA hI4;clear hb1 q3 hI3 hI4))
      go_roundw
      case rel=>exact ⟨j+1,by omega,by go_num,by rw [HRS.out];exact HI4.out⟩
      case measure=>simp [intOf];omega
    ·have hjli:¬((j:Int) < (xl.length:Int)):=by omega
     have hje:j=xl.length:=by omega
     rw [hje,List.take_length] at hI
     have hwa:=HWA.out
     have hmlt:w.heap.size < wo.heap.size:=by obtain ⟨D,hm1,_⟩:=HS.out.map;obtain ⟨es,clock,hh,_⟩:=hm1;exact (Array.getElem?_eq_some_iff.1 hh).1
     have b0:wr.cell? ⟨wo.heap.size,0,none⟩=some (.bool xb):=hI.keep.cell (by rw [hwa];simp) (by simp;omega)
     rw [hwa] at hI
     obtain ⟨⟨u1,hu1⟩,⟨u2,hu2⟩,fa1,fa2,hN1⟩:=HS.out.next (by omega) (by omega) hlt HST.out hI
     have HN1:=aA hN1
     clear hN1 hI hwa hje hrl hsb hcb htl hrb
     go_wp2
     go_roundw
     case rel=>exact ⟨k+1,_,by omega,by go_num,HN1.out⟩
     case measure=>simp [intOf];omega
  ·have hlti:¬((k:Int) < (c.length:Int)):=by omega
   have hke:k=c.length:=by omega
   rw [hke] at hS
   have HS:=aA hS
   clear hS
   go_wp2
   go_ret
   exact ⟨_,rfl,_,HS.out⟩
theorem aA9 {w':World} {B:Nat} {a:Option Addr} {cap:Nat} {P:List (Lt×Value)} {c:List Lt} (ho:w'.ownsRow B 74 2 (.slice a c.length cap) P.length (aT P)) (hP:P.map Prod.fst=c) (hA:∀p∈P,jN w' p.2 p.1.2) (hf:c.length≤4398046511104):bP w' a c:=by
 subst hP
 obtain ⟨a',cap',e,hc⟩:=rT ho
 simp at e
 obtain ⟨rfl,_⟩:=e
 refine ⟨hf,fun k hk=>?_⟩
 have hk':k < P.length:=by simpa using hk
 obtain ⟨g,rfl,h1,h2⟩:=hc k hk'
 obtain ⟨aa,cp,h3,h4⟩:=hA P[k] (List.getElem_mem _)
 rw [h3] at h2
 refine ⟨g,0,aa,cp,rfl,?_,?_,?_⟩
 ·simpa using h1
 ·simpa using h2
 ·simpa using h4
structure sI (w:World) (c:List Lt) (v:Value) (nb:Nat) (Q:List (Lt×Value)) (w':World):Prop where
 val:v=.slice (some ⟨nb,0,none⟩) (aS c).length (aS c).length
 made:Q.map Prod.fst=aS c
 row:w'.ownsRow w.heap.size 74 2 (.slice (some ⟨nb,0,none⟩) (aS c).length (aS c).length) (aS c).length (aT Q)
 atoms:∀q∈Q,w'.ownsRow w.heap.size 106 2 q.2 q.1.2.length (aP q.1.2)
 once:(Q.map fun q=>q.2.ownBlock).Nodup
 apart:∀q∈Q,q.2.ownBlock≠some nb
 low:Below w.heap.size w w'
set_option maxHeartbeats 1000000 in
theorem aEv (a:Option Addr) (cp:Nat) (c:List Lt) (w:World) (h:bP w a c) (hv:∀l∈c,sG l.2) (hc:aN c≤100000) (hl:c.length≤100000) :
  Calls Tryz.prog 46 #[.slice a c.length cp] w fun e w'=>∃v nb Q,e=.returned v∧sI w c v nb Q w':=by
 have CD:=aA (aEz a cp c w h)
 obtain ⟨d1,d2,d3⟩:=qO c
 have CN:=aA (fun a' cp' wx (hx:bP wx a' (bQ c))=>aP3 a' cp' (bQ c) wx hx (fun l hlm=>hv l (d3 l hlm)) (by omega) (by omega))
 have hd:(bQ c).length≤100000:=by omega
 clear d1 d2 d3 hv hc hl
 go_enter Tryz.func46,Tryz.ntmps46
 go_wp2_with (first
  | (go_at_call 76;refine (aB CN va vcp w1 HL.out).mono ?_;rintro e w2 ⟨nb,Q,rfl,hN⟩;have HN:=aA hN;clear hN)
  | (go_at_call 50;refine (aB CD).mono ?_;rintro e w1 ⟨v,P,rfl,hP,hA,ho,hb⟩;obtain ⟨va,vcp,rfl⟩:=aR ho;have hPl:P.length=(bQ c).length:=(by rw [←hP];simp);have HL:=aA (aA9 (w':=w1) (B:=w.heap.size) (a:=va) (P:=P) (c:=bQ c) (cap:=vcp) (by rw [←hPl];exact ho) hP (fun p hp=>(hA p hp).below hb (Nat.le_refl _)) (by omega));rw [hPl];have HB:=aA hb;clear hP hA ho hb hPl))
 go_ret
 have hN:=HN.out
 have hq:Q.length=(bQ c).length:=by
  have h1:=congrArg List.length hN.made
  rw [(pM _).1] at h1
  simpa using h1
 have hol:(aS c).length=(bQ c).length:=by unfold aS;exact (pM _).1
 have hm:=hN.made
 rw [List.take_length] at hm
 have hw:=HB.out.size
 have hr:=hN.row
 rw [hq,Nat.sub_self,List.replicate_zero,List.append_nil] at hr
 exact ⟨_,nb,Q,rfl,by rw [hol];rfl,hm,by rw [hol];exact fS hr hw,fun q hqm=>fS (hN.atoms q hqm) hw,hN.once,hN.apart,HB.out.trans (hN.low.mono hw)⟩
end Go.Proofs.YtbddofieljiihaaGreatDoor
namespace Go.Proofs.YtbddofieljiihaaGreatDoor
open Go.RowKit
set_option maxRecDepth 100000
def bK (B:Nat) (w:World) (v:Value) (out:List Lt):Prop:=∃Q:List (Lt×Value),Q.map Prod.fst=out∧w.ownsRow B 74 2 v Q.length (aT Q)∧(∀q∈Q,tV w B q.2 q.1.2)∧((Q.map Prod.snd).filterMap Value.ownBlock).Nodup
theorem bK.nil (B:Nat) (w:World):bK B w (.slice none 0 0) []:=⟨[],rfl,World.ownsRow_nil _ _ _ _,fun q hq=>by simp at hq,by simp⟩
end Go.Proofs.YtbddofieljiihaaGreatDoor
