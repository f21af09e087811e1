/- The program: literals that hang together by free variables. The program: two lists of literals put together. The program: can literals be made ones that are among others? (all, by group) The program: can literals that hang together be made ones that are among others? -/
import Derived.Test.YthicbnejchpmgaaGreatDoorXOrdD
import Derived.Lib.AppendZeros
import Derived.Deep.SlicePairs
namespace Go.Proofs.YthicbnejchpmgaaGreatDoor
open Go.RowKit Go.Shelf
set_option maxRecDepth 100000
def aJ9 (c G R:List Lt):Prop:=∀l,l∈c↔l∈G∨l∈R
theorem eX.back {w wr:World} {B:Nat} {a:Option Addr} {l:List Nd} (h:eX wr B a l) (k:Below w.heap.size w wr) (hB:B≤w.heap.size):eX w B a l:=
 ⟨⟨h.nodes.few,h.nodes.short,fun j hj=>by
  obtain ⟨b,o,e,h1,h2⟩:=h.nodes.cell j hj
  have hl:b < B:=h.low _ e
  have hb:=k.block b (by omega)
  exact ⟨b,o,e,(World.cell?_of_block hb).symm.trans h1,(World.cell?_of_block hb).symm.trans h2⟩⟩,h.low⟩
set_option maxHeartbeats 4000000 in
theorem aJa (B g:Nat) (dv:Value) (L:aW) (w:World) (b o ccap:Nat) (c:List Lt) (hM:bN w B g dv L) (hC:cK w B (some ⟨b,o,none⟩) c) (hcap:c.length≤ccap) (hF:kW c) (h0:0 < c.length) (hBw:B≤w.heap.size) :
  Calls Tryz.prog 113 #[.pointer (some ⟨g,0,none⟩),.slice (some ⟨b,o,none⟩) c.length ccap] w fun e w'=>∃(G R:List Lt) (ga go gcap:Nat) (ra:Option Addr) (rcap:Nat),e=.returned (.tuple #[.slice (some ⟨ga,go,none⟩) G.length gcap,.slice ra R.length rcap])∧G.length≤gcap∧R.length≤rcap∧
   cK w' B (some ⟨ga,go,none⟩) G∧cK w' B ra R∧aJ9 c G R∧G.length+R.length=c.length∧0 < G.length∧aA8 L G R∧Below w.heap.size w w':=by
 have hc8:=hC.few
 have hi1:(1:Int)≤(ccap:Int):=by omega
 have hi2:(1:Int)≤(c.length:Int):=by omega
 have hi3:(c.length:Int)≤(ccap:Int):=by omega
 obtain ⟨ra0,hra0,htl⟩ : ∃ra,(if ccap=1 then some (⟨b,o,none⟩ : Addr) else some ⟨b,o+2,none⟩)=ra∧cK w B ra c.tail:=by
  refine ⟨_,rfl,?_⟩
  by_cases h1:ccap=1
  ·have:c.tail=[]:=List.eq_nil_of_length_eq_zero (by simp;omega)
   rw [this]
   exact ⟨by simp,fun k hk=>by simp at hk⟩
  ·rw [if_neg h1]
   exact hC.tail
 have HM:=aA hM
 have HC:=aA hC
 have HF:=aA hF
 have HTL:=aA htl
 have HG0:Hid (iA w B b o c[0] w (.slice (some ⟨b,o,none⟩) 1 1) none [c[0]]):=aA (Or.inl ⟨rfl,rfl,rfl⟩)
 clear hM hC hF htl
 obtain ⟨iL,hL,hL0,hL1,hL2⟩:=info_parts rA
 go_enter Tryz.func113,Tryz.ntmps113
 go_wp2_with fail
 go_quiet (fail)
 go_wp2
 have HWD:Hid (Below w.heap.size w (w.drewN nq)):=aA (aN ⟨_,rfl⟩)
 clear hra0 hi1 hi2 hi3
 go_loopw [4,5,6] (fun gv rv kv wr=>∃(kk:Nat) (G R:List Lt) (gk:Option Nat) (ra:Option Addr) (rcap:Nat),kk≤G.length∧kv=.int .i64 kk∧iA w B b o c[0] wr gv gk G∧rv=.slice ra R.length rcap∧R.length≤rcap∧cK wr B ra R∧(∀q,ra=some q→gk≠some q.block)∧Below w.heap.size w wr∧
   (∀l,l∈c↔l∈G∨l∈R)∧G.length+R.length=c.length∧0 < G.length∧(∀x∈G.take kk,∀y∈R,x.2.any (eD L y.2)=false)) (fun _ _ kv _=>c.length - (intOf kv).toNat)
 case atStart=>
  refine ⟨0,[c[0]],c.tail,none,ra0,ccap - 1,Nat.zero_le _,rfl,HG0.out.below HWD.out,?_,by simp;omega,HTL.out.fr (Fr.of_below HWD.out),by simp,HWD.out,?_,by simp;omega,by simp,by simp⟩
  ·simp
  ·intro l
   cases c with
   | nil=>simp at h0
   | cons x r=>simp
 case round=>
  obtain ⟨kk,G,R,gk,ra,rcap,hkk,rfl,hG,rfl,hrc,hR,hq,hb,hmem,hlen,hG0,hsh⟩:=hrel
  have hG8:G.length≤8:=by omega
  obtain ⟨ga,go,gcap,rfl,hgc,hGL⟩:=hG.lits h0 HC.out hb hG8
  have hws:=hb.size
  by_cases hlt:kk < G.length
  ·have hgl:(kk:Int) < (G.length:Int):=by omega
   obtain ⟨x,hx⟩ : ∃x,x=G[kk]:=⟨_,rfl⟩
   have hxc:x∈c:=(hmem x).2 (Or.inl (by rw [hx];exact List.getElem_mem _))
   obtain ⟨htx,hx60⟩:=HF.out x hxc
   have hgkB:∀k,gk=some k→B≤k:=fun k hk=>Nat.le_trans hBw (hG.lt k hk).1
   have HIS:=aA (jR.start (p:=fun y=>x.2.any (eD L y.2)) hG hb)
   have HX:=aA hx
   have HR:=aA hR
   have HQ:=aA hq
   have HMEM:=aA hmem
   have HSH:=aA hsh
   have HGK:=aA hgkB
   have HGLT:=aA hG.lt
   have HB:=aA hb
   clear hx hR hq hmem hsh hgkB hG hb hGL
   go_wp2
   generalize hWR:wr=W0 at *
   clear hWR
   go_loopw [4,7,22] (fun gv av i wi=>∃j:Nat,j≤R.length∧i=.int .i64 j∧jR w W0 B b o c[0] (fun y=>x.2.any (eD L y.2)) gk G (R.take j) wi gv av) (fun _ _ i _=>R.length - (intOf i).toNat)
   case atStart=>exact ⟨0,Nat.zero_le _,rfl,HIS.out⟩
   case round=>
    obtain ⟨j,hj,rfl,hI⟩:=hrel
    by_cases hjl:j < R.length
    ·obtain ⟨gk',hg1,hg2,hg3⟩:=hI.grp
     have hpl:=aIh (fun y=>x.2.any (eD L y.2)) (R.take j)
     have htj:(R.take j).length≤j:=List.length_take_le _ _
     have hGf:(G++(R.take j).filter fun y=>x.2.any (eD L y.2)).length≤8:=by simp;omega
     obtain ⟨ga',go',gcap',rfl,hgc',hGL'⟩:=hg1.lits h0 HC.out hI.low hGf
     have hkl:kk < (G++(R.take j).filter fun y=>x.2.any (eD L y.2)).length:=by simp;omega
     have hkx:(G++(R.take j).filter fun y=>x.2.any (eD L y.2))[kk]=x:=by rw [List.getElem_append_left hlt];exact HX.out.symm
     obtain ⟨b1,o1,xa,xc,e,hs1,x1,x2,hxc1,hX⟩:=hGL'.cell kk hkl
     obtain ⟨rfl,rfl⟩ : ga'=b1∧go'=o1:=by simpa using e
     rw [hkx] at x1 x2 hxc1 hX
     have hRi:=HR.out.move hI.rest HQ.out HGK.out
     obtain ⟨b2,o2,ya,yc,rfl,hs2,y1,y2,hyc,hY⟩:=hRi.cell j hjl
     obtain ⟨y,hy⟩ : ∃y,y=R[j]:=⟨_,rfl⟩
     have hyc2:y∈c:=(HMEM.out y).2 (Or.inr (by rw [hy];exact List.getElem_mem _))
     obtain ⟨hty,hy60⟩:=HF.out y hyc2
     rw [←hy] at y1 y2 hyc hY
     have htk:R.take (j+1)=R.take j++[y]:=by rw [List.take_succ_eq_append_getElem hjl,hy]
     have hMi:=HM.out.below hI.low
     have hk':(kk:Int) < ((G++(R.take j).filter fun y=>x.2.any (eD L y.2)).length:Int):=by omega
     generalize hGG:(G++(R.take j).filter fun y=>x.2.any (eD L y.2))=GG at *
     obtain ⟨xb,xl⟩:=x
     obtain ⟨yb,yl⟩:=y
     simp only at x1 x2 hxc1 hX y1 y2 hyc hY hty hy60 htx hx60 hg1 hg2 hg3
     have hb2:Below wr.heap.size wr (wr.alloc (.cells #[.bool yb,.slice ya yl.length yc] 66)):=(Below.refl _ _).alloc (Nat.le_refl _) _
     have hbx:=sC wr (.bool yb) (.slice ya yl.length yc) 66
     have CS:=aA (fun wx (hx:∃n,wx=(wr.alloc (.cells #[.bool yb,.slice ya yl.length yc] 66)).drewN n)=>aV0 B g dv L wx xb yb xa ya xc yc xl yl ((hMi.below hb2).drawn hx) ((hX.fr (Fr.of_below hb2)).fr ((Fr.refl _ _).drawn hx)) ((hY.fr (Fr.of_below hb2)).fr ((Fr.refl _ _).drawn hx)) htx)
     have x12:=Below.at' hb2 (Nat.le_refl _) x1
     have x22:=Below.at' hb2 (Nat.le_refl _) x2
     obtain ⟨hbx0,hbx1⟩:=hbx
     have HI:=aA (hI.below hb2)
     have HG1:=aA (hg1.below hb2)
     have HG2:=aA hg2
     have HG3:=aA hg3
     have HTK:=aA htk
     have HAY:Hid (oK w B (.slice ya yl.length yc) yl):=aA ⟨ya,yc,rfl,hyc,hY.back hI.low hBw⟩
     clear hI hg1 hg2 hg3 htk hMi hX hY hs1 hs2 hGL' hy hpl hRi
     cases hpv:xl.any (eD L yl) with
     | false=>
      rw [hpv] at CS
      have HPV:=aA hpv
      clear hpv
      go_wp2_with fail
      generalize hWI:wr.alloc (.cells #[.bool yb,.slice ya yl.length yc] 66)=WI at *
      clear hb2 hWI
      go_region_held3 (fun w'=>w'.cell? ⟨ga',go'+kk * 2,none⟩=some (.bool xb)∧w'.cell? ⟨ga',go'+kk * 2+1,none⟩=some (.slice xa xl.length xc)∧w'.cell? ⟨wr.heap.size,0,none⟩=some (.bool yb)∧w'.cell? ⟨wr.heap.size,1,none⟩=some (.slice ya yl.length yc)) (go_keep)
       ((go_at_call 123;refine (aB CS _ (by first | exact ⟨0,rfl⟩ | exact ⟨1,rfl⟩ | exact ⟨_,rfl⟩)).mono ?_;rintro e w1 ⟨rfl,hd1⟩;replace hd1:=sD (W:=WI) (by first | exact ⟨0,rfl⟩ | exact ⟨1,rfl⟩ | exact ⟨_,rfl⟩) hd1;have c0:=Below.at' hd1 (Nat.le_refl _) x12;have c1:=Below.at' hd1 (Nat.le_refl _) x22;have c2:=Below.at' hd1 (Nat.le_refl _) hbx0;have c3:=Below.at' hd1 (Nat.le_refl _) hbx1;have HD1:=aA hd1;clear hd1))
      clear x12 x22 hbx0 hbx1 x1 x2 y1 y2 c0 c1
      obtain ⟨P,hP,hown,hA⟩:=(HI.out.below HD1.out).row
      have HP:=aA hP
      have HA:=aA hA
      have hPl:P.length≤8:=by
       have:=congrArg List.length hP
       simp at this
       have h2:=List.length_filter_le (fun y=>!(xl.any (eD L y.2))) (R.take j)
       omega
      clear hP hA
      have HIN:=aA (HI.out.below HD1.out)
      have hw1s:=(HIN.out).size
      go_wp2_with (first
       | (at_builtin;refine wpList_append_lies _ rfl _ _ 52 rfl W0.heap.size 66 iL (.agg #[.bool false,.slice none 0 0]) 2 32 Tryz.underlying52 hL hL0 hL1 hL2 rfl (by decide) _ _ _ rfl (hown.alloc _) ⟨w1.heap.size,0,none⟩ 1 1 [.bool yb,.slice ya yl.length yc] rfl rfl ?d1 ?d2 (by decide) ?d3 ?d4 ?d5 _ rfl ?_)
       | go_in)
      case d1=>exact iB _ _ _ _ _ (by simp)
      case d2=>first | exact rB _ _ _ _ | exact ⟨rfl,rfl⟩
      case d3=>unfold maxLen;omega
      case d4=>omega
      case d5=>simp;omega
      intro g' cap w2 ho' hgr hat _
      have HN:=aA (jR.apart (y:=(yb,yl)) (HIN.out.below ((Below.refl _ _).alloc (Nat.le_refl _) _)) HPV.out (gQ.more (x:=(yb,yl)) HP.out HA.out HAY.out ho') hgr (hat.imp id fun h=>by rw [h];simp) hws)
      clear ho' hgr hat hown
      go_wp2
      go_roundw
      case rel=>exact ⟨j+1,by omega,by go_num,by rw [HTK.out];exact HN.out⟩
      case measure=>simp [intOf];omega
     | true=>
      rw [hpv] at CS
      have HPV:=aA hpv
      clear hpv
      rcases HG1.out with ⟨hv,hG1,hgn⟩ | ⟨⟨P,hP,hown,hA⟩,hgn,-⟩
      ·have hv':(b=ga'∧o=go')∧GG.length=1∧gcap'=1:=by
        have:=hv
        simp at this
        exact ⟨⟨this.1.1.symm,this.1.2.symm⟩,this.2⟩
       obtain ⟨⟨hb1,hb2'⟩,hGl,hgc1⟩:=hv'
       subst hb1 hb2' hgc1
       obtain ⟨b',o',a0,ac0,e0,-,z1,z2,zc,hZ⟩:=HC.out.cell 0 h0
       obtain ⟨rfl,rfl⟩ : b=b'∧o=o':=by simpa using e0
       have HAZ:Hid (oK w B (.slice a0 c[0].2.length ac0) c[0].2):=aA ⟨a0,ac0,rfl,zc,hZ⟩
       have HGG:Hid (G++(R.take j).filter (fun y=>xl.any (eD L y.2))=[c[0]]):=aA (hGG.trans hG1)
       have HGN:=aA hgn
       have hkx0:(kk:Int) < 1:=by omega
       subst hG1
       clear hv hGl hgn hZ zc hGG hkx hk' hgc' hGf
       go_wp2_with fail
       generalize hWI:wr.alloc (.cells #[.bool yb,.slice ya yl.length yc] 66)=WI at *
       clear hb2 hWI
       go_region_held3 (fun w'=>w'.cell? ⟨b,o+kk * 2,none⟩=some (.bool xb)∧w'.cell? ⟨b,o+kk * 2+1,none⟩=some (.slice xa xl.length xc)∧w'.cell? ⟨wr.heap.size,0,none⟩=some (.bool yb)∧w'.cell? ⟨wr.heap.size,1,none⟩=some (.slice ya yl.length yc)) (go_keep)
        ((go_at_call 123;refine (aB CS _ (by first | exact ⟨0,rfl⟩ | exact ⟨1,rfl⟩ | exact ⟨_,rfl⟩)).mono ?_;rintro e w1 ⟨rfl,hd1⟩;replace hd1:=sD (W:=WI) (by first | exact ⟨0,rfl⟩ | exact ⟨1,rfl⟩ | exact ⟨_,rfl⟩) hd1;have c0:=Below.at' hd1 (Nat.le_refl _) x12;have c1:=Below.at' hd1 (Nat.le_refl _) x22;have c2:=Below.at' hd1 (Nat.le_refl _) hbx0;have c3:=Below.at' hd1 (Nat.le_refl _) hbx1;have HD1:=aA hd1;clear hd1))
       clear x12 x22 hbx0 hbx1 x1 x2 y1 y2 c0 c1
       have HIN:=aA (HI.out.below HD1.out)
       have hw1s:=(HIN.out).size
       have z1':=Below.at' ((HIN.out.below ((Below.refl _ _).alloc (Nat.le_refl _) (.cells #[.bool yb,.slice ya yl.length yc] 66))).low) (Nat.le_refl _) z1
       have z2':=Below.at' ((HIN.out.below ((Below.refl _ _).alloc (Nat.le_refl _) (.cells #[.bool yb,.slice ya yl.length yc] 66))).low) (Nat.le_refl _) z2
       clear z1 z2
       go_wp2_with (first
        | (at_builtin;refine wpList_append_grows _ rfl _ _ 52 rfl 66 iL (.agg #[.bool false,.slice none 0 0]) 2 32 Tryz.underlying52 hL hL0 hL1 hL2 rfl (by decide) (some ⟨b,o,none⟩) 1 1 (aU [(c[0],.slice a0 c[0].2.length ac0)]) (by rfl) (by simp) rfl ?s2 ⟨w1.heap.size,0,none⟩ 1 1 [.bool yb,.slice ya yl.length yc] rfl rfl ?d1 ?d2 (by decide) ?d3 ?d4 ?_)
        | go_in)
       case s2=>
        rintro _ ⟨⟩ q u hu
        rw [Addr.add_lit]
        match q,hu with
        | 0,hu=>simp [aU] at hu;subst hu;simpa using z1'
        | 1,hu=>simp [aU] at hu;subst hu;simpa using z2'
        | q+2,hu=>simp [aU] at hu
       case d1=>exact iB _ _ _ _ _ (by simp)
       case d2=>first | exact rB _ _ _ _ | exact ⟨rfl,rfl⟩
       case d3=>unfold maxLen;omega
       case d4=>omega
       intro v' w2 ho' hgr
       obtain ⟨g',cap,rfl,hge,-⟩:=ho'.form (by omega)
       have HN:=aA (jR.group (y:=(yb,yl)) (gk':=none) (HIN.out.below ((Below.refl _ _).alloc (Nat.le_refl _) _)) HPV.out (by simp) (by rw [←HGN.out];exact HG3.out)
        (by rw [HGG.out];exact iA.more (x:=(yb,yl)) (P:=[(c[0],.slice a0 c[0].2.length ac0)]) rfl (fun q hq=>by simp at hq;subst hq;exact HAZ.out) HAY.out (fG (B':=w.heap.size) ho' (by have:=(HIN.out).low.size;first | (simp;omega) | omega))) hgr (Or.inr (by simpa using hge)) (by simp))
       clear ho' hgr hge
       go_wp2
       go_roundw
       case rel=>exact ⟨j+1,by omega,by go_num,by rw [HTK.out];exact HN.out⟩
       case measure=>simp [intOf];omega
      ·have HP:=aA hP
       have HA:=aA hA
       have HGN:=aA hgn
       have HGG:=aA hGG
       have hPl:P.length≤8:=by
        have:=congrArg List.length hP
        simp at this
        omega
       have HOW:=aA hown
       clear hP hA hgn hGG hown
       go_wp2_with fail
       generalize hWI:wr.alloc (.cells #[.bool yb,.slice ya yl.length yc] 66)=WI at *
       clear hb2 hWI
       go_region_held3 (fun w'=>w'.cell? ⟨ga',go'+kk * 2,none⟩=some (.bool xb)∧w'.cell? ⟨ga',go'+kk * 2+1,none⟩=some (.slice xa xl.length xc)∧w'.cell? ⟨wr.heap.size,0,none⟩=some (.bool yb)∧w'.cell? ⟨wr.heap.size,1,none⟩=some (.slice ya yl.length yc)) (go_keep)
        ((go_at_call 123;refine (aB CS _ (by first | exact ⟨0,rfl⟩ | exact ⟨1,rfl⟩ | exact ⟨_,rfl⟩)).mono ?_;rintro e w1 ⟨rfl,hd1⟩;replace hd1:=sD (W:=WI) (by first | exact ⟨0,rfl⟩ | exact ⟨1,rfl⟩ | exact ⟨_,rfl⟩) hd1;have c0:=Below.at' hd1 (Nat.le_refl _) x12;have c1:=Below.at' hd1 (Nat.le_refl _) x22;have c2:=Below.at' hd1 (Nat.le_refl _) hbx0;have c3:=Below.at' hd1 (Nat.le_refl _) hbx1;have HD1:=aA hd1;clear hd1))
       clear x12 x22 hbx0 hbx1 x1 x2 y1 y2 c0 c1
       have HIN:=aA (HI.out.below HD1.out)
       have hw1s:=(HIN.out).low.size
       have hown:=aY HOW.out HD1.out (Nat.le_refl _)
       go_wp2_with (first
        | (at_builtin;refine wpList_append_lies _ rfl _ _ 52 rfl w.heap.size 66 iL (.agg #[.bool false,.slice none 0 0]) 2 32 Tryz.underlying52 hL hL0 hL1 hL2 rfl (by decide) _ _ _ rfl (hown.alloc _) ⟨w1.heap.size,0,none⟩ 1 1 [.bool yb,.slice ya yl.length yc] rfl rfl ?d1 ?d2 (by decide) ?d3 ?d4 ?d5 _ rfl ?_)
        | go_in)
       case d1=>exact iB _ _ _ _ _ (by simp)
       case d2=>first | exact rB _ _ _ _ | exact ⟨rfl,rfl⟩
       case d3=>unfold maxLen;omega
       case d4=>omega
       case d5=>simp;omega
       intro g' cap w2 ho' hgr hat _
       have HN:=aA (jR.group (y:=(yb,yl)) (gk':=gk') (HIN.out.below ((Below.refl _ _).alloc (Nat.le_refl _) _)) HPV.out HG2.out HG3.out
        (by rw [HGG.out];exact iA.more (x:=(yb,yl)) HP.out HA.out HAY.out ho') (by rw [HGN.out];exact hgr) (by rw [HGN.out];exact hat.imp id fun h=>by rw [h];simp) (fun k hk=>(HG1.out.lt k hk).1))
       clear ho' hgr hat hown
       go_wp2
       go_roundw
       case rel=>exact ⟨j+1,by omega,by go_num,by rw [HTK.out];exact HN.out⟩
       case measure=>simp [intOf];omega
    ·have hRk:R.take j=R:=List.take_of_length_le (by omega)
     rw [hRk] at hI
     have hp:=aIh (fun y=>x.2.any (eD L y.2)) R
     obtain ⟨gk',hg1,hg2,hg3⟩:=hI.grp
     obtain ⟨aa,acap,rfl,ha1,ha2,ha3⟩:=hI.row.lits hI.low (by omega)
     have HG1:=aA hg1
     have HA2:=aA ha2
     have HA3:=aA (fun q (h:aa=some q)=>hg2 q.block (ha3 q h))
     have HL:=aA hI.low
     have HSN:Hid (∀z∈(G++R.filter fun y=>x.2.any (eD L y.2)).take (kk+1),∀y∈R.filter fun y=>!(x.2.any (eD L y.2)),z.2.any (eD L y.2)=false):=aA (by
      intro z hz y hy
      rw [List.take_append_of_le_length (by omega),List.take_succ_eq_append_getElem hlt] at hz
      rw [List.mem_filter] at hy
      rcases List.mem_append.1 hz with hz | hz
      ·exact HSH.out z hz y hy.1
      ·simp at hz
       rw [hz,←HX.out]
       simpa using hy.2)
     have hG8':(G++R.filter fun y=>x.2.any (eD L y.2)).length=G.length+(R.filter fun y=>x.2.any (eD L y.2)).length:=by simp
     clear hRk hI hg1 hg2 hg3 ha2 ha3
     go_wp2
     go_roundw
     case rel=>exact ⟨kk+1,_,_,gk',aa,acap,by omega,by go_num,HG1.out,rfl,ha1,HA2.out,HA3.out,HL.out,aV3 _ G R c HMEM.out,by omega,by omega,HSN.out⟩
     case measure=>simp [intOf];omega
  ·have HGL:=aA hGL
   have HR:=aA hR
   have HMEM:=aA hmem
   have HB:=aA hb
   have HA:Hid (aA8 L G R):=aA (by
    intro z hz y hy
    rw [List.take_of_length_le (by omega)] at hsh
    exact aV1 (hsh z hz y hy))
   have hgl:¬(kk:Int) < (G.length:Int):=by omega
   clear hGL hR hq hmem hsh hG hb
   go_wp2
   go_ret2
   exact ⟨G,R,ga,go,gcap,ra,rcap,rfl,hgc,hrc,HGL.out,HR.out,HMEM.out,hlen,hG0,HA.out,HB.out⟩
theorem aJb (w:World) (n cap:Nat) (z:Value) (hz:z.cells.size=2) (hn:n≤cap) (hc:cap≤maxLen) :
  (w.drew.alloc (.cells (Builtin.zeroCells z.cells n++Builtin.zeroCells z.cells (cap - n)) 66)).ownsRow w.heap.size 66 2 (.slice (some ⟨w.heap.size,0,none⟩) 0 cap) 0 []:=by
 refine ⟨by simp,.inr ⟨w.heap.size,cap,_,rfl,Nat.le_refl _,heap_alloc_new w.drew _,Nat.zero_le _,hc,?_,by simp⟩⟩
 simp only [Array.size_append,size_zeroCells,hz,←Nat.add_mul]
 congr 1
 omega
set_option maxHeartbeats 400000 in
theorem aJc (n:Nat) (w:World) (hn:n≤16) :
  Calls Tryz.prog 141 #[.slice none 0 0,.int .i64 n] w fun e w'=>∃v,e=.returned v∧w'.ownsRow w.heap.size 66 2 v 0 []∧Below w.heap.size w w':=by
 obtain ⟨iL,hL,hL0,hL1,hL2⟩:=info_parts rA
 by_cases h0:n=0
 ·subst h0
  go_enter Tryz.func141,Tryz.ntmps141
  go_wp2
  go_ret
  exact ⟨_,rfl,World.ownsRow_nil _ _ _ _,Below.refl _ _⟩
 ·have hge:=grownCap_ge w n 0 66
  have hle:=grownCap_le_maxLen w n 0 66 (by unfold maxLen;omega)
  have hR:=aA (Lib.run_append_nil_zeros (P:=Tryz.prog) w 52 3 52 66 iL (.agg #[.bool false,.slice none 0 0]) .i64 .i64 Tryz.underlying52 Tryz.underlying3 hL hL0 n (by omega) (by omega) (by omega) (by rw [hL2];omega))
  have HZ:=aA (aJb w n (grownCap w n 0 66) (.agg #[.bool false,.slice none 0 0]) rfl hge hle)
  have hgi:(0:Int)≤(grownCap w n 0 66:Int):=by omega
  have hn1:(0:Int) < (n:Int):=by omega
  have HBW:Hid (Below w.heap.size w (w.drew.alloc (.cells (Builtin.zeroCells (Value.agg #[.bool false,.slice none 0 0]).cells n++Builtin.zeroCells (Value.agg #[.bool false,.slice none 0 0]).cells (grownCap w n 0 66 - n)) 66))):=aA ((aN (w:=w) (w1:=w.drew) ⟨1,rfl⟩).alloc (Nat.le_refl _) _)
  clear h0
  go_enter Tryz.func141,Tryz.ntmps141
  go_wp2_with (first
   | (at_builtin;refine Lib.wpList_append_run _ rfl _ _ _ _ rfl _ _ rfl rfl _ _ (aB hR) ?_)
   | go_in)
  go_ret
  exact ⟨_,rfl,HZ.out,HBW.out⟩
theorem aCj (P Q:List (Lt×Value)):aU (P++Q)=aU P++aU Q:=by simp [aU]
theorem aCk (w:World) (B:Nat) (P:List (Lt×Value)) (h:∀p∈P,oK w B p.2 p.1.2):∀u∈aU P,u.oneCell'=true:=by
 intro u hu
 simp only [aU,List.mem_flatMap] at hu
 obtain ⟨p,hp,hu⟩:=hu
 obtain ⟨a,cap,e,_⟩:=h p hp
 simp at hu
 rcases hu with rfl | rfl
 ·rfl
 ·rw [e];rfl
theorem cK.cells {w:World} {B b o:Nat} {c:List Lt} (h:cK w B (some ⟨b,o,none⟩) c):∃P:List (Lt×Value),P.map Prod.fst=c∧(∀p∈P,oK w B p.2 p.1.2)∧∀j u,(aU P)[j]?=some u→w.cell? ⟨b,o+j,none⟩=some u:=by
 obtain ⟨f,hf⟩:=Deep.choose_lt (α:=Value) (n:=c.length) (p:=fun k v=>∀hk:k < c.length,oK w B v c[k].2∧w.cell? ⟨b,o+k * 2,none⟩=some (.bool c[k].1)∧w.cell? ⟨b,o+k * 2+1,none⟩=some v) (fun k hk=>by
  obtain ⟨b',o',aa,cap,e,_,h1,h2,h3,h4⟩:=h.cell k hk
  obtain ⟨rfl,rfl⟩ : b=b'∧o=o':=by simpa using e
  exact ⟨_,fun _=>⟨⟨aa,cap,rfl,h3,h4⟩,h1,h2⟩⟩)
 have hl:((List.range c.length).map fun k=>((c[k]?).getD (false,[]),f k)).length=c.length:=by simp
 refine ⟨(List.range c.length).map fun k=>((c[k]?).getD (false,[]),f k),?_,fun p hp=>?_,fun j u hu=>?_⟩
 ·rw [List.map_map]
  refine List.ext_getElem (by simp) fun k h1 h2=>?_
  simp [h2]
 ·obtain ⟨k,hk,rfl⟩:=List.mem_map.1 hp
  have hk':k < c.length:=by simpa using hk
  simp only [List.getElem?_eq_getElem hk',Option.getD_some]
  exact (hf k hk' hk').1
 ·have hj:j < (aU ((List.range c.length).map fun k=>((c[k]?).getD (false,[]),f k))).length:=(List.getElem?_eq_some_iff.1 hu).1
  rw [yT,hl] at hj
  have hk:j / 2 < c.length:=by omega
  obtain ⟨q1,q2⟩:=tP ((List.range c.length).map fun k=>((c[k]?).getD (false,[]),f k)) (j / 2) (by rw [hl];exact hk)
  simp [hk] at q1 q2
  obtain ⟨_,e1,e2⟩:=hf (j / 2) hk hk
  rcases Nat.mod_two_eq_zero_or_one j with h0 | h0
  ·have e:j=j / 2 * 2:=by omega
   rw [e] at hu ⊢
   rw [q1] at hu
   simp at hu
   rw [←hu]
   exact e1
  ·have e:j=j / 2 * 2+1:=by omega
   rw [e] at hu ⊢
   rw [q2] at hu
   simp at hu
   rw [←hu,←Nat.add_assoc]
   exact e2
set_option maxHeartbeats 1000000 in
theorem aJd (B q b1 o1 n1 b2 o2 n2:Nat) (c1 c2:List Lt) (w:World) (h1:cK w B (some ⟨b1,o1,none⟩) c1) (h2:cK w B (some ⟨b2,o2,none⟩) c2) (k0:w.cell? ⟨q,0,none⟩=some (.slice (some ⟨b1,o1,none⟩) c1.length n1)) (k1:w.cell? ⟨q,1,none⟩=some (.slice (some ⟨b2,o2,none⟩) c2.length n2)) :
  Calls Tryz.prog 125 #[.slice (some ⟨q,0,none⟩) 2 2] w fun e w'=>∃v,e=.returned v∧gQ w B w.heap.size w' v (c1++c2)∧Below w.heap.size w w':=by
 obtain ⟨iL,hL,hL0,hL1,hL2⟩:=info_parts rA
 have f1:=h1.few
 have f2:=h2.few
 obtain ⟨P1,hP1,hA1,hc1⟩:=h1.cells
 obtain ⟨P2,hP2,hA2,hc2⟩:=h2.cells
 have hl1:P1.length=c1.length:=by rw [←hP1];simp
 have hl2:P2.length=c2.length:=by rw [←hP2];simp
 have CG:=aA (aJc (c1.length+c2.length) w (by omega))
 have HL1:=aA hl1
 have HL2:=aA hl2
 have HC1:=aA hc1
 have HC2:=aA hc2
 have HA1:=aA hA1
 have HA2:=aA hA2
 have HP1:=aA hP1
 have HP2:=aA hP2
 clear h1 h2 hP1 hP2 hA1 hA2 hc1 hc2 hl1 hl2
 go_enter Tryz.func125,Tryz.ntmps125
 go_wp2
 go_loop [3,11] (fun t i=>∃k m:Nat,k≤2∧i=.int .i64 k∧t=.int .i64 m∧m≤16∧((k=0∧m=0)∨(k=1∧m=c1.length)∨(k=2∧m=c1.length+c2.length))) (fun _ i=>2 - (intOf i).toNat)
 case atStart=>exact ⟨0,0,by omega,rfl,rfl,by omega,Or.inl ⟨rfl,rfl⟩⟩
 case round=>
  obtain ⟨k,m,hk,rfl,rfl,hm,hc⟩:=hrel
  rcases hc with ⟨rfl,rfl⟩ | ⟨rfl,hc⟩ | ⟨rfl,hc⟩
  ·go_wp2
   go_round
   case rel=>exact ⟨1,c1.length,by omega,by go_num,by go_num,by omega,Or.inr (Or.inl ⟨rfl,rfl⟩)⟩
   case measure=>simp [intOf]
  ·have HC:=aA hc
   clear hc
   go_wp2
   go_round
   case rel=>exact ⟨2,m+c2.length,by omega,by go_num,by go_num,by have:=HC.out;omega,Or.inr (Or.inr ⟨rfl,by rw [HC.out]⟩)⟩
   case measure=>simp [intOf]
  ·subst hc
   go_wp2_with (go_at_call 141;refine (aB CG).mono ?_;rintro e w1 ⟨v,rfl,ho,hb⟩;have HO:=aA ho;have HB:=aA hb;clear ho hb)
   go_loopw [6,27] (fun t i wr=>∃(k:Nat) (P:List (Lt×Value)),k≤2∧i=.int .i64 k∧wr.ownsRow w.heap.size 66 2 t P.length (aU P)∧Below w.heap.size w wr∧((k=0∧P=[])∨(k=1∧P=P1)∨(k=2∧P=P1++P2))) (fun _ i _=>2 - (intOf i).toNat)
   case atStart=>exact ⟨0,[],by omega,rfl,HO.out,HB.out,Or.inl ⟨rfl,rfl⟩⟩
   case round=>
   obtain ⟨k,P,hk,rfl,ho',hb',hor⟩:=hrel
   have HO':=aA ho'
   clear ho'
   rcases hor with ⟨rfl,rfl⟩ | ⟨rfl,hor⟩ | ⟨rfl,hor⟩
   ·have ho:=HO'.out
    have HCX:=aA (fun j u (h:(aU P1)[j]?=some u)=>Below.at' hb' (Nat.le_refl _) (HC1.out j u h))
    have HB':=aA hb'
    have kk:=Below.at' hb' (Nat.le_refl _) k0
    have hbs:=hb'.size
    clear hb' HO'
    go_wp2_with (first
     | (at_builtin;refine wpList_append_own _ rfl _ _ 52 rfl w.heap.size 66 iL (.agg #[.bool false,.slice none 0 0]) 2 32 Tryz.underlying52 hL hL0 hL1 hL2 rfl (by decide) _ _ _ rfl ho ⟨b1,o1,none⟩ c1.length n1 (aU P1) rfl ?d1 ?d2 ?d3 ?d4 ?d5 ?d6 ?_)
     | go_in)
    case d1=>rw [yT,HL1.out]
    case d2=>exact fun j u h=>by rw [Addr.add_lit];exact HCX.out j u h
    case d3=>exact aCk w B P1 HA1.out
    case d4=>unfold maxLen;have:=HL1.out;have:=HL2.out;simp;omega
    case d5=>have:=HL1.out;have:=HL2.out;simp;omega
    case d6=>exact hbs
    intro v' w2 ho2 hg2 _
    have HN:Hid (w2.ownsRow w.heap.size 66 2 v' ([]++P1).length (aU ([]++P1))):=aA (by
     have e:=ho2
     rw [←HL1.out,←aCj] at e
     simpa using e)
    have HBN:=aA (HB'.out.grown hg2 hbs fun k e=>(bU ho k e).1)
    clear ho2 hg2 ho
    go_wp2
    go_roundw
    case rel=>exact ⟨1,[]++P1,by omega,by go_num,HN.out,HBN.out,Or.inr (Or.inl ⟨rfl,by simp⟩)⟩
    case measure=>simp [intOf]
   ·replace hor:=hor.symm
    subst hor
    have ho:=HO'.out
    have HCX:=aA (fun j u (h:(aU P2)[j]?=some u)=>Below.at' hb' (Nat.le_refl _) (HC2.out j u h))
    have HB':=aA hb'
    have kk:=Below.at' hb' (Nat.le_refl _) k1
    have hbs:=hb'.size
    clear hb' HO'
    go_wp2_with (first
     | (at_builtin;refine wpList_append_own _ rfl _ _ 52 rfl w.heap.size 66 iL (.agg #[.bool false,.slice none 0 0]) 2 32 Tryz.underlying52 hL hL0 hL1 hL2 rfl (by decide) _ _ _ rfl ho ⟨b2,o2,none⟩ c2.length n2 (aU P2) rfl ?d1 ?d2 ?d3 ?d4 ?d5 ?d6 ?_)
     | go_in)
    case d1=>rw [yT,HL2.out]
    case d2=>exact fun j u h=>by rw [Addr.add_lit];exact HCX.out j u h
    case d3=>exact aCk w B P2 HA2.out
    case d4=>unfold maxLen;have:=HL1.out;have:=HL2.out;simp;omega
    case d5=>have:=HL1.out;have:=HL2.out;simp;omega
    case d6=>exact hbs
    intro v' w2 ho2 hg2 _
    have HN:Hid (w2.ownsRow w.heap.size 66 2 v' (P1++P2).length (aU (P1++P2))):=aA (by
     have e:=ho2
     rw [←HL2.out,←aCj] at e
     simpa using e)
    have HBN:=aA (HB'.out.grown hg2 hbs fun k e=>(bU ho k e).1)
    clear ho2 hg2 ho
    go_wp2
    go_roundw
    case rel=>exact ⟨2,P1++P2,by omega,by go_num,HN.out,HBN.out,Or.inr (Or.inr ⟨rfl,by simp⟩)⟩
    case measure=>simp [intOf]
   ·subst hor
    have HB':=aA hb'
    clear hb'
    go_wp2
    go_ret
    exact ⟨_,rfl,⟨P1++P2,by rw [List.map_append,HP1.out,HP2.out],HO'.out,fun p hp=>by rcases List.mem_append.1 hp with hp | hp;exact HA1.out p hp;exact HA2.out p hp⟩,HB'.out⟩
def yU (n:Nat):Prop:=∀(B g:Nat) (da:Option Addr) (dcap:Nat) (d:List Lt) (L:aW) (w:World) (ca:Option Addr) (ccap:Nat) (c:List Lt),c.length≤n→bN w B g (.slice da d.length dcap) L→cK w B da d→cK w B ca c→c.length≤ccap→kW d→kW c→B≤w.heap.size→
 Calls Tryz.prog 94 #[.pointer (some ⟨g,0,none⟩),.slice ca c.length ccap] w fun e w'=>∃(r:Bool) (L':aW),e=.returned (.bool r)∧bN w' B g (.slice da d.length dcap) L'∧Fr B w w'∧(∃M,L'=L++M)∧(r=true→iQ c L L'∧Made d c L')∧(r=false→¬iF d c L)
def yV (n:Nat):Prop:=∀(B g:Nat) (da:Option Addr) (dcap:Nat) (d:List Lt) (L:aW) (w:World) (b o ccap:Nat) (c:List Lt),c.length≤n→0 < c.length→bN w B g (.slice da d.length dcap) L→cK w B da d→cK w B (some ⟨b,o,none⟩) c→c.length≤ccap→kW d→kW c→B≤w.heap.size→
 Calls Tryz.prog 114 #[.pointer (some ⟨g,0,none⟩),.slice (some ⟨b,o,none⟩) c.length ccap] w fun e w'=>∃(r:Bool) (L':aW),e=.returned (.bool r)∧bN w' B g (.slice da d.length dcap) L'∧Fr B w w'∧(∃M,L'=L++M)∧(r=true→iQ c L L'∧Made d c L')∧(r=false→¬iF d c L)
def aCl:Value→Nat
 | .slice _ n _=>n
 | _=>0
def aJe (d c ls:List Lt) (L:aW):Prop:=∀σ,Tm σ→gV σ L→∀l∈c,l∈ls∨(l.1,subst σ l.2)∈d
theorem kW.of {c c':List Lt} (h:kW c) (k:∀l∈c',l∈c):kW c':=fun l hl=>h l (k l hl)
theorem iF.sub {d c c':List Lt} {L:aW} (h:iF d c L) (k:∀l∈c',l∈c):iF d c' L:=by
 obtain ⟨σ,h1,h2,h3⟩:=h
 exact ⟨σ,h1,h2,fun l hl=>h3 l (k l hl)⟩
theorem aJf {c ls G:List Lt} {L L1 L2:aW} (h:iQ c L L1) (k:iQ G L1 L2) (hs:∀l∈G,l∈ls) (hc:∀l∈ls,l∈c):iQ c L L2:=h.trans k (fun _ hl=>hl) (fun l hl=>hc l (hs l hl))
set_option maxHeartbeats 1000000 in
theorem aCm (n:Nat) (hG:yV n):yU n:=by
 intro B g da dcap d L w ca ccap c hn hM hD hC hcap hfd hfc hBw
 have HGS:=aA hG
 have HM:=aA hM
 have HD:=aA hD
 have HC:=aA hC
 have HFD:=aA hfd
 have HFC:=aA hfc
 have hc8:=hC.few
 clear hG hM hD hC hfd hfc
 go_enter Tryz.func94,Tryz.ntmps94
 go_wp2
 go_loopw [1] (fun v wr=>∃(ls:List Lt) (L1:aW) (la:Option Addr) (lcap:Nat),v=.slice la ls.length lcap∧ls.length≤n∧ls.length≤lcap∧cK wr B la ls∧bN wr B g (.slice da d.length dcap) L1∧Fr B w wr∧(∀l∈ls,l∈c)∧(∃M,L1=L++M)∧(iF d c L↔iF d ls L1)∧iQ c L L1∧aJe d c ls L1) (fun v _=>aCl v)
 case atStart=>exact ⟨c,L,ca,ccap,rfl,hn,hcap,HC.out,HM.out,Fr.refl _ _,fun _ h=>h,⟨[],by simp⟩,Iff.rfl,iQ.refl _ _,fun _ _ _ l hl=>Or.inl hl⟩
 case round=>
  obtain ⟨ls,L1,la,lcap,rfl,hln,hlc,hL,hM,hF,hsub,hpre,hcov,hgr,hmb⟩:=hrel
  by_cases h0:0 < ls.length
  ·obtain ⟨b,o,_,_,rfl,_⟩:=hL.cell 0 h0
   have h0i:(0:Int) < (ls.length:Int):=by omega
   have CL:=aA (aJa B g (.slice da d.length dcap) L1 wr b o lcap ls hM hL hlc (HFC.out.of hsub) h0 (Nat.le_trans hBw hF.size))
   have HF:=aA hF
   have HM1:=aA hM
   have HSUB:=aA hsub
   have HPRE:=aA hpre
   have HCOV:=aA hcov
   have HGR:=aA hgr
   have HMB:=aA hmb
   have hws:=Nat.le_trans hBw hF.size
   clear hL hM hF hsub hpre hcov hgr hmb
   go_wp2_with (first
    | (go_at_call 113;refine (aB CL).mono ?_;rintro e w1 ⟨G,R,ga,go,gcap,ra,rcap,rfl,hgc,hrc,hGL,hRL,hpar,hlen,hG0,hap,hb1⟩;have CG:=aA (HGS.out B g da dcap d L1 w1 ga go gcap G (by omega) hG0 (HM1.out.below hb1) (HD.out.fr (HF.out.trans (Fr.of_below hb1))) hGL hgc HFD.out (HFC.out.of fun l hl=>HSUB.out l ((hpar l).2 (Or.inl hl))) (Nat.le_trans hws hb1.size));have HB1:=aA hb1;have HRL:=aA hRL;have HPAR:=aA hpar;have HAP:=aA hap;clear hGL hRL hpar hap hb1)
    | (go_at_call 114;refine (aB CG).mono ?_;rintro e w2 ⟨r,L2,rfl,hm2,hf2,hp2,hr1,hr2⟩;have HM2:=aA hm2;have HF2:=aA hf2;have HP2:=aA hp2;have HR1:=aA hr1;have HR2:=aA hr2;clear hm2 hf2 hp2 hr1 hr2))
   ·have hr:r=false:=by first | assumption | (cases r <;> simp_all)
    subst hr
    go_ret
    refine ⟨false,L2,rfl,HM2.out,HF.out.trans ((Fr.of_below HB1.out).trans HF2.out),?_,by simp,fun _ hc=>?_⟩
    ·obtain ⟨M1,h1⟩:=HPRE.out
     obtain ⟨M2,h2⟩:=HP2.out
     exact ⟨M1++M2,by rw [h2,h1];simp⟩
    ·exact HR2.out rfl (((HCOV.out).1 hc).sub fun l hl=>(HPAR.out l).2 (Or.inl hl))
   ·have hr:r=true:=by first | assumption | (cases r <;> simp_all)
    subst hr
    go_roundw
    case rel=>
     obtain ⟨hg2,hmd⟩:=HR1.out rfl
     refine ⟨R,L2,ra,rcap,rfl,by omega,hrc,HRL.out.fr HF2.out,HM2.out,HF.out.trans ((Fr.of_below HB1.out).trans HF2.out),fun l hl=>HSUB.out l ((HPAR.out l).2 (Or.inr hl)),?_,?_,?_,?_⟩
     ·obtain ⟨M1,h1⟩:=HPRE.out
      obtain ⟨M2,h2⟩:=HP2.out
      exact ⟨M1++M2,by rw [h2,h1];simp⟩
     ·exact HCOV.out.trans (aO9 HPAR.out HAP.out hg2 HM2.out.ok.look hmd)
     ·exact aJf HGR.out hg2 (fun l hl=>(HPAR.out l).2 (Or.inl hl)) HSUB.out
     ·intro σ hσ he l hl
      rcases HMB.out σ hσ (hg2.ext he) l hl with h | h
      ·rcases (HPAR.out l).1 h with h | h
       ·exact Or.inr (hmd σ hσ he l h)
       ·exact Or.inl h
      ·exact Or.inr h
    case measure=>simp [aCl];omega
  ·have hl0:ls=[]:=List.eq_nil_of_length_eq_zero (by omega)
   subst hl0
   have HF:=aA hF
   have HM1:=aA hM
   have HPRE:=aA hpre
   have HGR:=aA hgr
   have HMB:=aA hmb
   clear hL hM hF hsub hpre hcov hgr hmb
   go_wp2
   go_ret
   refine ⟨true,L1,rfl,HM1.out,HF.out,HPRE.out,fun _=>⟨HGR.out,fun σ hσ he l hl=>?_⟩,by simp⟩
   rcases HMB.out σ hσ he l hl with h | h
   ·simp at h
   ·exact h
theorem aJg (B g:Nat) (dv:Value) (L:aW) (w:World) (xb yb:Bool) (aa ba:Option Addr) (ac bc:Nat) (a b:List Nd) (hM:bN w B g dv L) (hA:eX w B aa a) (hB:eX w B ba b) (hbc:b.length≤bc) (ta:aI a 1=true) (tb:aI b 1=true) (a60:a.length≤60) (b60:b.length≤60) (hm:iH (xb,a) (yb,b) L=none) :
  ∀wx,(∃n,wx=w.drewN n)→Calls Tryz.prog 126 #[.pointer (some ⟨g,0,none⟩),.agg #[.bool xb,.slice aa a.length ac],.agg #[.bool yb,.slice ba b.length bc]] wx fun e w'=>e=.returned (.bool false)∧(∃M,bN w' B g dv (L++M))∧Fr B w w':=by
 intro wx hx
 refine (zZ B g dv L wx xb yb aa ba ac bc a b (hM.drawn hx) (hA.fr ((Fr.refl _ _).drawn hx)) (hB.fr ((Fr.refl _ _).drawn hx)) hbc ta tb a60 b60).mono ?_
 rintro e w' ⟨r,L',rfl,hm',hf,⟨M,rfl⟩,h1,h2⟩
 cases r with
 | true=>rw [hm] at h1;simp at h1
 | false=>exact ⟨rfl,⟨M,hm'⟩,((Fr.refl _ _).drawn hx).trans hf⟩
theorem aJh (B g:Nat) (dv:Value) (L L1:aW) (w:World) (xb yb:Bool) (aa ba:Option Addr) (ac bc:Nat) (a b:List Nd) (hM:bN w B g dv L) (hA:eX w B aa a) (hB:eX w B ba b) (hbc:b.length≤bc) (ta:aI a 1=true) (tb:aI b 1=true) (a60:a.length≤60) (b60:b.length≤60) (hm:iH (xb,a) (yb,b) L=some L1) :
  ∀wx,(∃n,wx=w.drewN n)→Calls Tryz.prog 126 #[.pointer (some ⟨g,0,none⟩),.agg #[.bool xb,.slice aa a.length ac],.agg #[.bool yb,.slice ba b.length bc]] wx fun e w'=>e=.returned (.bool true)∧bN w' B g dv L1∧Fr B w w':=by
 intro wx hx
 refine (zZ B g dv L wx xb yb aa ba ac bc a b (hM.drawn hx) (hA.fr ((Fr.refl _ _).drawn hx)) (hB.fr ((Fr.refl _ _).drawn hx)) hbc ta tb a60 b60).mono ?_
 rintro e w' ⟨r,L',rfl,hm',hf,_,h1,h2⟩
 cases r with
 | true=>
  have:=h1 rfl
  rw [hm] at this
  simp at this
  subst this
  exact ⟨rfl,hm',((Fr.refl _ _).drawn hx).trans hf⟩
 | false=>rw [hm] at h2;simp at h2
theorem cK.take {w:World} {B b o:Nat} {c:List Lt} (h:cK w B (some ⟨b,o,none⟩) c) (k:Nat):cK w B (some ⟨b,o,none⟩) (c.take k):=by
 refine ⟨by have:=h.few;simp;omega,fun j hj=>?_⟩
 have hj':j < c.length:=by simp at hj;omega
 have:=h.cell j hj'
 simpa using this
theorem cK.drop {w:World} {B b o:Nat} {c:List Lt} (h:cK w B (some ⟨b,o,none⟩) c) (k:Nat):cK w B (some ⟨b,o+k * 2,none⟩) (c.drop k):=by
 refine ⟨by have:=h.few;simp;omega,fun j hj=>?_⟩
 have hj':k+j < c.length:=by simp at hj;omega
 obtain ⟨b',o',aa,cap,e,hs,h1,h2,h3,h4⟩:=h.cell (k+j) hj'
 obtain ⟨rfl,rfl⟩ : b=b'∧o=o':=by simpa using e
 have ht:(c.drop k)[j]=c[k+j]:=by simp
 rw [ht]
 exact ⟨b,o+k * 2,aa,cap,rfl,hs,by rw [show o+k * 2+j * 2=o+(k+j) * 2 by omega];exact h1,by rw [show o+k * 2+j * 2+1=o+(k+j) * 2+1 by omega];exact h2,h3,h4⟩
theorem aCn (c:List Lt) (k:Nat) (h:k < c.length):∀l,l∈c↔l=c[k]∨l∈c.take k++c.drop (k+1):=by
 intro l
 have e:c=c.take k++c[k] :: c.drop (k+1):=by rw [←List.drop_eq_getElem_cons h,List.take_append_drop]
 constructor
 ·intro hl
  rw [e] at hl
  rcases List.mem_append.1 hl with hl | hl
  ·exact Or.inr (List.mem_append_left _ hl)
  ·rcases List.mem_cons.1 hl with hl | hl
   ·exact Or.inl hl
   ·exact Or.inr (List.mem_append_right _ hl)
 ·rintro (rfl | hl)
  ·exact List.getElem_mem _
  ·rcases List.mem_append.1 hl with hl | hl
   ·exact List.mem_of_mem_take hl
   ·exact List.mem_of_mem_drop hl
set_option maxHeartbeats 4000000 in
theorem aJi (n:Nat) (hS:yU n):yV (n+1):=by
 intro B g da dcap d L w b o ccap c hn h0 hM hD hC hcap hfd hfc hBw
 have CT:=aA (aUp B g da dcap d L w (some ⟨b,o,none⟩) ccap c hM hD hC hfd hfc h0)
 have HS:=aA hS
 have HM:=aA hM
 have HD:=aA hD
 have HC:=aA hC
 have HFD:=aA hfd
 have HFC:=aA hfc
 have hc8:=hC.few
 have hd8:=hD.few
 clear hS hM hD hC hfd hfc
 go_enter Tryz.func114,Tryz.ntmps114
 go_wp2_with (go_at_call 124;refine (aB CT).mono ?_;rintro e w1 ⟨k,rfl,hk,hm1,hf1⟩;have HM1:=aA hm1;have HF1:=aA hf1;have hw1:=hf1.size;clear hm1 hf1)
 have hi1:(k:Int)≤(ccap:Int):=by omega
 have hi2:(k:Int)+1≤(c.length:Int):=by omega
 have hi3:(c.length:Int)≤(ccap:Int):=by omega
 have hi4:(0:Int)≤(k:Int):=by omega
 have hi5:(k:Int)+1≤(ccap:Int):=by omega
 have hi6:(0:Int)≤(k:Int)+1:=by omega
 have hi7:((k:Int)+1).toNat=k+1:=by omega
 have hw:IntKind.i64.wrap ((k:Int)+1)=(k:Int)+1:=by rw [IntKind.wrap_i64];omega
 obtain ⟨b2,o2,hra,hdr⟩ : ∃b2 o2,(if ccap=k+1 then some (⟨b,o,none⟩ : Addr) else some ⟨b,o+(k+1) * 2,none⟩)=some ⟨b2,o2,none⟩∧cK w1 B (some ⟨b2,o2,none⟩) (c.drop (k+1)):=by
  by_cases h1:ccap=k+1
  ·have:c.drop (k+1)=[]:=List.drop_eq_nil_of_le (by omega)
   rw [this]
   exact ⟨b,o,if_pos h1,⟨by simp,fun k hk=>by simp at hk⟩⟩
  ·exact ⟨b,o+(k+1) * 2,if_neg h1,(HC.out.fr HF1.out).drop (k+1)⟩
 have hb2:Below w1.heap.size w1 (w1.alloc (.cells #[.slice (some ⟨b,o,none⟩) k ccap,.slice (some ⟨b2,o2,none⟩) (c.length - (k+1)) (ccap - (k+1))] 52)):=(Below.refl _ _).alloc (Nat.le_refl _) _
 have hbx:=sC w1 (.slice (some ⟨b,o,none⟩) k ccap) (.slice (some ⟨b2,o2,none⟩) (c.length - (k+1)) (ccap - (k+1))) 52
 have hlt1:(c.take k).length=k:=by simp;omega
 have hlt2:(c.drop (k+1)).length=c.length - (k+1):=by simp
 have CC:=aA (fun wx (hx:∃n,wx=(w1.alloc (.cells #[.slice (some ⟨b,o,none⟩) k ccap,.slice (some ⟨b2,o2,none⟩) (c.length - (k+1)) (ccap - (k+1))] 52)).drewN n)=>
  aJd B w1.heap.size b o ccap b2 o2 (ccap - (k+1)) (c.take k) (c.drop (k+1)) wx (((((HC.out.fr HF1.out).take k).fr (Fr.of_below hb2)).fr ((Fr.refl _ _).drawn hx))) ((hdr.fr (Fr.of_below hb2)).fr ((Fr.refl _ _).drawn hx)) (by rw [hlt1];obtain ⟨m,rfl⟩:=hx;exact hbx.1) (by rw [hlt2];obtain ⟨m,rfl⟩:=hx;exact hbx.2))
 have hrl:(c.take k++c.drop (k+1)).length+1=c.length:=by simp;omega
 have HB2:=aA hb2
 have HX1:=aA (HC.out.cell k hk)
 have HXF:=aA (HFC.out c[k] (List.getElem_mem _))
 have HMR:=aA (aCn c k hk)
 have HFR:Hid (kW (c.take k++c.drop (k+1))):=aA (HFC.out.of fun l hl=>(aCn c k hk l).2 (Or.inr hl))
 generalize hrest:c.take k++c.drop (k+1)=rest at *
 obtain ⟨x,hx⟩ : ∃x,x=c[k]:=⟨_,rfl⟩
 rw [←hx] at HX1 HXF HMR
 clear hb2 hbx hlt1 hlt2 hdr hrest hx
 go_region_held3 (fun _=>True) (trivial) ((go_at_call 125;refine (aB CC _ (by first | exact ⟨0,rfl⟩ | exact ⟨1,rfl⟩ | exact ⟨_,rfl⟩)).mono ?_;rintro e w2 ⟨v,rfl,hrow,hb3⟩;have HB4:=aA hb3;replace hb3:=sD (W:=w1.alloc (.cells #[.slice (some ⟨b,o,none⟩) k ccap,.slice (some ⟨b2,o2,none⟩) (c.length - (k+1)) (ccap - (k+1))] 52)) (by first | exact ⟨0,rfl⟩ | exact ⟨1,rfl⟩ | exact ⟨_,rfl⟩) hb3;have HROW:=aA hrow;have HB3:=aA hb3;clear hrow hb3))
 have hB2:Below w1.heap.size w1 w2:=HB2.out.trans (HB3.out.mono (by simp))
 have hbase:Below ((w1.alloc (.cells #[.slice (some ⟨b,o,none⟩) k ccap,.slice (some ⟨b2,o2,none⟩) (c.length - (k+1)) (ccap - (k+1))] 52)).drew).heap.size ((w1.alloc (.cells #[.slice (some ⟨b,o,none⟩) k ccap,.slice (some ⟨b2,o2,none⟩) (c.length - (k+1)) (ccap - (k+1))] 52)).drew) w2:=HB4.out
 obtain ⟨ra,rcap,rfl,hrc,hRL,-⟩:=HROW.out.lits hbase (by omega)
 have HF2:Hid (Fr B w w2):=aA (HF1.out.trans (Fr.of_below hB2))
 have HM2:=aA (HM1.out.below hB2)
 have HRL:=aA hRL
 have ham:=HM2.out.among
 have hw2:=(HF2.out).size
 clear hB2 hbase hRL hra hi1 hi2 hi3 hi4 hi5 hi6 hi7 hw
 go_wp2
 go_loopw [27] (fun i wr=>∃j:Nat,j≤d.length∧i=.int .i64 j∧bN wr B g (.slice da d.length dcap) L∧Fr B w2 wr∧(∀y∈d.take j,∀L',iH x y L=some L'→¬iF d rest L')) (fun i _=>d.length - (intOf i).toNat)
 case atStart=>exact ⟨0,Nat.zero_le _,rfl,HM2.out,Fr.refl _ _,by simp⟩
 case round=>
  obtain ⟨j,hj,rfl,hM,hF,hno⟩:=hrel
  by_cases hlt:j < d.length
  ·obtain ⟨b4,o4,ya,yc,rfl,hs4,y1,y2,hyc,hY⟩:=((HD.out.fr HF2.out).fr hF).cell j hlt
   obtain ⟨hty,hy60⟩:=HFD.out d[j] (List.getElem_mem _)
   obtain ⟨b3,o3,xa,xc,e3,hs30,x10,x20,hxc,hX0⟩:=HX1.out
   obtain ⟨rfl,rfl⟩ : b=b3∧o=o3:=by simpa using e3
   have hFw:=HF2.out.trans hF
   have x1:=hFw.cell x10 hs30
   have x2:=hFw.cell x20 hs30
   have hX:=hX0.fr hFw
   have hs3:=hs30.fr (World.block_lt_of_cell? w _ x10) hFw
   obtain ⟨htx,hx60⟩:=HXF.out
   obtain ⟨ba,bcap,hbl⟩:=hM.len
   have hlb:(L.length:Int)≤60:=by have:=hM.ok.few;omega
   have htk:d.take (j+1)=d.take j++[d[j]]:=List.take_succ_eq_append_getElem hlt
   have hyd:d[j]∈d:=List.getElem_mem _
   have hki:(k:Int) < (c.length:Int):=by omega
   generalize d[j]=y at *
   obtain ⟨yb,yl⟩:=y
   obtain ⟨xb,xl⟩:=x
   simp only at y1 y2 hty hy60 hY hyc x1 x2 hX htx hx60 hxc
   have hb5:Below wr.heap.size wr (wr.alloc (.cells #[.bool yb,.slice ya yl.length yc] 66)):=(Below.refl _ _).alloc (Nat.le_refl _) _
   have hbx:=sC wr (.bool yb) (.slice ya yl.length yc) 66
   have hs5:=wS (w:=wr) (B:=B) #[.bool yb,.slice ya yl.length yc] 66 (by decide) (by decide)
   have hs6:kA (wr.alloc (.cells #[.bool yb,.slice ya yl.length yc] 66)) B b:=hs3.fr (World.block_lt_of_cell? wr _ x1) (Fr.of_below hb5)
   have x12:=Below.at' hb5 (Nat.le_refl _) x1
   have x22:=Below.at' hb5 (Nat.le_refl _) x2
   have hbl2:=Below.at' hb5 (Nat.le_refl _) hbl
   obtain ⟨hbx0,hbx1⟩:=hbx
   have hM5:=hM.below hb5
   have hX5:=hX.fr (Fr.of_below hb5)
   have hY5:=hY.fr (Fr.of_below hb5)
   have HF5:=aA (hF.trans (Fr.of_below hb5))
   have HNO:=aA hno
   have HTK:=aA htk
   have HYD:=aA hyd
   have HS5:=aA hs5
   have HS6:=aA hs6
   have hws5:=(HF5.out).size
   clear hno htk hyd hM hF hFw hs3 hs30 hs4 hs5 hs6 hX0 hX hY x10 x20 e3 x1 x2 hbl
   cases hml:iH (xb,xl) (yb,yl) L with
   | none=>
    have CM:=aA (aJg B g (.slice (some ⟨b4,o4,none⟩) d.length dcap) L _ xb yb xa ya xc yc xl yl hM5 hX5 hY5 hyc htx hty hx60 hy60 hml)
    have HML:=aA hml
    clear hM5 hX5 hY5 hml hyc hty hy60 htx hx60 hb5
    go_wp2_with fail
    generalize hWI:wr.alloc (.cells #[.bool yb,.slice ya yl.length yc] 66)=WI at *
    clear hWI
    first | go_region_with (go_at_call 126;refine (aB CM _ (by first | exact ⟨0,rfl⟩ | exact ⟨1,rfl⟩ | exact ⟨_,rfl⟩)).mono ?_;rintro e w3 ⟨rfl,⟨M,hm3⟩,hf3⟩;have c0:=hf3.cell x12 HS6.out;have c1:=hf3.cell x22 HS6.out;have c2:=hf3.cell hbx0 HS5.out;have c3:=hf3.cell hbx1 HS5.out;have CF:=aA (aC5 B g _ L M w3 hm3);have HF6:=aA (HF5.out.trans hf3);clear hm3 hf3) | fail
    all_goals
     go_wp2_with (go_at_call 127;refine (aB CF).mono ?_;rintro e w5 ⟨rfl,hm5,hf5⟩;have HM5:=aA hm5;have HF7:=aA (HF6.out.trans hf5);clear hm5 hf5)
     go_roundw
     case rel=>exact ⟨j+1,by omega,by go_num,HM5.out,HF7.out,by
      intro y hy L' hL'
      rw [HTK.out] at hy
      rcases List.mem_append.1 hy with hy | hy
      ·exact HNO.out y hy L' hL'
      ·simp at hy
       subst hy
       rw [HML.out] at hL'
       simp at hL'⟩
     case measure=>simp [intOf];omega
   | some L1=>
    have CM:=aA (aJh B g (.slice (some ⟨b4,o4,none⟩) d.length dcap) L L1 _ xb yb xa ya xc yc xl yl hM5 hX5 hY5 hyc htx hty hx60 hy60 hml)
    obtain ⟨M1,hM1,hgr⟩:=aO6 (x:=(xb,xl)) (y:=(yb,yl)) htx hty hml
    have HML:=aA hml
    have HG1:=aA hM1
    have HTX:=aA (And.intro htx hty)
    have HGV:=aA hgr
    clear hM5 hX5 hY5 hml hyc hty hy60 htx hx60 hb5 hM1 hgr
    go_wp2_with fail
    generalize hWI:wr.alloc (.cells #[.bool yb,.slice ya yl.length yc] 66)=WI at *
    clear hWI
    go_region_held3 (fun w'=>w'.cell? ⟨b,o+k * 2,none⟩=some (.bool xb)∧w'.cell? ⟨b,o+k * 2+1,none⟩=some (.slice xa xl.length xc)∧w'.cell? ⟨wr.heap.size,0,none⟩=some (.bool yb)∧w'.cell? ⟨wr.heap.size,1,none⟩=some (.slice ya yl.length yc)) (go_keep)
     (first
      | (go_at_call 126;refine (aB CM _ (by first | exact ⟨0,rfl⟩ | exact ⟨1,rfl⟩ | exact ⟨_,rfl⟩)).mono ?_;rintro e w3 ⟨rfl,hm3,hf3⟩;have c0:=hf3.cell x12 HS6.out;have c1:=hf3.cell x22 HS6.out;have c2:=hf3.cell hbx0 HS5.out;have c3:=hf3.cell hbx1 HS5.out;have hws3:=hf3.size;have CA:=aA (HS.out B g (some ⟨b4,o4,none⟩) dcap d L1 w3 ra rcap rest (by omega) hm3 (((HD.out.fr HF2.out).fr HF5.out).fr hf3) ((HRL.out.fr HF5.out).fr hf3) hrc HFD.out HFR.out (by omega));have HF3:=aA hf3;clear hm3 hf3)
      | (go_at_call 94;refine (aB CA).mono ?_;rintro e w4 ⟨r,L2,rfl,hm4,hf4,⟨M2,hM2⟩,hr1,hr2⟩;have k0:=hf4.cell c0 (HS6.out.fr (World.block_lt_of_cell? _ _ x12) HF3.out);have k1:=hf4.cell c1 (HS6.out.fr (World.block_lt_of_cell? _ _ x22) HF3.out);have k2:=hf4.cell c2 (HS5.out.fr (World.block_lt_of_cell? _ _ hbx0) HF3.out);have k3:=hf4.cell c3 (HS5.out.fr (World.block_lt_of_cell? _ _ hbx1) HF3.out);have CF:=aA (aC5 B g (.slice (some ⟨b4,o4,none⟩) d.length dcap) L (M1++M2) w4 (by rw [←List.append_assoc,←HG1.out,←hM2];exact hm4));have HM4:=aA hm4;have HF6:=aA ((HF5.out.trans HF3.out).trans hf4);have HR1:=aA hr1;have HR2:=aA hr2;have HM2':=aA hM2;clear hm4 hf4 hr1 hr2 hM2))
    go_wp2_with (go_at_call 127;refine (aB CF).mono ?_;rintro e w5 ⟨rfl,hm5,hf5⟩;have HM5:=aA hm5;have HF7:=aA (HF6.out.trans hf5);clear hm5 hf5)
    ·have hr:r=true:=by first | assumption | (cases r <;> simp_all)
     subst hr
     go_ret
     obtain ⟨hg2,hmd⟩:=HR1.out rfl
     have hsp:=aA7 (x:=(xb,xl)) (y:=(yb,yl)) HTX.out.1 HTX.out.2 HML.out
     refine ⟨true,L2,rfl,HM4.out,HF2.out.trans HF6.out,⟨M1++M2,by rw [HM2'.out,HG1.out];simp⟩,fun _=>⟨?_,?_⟩,by simp⟩
     ·refine iQ.trans (c:=[(xb,xl)]) ⟨M1,HG1.out,fun p hp=>⟨⟨(xb,xl),by simp,(HGV.out p hp).1⟩,(HGV.out p hp).2⟩⟩ hg2 (fun l hl=>?_) (fun l hl=>(HMR.out l).2 (Or.inr hl))
      simp at hl
      rw [hl]
      exact (HMR.out _).2 (Or.inl rfl)
     ·intro σ hσ he l hl
      rcases (HMR.out l).1 hl with rfl | hl
      ·rw [((hsp σ hσ).1 (hg2.ext he)).2];exact HYD.out
      ·exact hmd σ hσ he l hl
    ·have hr:r=false:=by first | assumption | (cases r <;> simp_all)
     subst hr
     go_roundw
     case rel=>exact ⟨j+1,by omega,by go_num,HM5.out,HF7.out,by
      intro y hy L' hL'
      rw [HTK.out] at hy
      rcases List.mem_append.1 hy with hy | hy
      ·exact HNO.out y hy L' hL'
      ·simp at hy
       subst hy
       rw [HML.out] at hL'
       simp at hL'
       subst hL'
       exact HR2.out rfl⟩
     case measure=>simp [intOf];omega
  ·have htk:d.take j=d:=List.take_of_length_le (by omega)
   rw [htk] at hno
   have HM3:=aA hM
   have HF3:=aA hF
   have HN:Hid (¬iF d c L):=aA (by
    intro hc
    obtain ⟨y,hy,L',h1,h2⟩:=(aO7 (fun l hl=>(HFD.out l hl).1) HXF.out.1 HMR.out).1 hc
    exact hno y hy L' h1 h2)
   clear htk hno hM hF
   go_wp2
   go_ret
   exact ⟨false,L,rfl,HM3.out,HF2.out.trans HF3.out,⟨[],by simp⟩,by simp,fun _=>HN.out⟩
theorem aCo:∀n,yV n
 | 0=>fun B g da dcap d L w b o ccap c hn h0=>by omega
 | n+1=>aJi n (aCm n (aCo n))
theorem aJj (n:Nat):yU n:=aCm n (aCo n)
end Go.Proofs.YthicbnejchpmgaaGreatDoor
