/- Covers of any three raw clauses, read from their texts: a clause covers itself; what is covered by one that it covers it covers, too; and nothing that has fewer literals; and two known texts are solved, the one refuted, as they are: the tied card. Conditions: none but the row's own (the library's tables stand as the program lays them; each list and text is of at most 2^47 - 4096 bytes). -/
import Derived.Test.YtbddofieljiihaaGreatDoorGClsI
import Derived.Test.YtbddofieljiihaaGreatDoorXSr9I
import Derived.Test.YtbddofieljiihaaGreatDoorCards
import Derived.Test.YtbddofieljiihaaGreatDoorTie
import Derived.ProofKit
import Derived.OpenShut
import Derived.Carry
import Derived.Deep.DeepHandedRow
import Derived.Deep.DeepWitnessRowRef
import Derived.Lib.LaidIn
import Derived.Lib.LaidU8T
import Derived.PinnedBridge
namespace Go.Proofs.YtbddofieljiihaaGreatDoor
open Go.RowKit Go.Shelf Go.WideMaps
set_option maxRecDepth 100000
structure pV (w:World) (a:Option Addr) (cp:Nat) (c:List Lt):Prop where
 cl:bG c=true
 lits:bP w a c
 caps:mF w a c
 le:c.length≤cp
theorem pV.below {w w':World} {a:Option Addr} {cp:Nat} {c:List Lt} (h:pV w a cp c) (hb:Below w.heap.size w w'):pV w' a cp c:=
 ⟨h.cl,h.lits.below hb (Nat.le_refl _),h.caps.below h.lits hb (Nat.le_refl _),h.le⟩
set_option maxHeartbeats 2000000 in
theorem zX (a:Option Addr) (cp:Nat) (l:List Rl) (w:World) (hl:kY w a l) (hcp:l.length≤cp) :
  Calls Tryz.prog 5 #[.slice a l.length cp] w fun e w'=>∃ra rc c,e=.returned (.slice ra (List.length c) rc)∧pV w' ra rc c∧Below w.heap.size w w':=by
 obtain ⟨iK,hK,hK0,hK1,hK2⟩:=info_parts aE9
 have HNIL:=aA (World.ownsRow_nil (w.alloc (.cells #[.slice a l.length cp] 22)) w.heap.size 22 1)
 have CS:=aA (fun (g cap:Nat) (wx:World) (hb:Below w.heap.size w wx) (hc:wx.cell? ⟨g,0,none⟩=some (.slice a l.length cp))=>aNs g cap a cp l wx hc (hl.below hb) hcp)
 have CL:=aA (fun (g cap:Nat) (wx:World) (hb:Below w.heap.size w wx) (hc:wx.cell? ⟨g,0,none⟩=some (.slice a (l.take 4).length cp))=>aNr g cap a cp (l.take 4) wx hc ((hl.below hb).take 4) (by rw [List.length_take];omega))
 have CR:=aA (fun (s:ByteArray) (wx:World) (hs:s.size≤1000)=>aMq s wx (by omega))
 clear hl
 go_enter Tryz.func5,Tryz.ntmps5
 go_upto_region 3 with (first
  | (at_builtin;refine wpList_append_own _ rfl (.tmp 7) (.tmp 9) 37 rfl w.heap.size 22 iK (.slice none 0 0) 1 24 Tryz.underlying37 hK hK0 hK1 hK2 rfl (by decide) _ _ _ rfl HNIL.out ⟨w.heap.size,0,none⟩ 1 1 [.slice a l.length cp] rfl rfl (oH w _ _ _ rfl) (zT _ _ _) (by unfold maxLen;omega) (by omega) (by simp) ?_;intro v1 w1 ho1 hg1 _;have HB1:=aA (((Below.refl w.heap.size w).alloc (Nat.le_refl _) _).trans (zU hg1));obtain ⟨g1,k1,rfl,hc1⟩:=tS.cell (B:=w.heap.size) ho1;have HC1:=aA hc1;clear ho1 hg1 hc1)
  | go_in)
 clear HNIL
 go_upto_region 4 with (first
  | (go_at_call 9;refine (aB CR s3 _ hs3).mono ?_;rintro e w4 ⟨v4,QV,at4,er4,rfl,hrd,hmem,hb4⟩;have HRD:=aA hrd;have HM:=aA hmem.cls;have HB4:=aA (HB3.out.trans (hb4.mono HB3.out.size));clear hrd hmem hb4)
  | (go_at_call 10;refine (aB CL g2 k2 _ HB2.out HC2.out).mono ?_;rintro e w3 ⟨⟨s3,rfl,hs3⟩,hb3⟩;have HB3:=aA (HB2.out.trans (hb3.mono HB2.out.size));clear hb3)
  | (go_at_call 11;refine (aB CS g1 k1 _ HB1.out HC1.out).mono ?_;rintro e w2 ⟨v2,rfl,ho2,hb2⟩;obtain ⟨g2,k2,rfl,hc2⟩:=ho2.cell;have HC2:=aA hc2;have HB2:=aA (HB1.out.trans (hb2.mono HB1.out.size));clear ho2 hc2 hb2)
  | go_in)
 obtain ⟨PV,hPV⟩ : ∃PV,(QV.map fun p=>(p.1.map Prod.fst,p.2))=PV:=⟨_,rfl⟩
 have hP1:(QV.map fun p=>p.1.map Prod.fst)=PV.map Prod.fst:=by rw [←hPV,List.map_map];rfl
 rw [hPV] at HM
 rw [hP1] at HRD
 have HNO:Hid (pV w4 none 0 []):=aA ⟨by kernel_rfl,⟨by simp,fun k hk=>absurd hk (by simp)⟩,(by intro k hk;simp at hk),by simp⟩
 clear hPV hP1 CS CL CR
 by_cases he:er4=0
 ·subst he
  obtain ⟨va,vc,rfl⟩:=aR HM.out.row
  by_cases h1:PV.length=1
  ·obtain ⟨g,cap,ad,cp4,hv,_,hc,hm⟩:=HM.out.cell (k:=0) (by omega)
   have hcl:=aKo HRD.out PV[0].1 (List.mem_map_of_mem (List.getElem_mem _))
   obtain ⟨_,_,e5,hle,hli,hca⟩:=hm.lits (jI hcl)
   cases e5
   have HF:Hid (pV w4 ad cp4 PV[0].1):=aA ⟨hcl,hli,hca,hle⟩
   rw [h1] at hv
   rw [h1]
   cases hv
   have h1i:((1:Int) != 1)=false:=rfl
   clear HM HRD hm hli hca hcl hle
   go_wp2
   go_ret
   exact ⟨_,_,_,rfl,HF.out,HB4.out⟩
  ·have h1i:((PV.length:Int) != 1)=true:=by rw [bne_iff_ne];omega
   go_wp2
   go_ret
   exact ⟨_,_,[],rfl,HNO.out,HB4.out⟩
 ·have hei:(er4 != 0)=true:=by rw [bne_iff_ne];exact he
  obtain ⟨va,vc,rfl⟩:=aR HM.out.row
  go_wp2
  go_ret
  exact ⟨_,_,[],rfl,HNO.out,HB4.out⟩
theorem aEh:∀(T:List (aG×Value)) (k m:Nat) (h:k < T.length),m < 6→(fP T)[k * 6+m]?=(fI T[k])[m]?
 | [],k,_,h,_=>by simp at h
 | x :: T,0,m,_,hm=>by
  rw [show fP (x :: T)=fI x++fP T from rfl,List.getElem?_append_left (by simp [fI];omega)]
  simp
 | x :: T,k+1,m,h,hm=>by
  have:=aEh T k m (by simpa using h) hm
  rw [show fP (x :: T)=fI x++fP T from rfl,List.getElem?_append_right (by simp [fI];omega),show (k+1) * 6+m - (fI x).length=k * 6+m by simp [fI];omega,this]
  simp
theorem fZ.cells {B:Nat} {W:World} {gs cap:Nat} {T:List (aG×Value)} (h:fZ B W (.slice (some ⟨gs,0,none⟩) T.length cap) T) {k:Nat} (hk:k < T.length):W.cell? ⟨gs,k * 6,none⟩=some (.int .i64 T[k].1.r)∧W.cell? ⟨gs,k * 6+1,none⟩=some (.int .i64 T[k].1.a)∧W.cell? ⟨gs,k * 6+2,none⟩=some (.int .i64 T[k].1.b)∧W.cell? ⟨gs,k * 6+3,none⟩=some (.int .i64 T[k].1.i)∧W.cell? ⟨gs,k * 6+4,none⟩=some (.int .i64 T[k].1.j)∧∃ad cp,W.cell? ⟨gs,k * 6+5,none⟩=some (.slice ad T[k].1.c.length cp)∧bK B W (.slice ad T[k].1.c.length cp) T[k].1.c:=by
 have hl:=aHc T
 have key:∀m,m < 6→W.cell? ⟨gs,k * 6+m,none⟩=(fI T[k])[m]?:=fun m hm=>by
  rw [h.row.cellAt (k * 6+m) (by omega),aEh T k m hk hm]
 obtain ⟨g',cap',ad,cp,e,_,h5,h6⟩:=h.cell hk
 cases e
 exact ⟨key 0 (by omega),key 1 (by omega),key 2 (by omega),key 3 (by omega),key 4 (by omega),ad,cp,h5,h6⟩
def zY (P:List (List Lt)) (T:List (aG×Value)) (n:Nat) (s:aG):Prop:=
 bG s.c=true∧dQ s.c=true∧((s.r=1∧s.b=0∧s.i=0∧s.j=0∧P[s.a]?=some s.c)∨(s.r=2∧s.a < n∧s.b < n∧bG (aK T s.a)=true∧bG (aK T s.b)=true∧mR (aK T s.a) (aK T s.b) s.i s.j s.c true 0))
set_option maxHeartbeats 4000000 in
theorem aO9 (s:ByteArray) (P:List (List Lt)) (B gs cap n:Nat) (T:List (aG×Value)) (w:World) (hs0:s.size≤140737488355328) (hrd:∀out at' er,nY s out at' er→out=P∧er=0) (hP:∀c∈P,bG c=true) (hN:T.length=n+1) (hS:fZ B w (.slice (some ⟨gs,0,none⟩) T.length cap) T) (hT:gL w) (hR:∀k (h:k < T.length),zY P T k T[k].1) (hl:T[n].1.c=[]) (hTl:n≤1000) (hcap:T.length≤cap) :
  Calls Tryz.prog 14 #[.string s,.slice (some ⟨gs,0,none⟩) (n+1) cap] w fun e w'=>e=.returned (.bool true)∧Below w.heap.size w w':=by
 have CS:=aA (zF s w hs0)
 have HS:=aA hS
 have HT:=aA hT
 have HR:=aA hR
 have HRD:=aA hrd
 have HP:=aA hP
 have HN:=aA hN
 have hne:(((n:Int)+1) == 0)=false:=beq_eq_false_iff_ne.2 (by omega)
 have hne2:(((n+1:Nat):Int) == 0)=false:=beq_eq_false_iff_ne.2 (by omega)
 obtain ⟨-,-,-,-,-,lad,lcp,l5,-⟩:=hS.cells (k:=n) (by omega)
 rw [hl] at l5
 have hcap':n+1≤cap:=by omega
 clear hS hT hR hrd hP hl hN hcap
 go_enter Tryz.func14,Tryz.ntmps14
 go_upto_region 4 with (first
  | (go_at_call 15;refine (aB CS).mono ?_;rintro e w1 ⟨v,QV,at1,er,rfl,hrd,hmem,hb1⟩;obtain ⟨hout,rfl⟩:=HRD.out _ _ _ hrd;have HOUT:=aA hout;have HM:=aA hmem.cls;have HB1:=aA hb1;clear hrd hmem hb1 hout)
  | go_in)
 obtain ⟨PV,hPV⟩ : ∃PV,(QV.map fun p=>(p.1.map Prod.fst,p.2))=PV:=⟨_,rfl⟩
 have hPl:PV.map Prod.fst=P:=by rw [←HOUT.out,←hPV,List.map_map];rfl
 rw [hPV] at HM
 clear hPV HOUT CS
 have hz1:=HB1.out.size
 go_wp2
 go_loopw [25] (fun iv wr=>∃k:Nat,k≤n+1∧iv=.int .i64 k∧Below w1.heap.size w1 wr) (fun iv _=>n+1 - (intOf iv).toNat)
 case atStart=>exact ⟨0,Nat.zero_le _,rfl,Below.refl _ _⟩
 case round=>
  obtain ⟨k,hk,rfl,hb⟩:=hrel
  have hbw:Below w.heap.size w wr:=HB1.out.trans (hb.mono hz1)
  by_cases hlt:k < n+1
  ·have hkT:k < T.length:=by rw [HN.out];exact hlt
   obtain ⟨s0,s1,s2,s3,s4,sad,scp,s5,smem⟩:=HS.out.cells hkT
   obtain ⟨r1,r2,r3⟩:=HR.out k hkT
   obtain ⟨_,_,e5,_,slits,_⟩:=smem.lits (jI r1)
   cases e5
   have CR:Hid (∀wx,Below wr.heap.size wr wx→Calls Tryz.prog 23 #[v,.slice (some ⟨gs,0,none⟩) k cap,.agg #[.int .i64 T[k].1.r,.int .i64 T[k].1.a,.int .i64 T[k].1.b,.int .i64 T[k].1.i,.int .i64 T[k].1.j,.slice sad T[k].1.c.length scp]] wx fun e w'=>e=.returned (.bool true)∧Below wx.heap.size wx w'):=aA fun wx hx=>by
    have hbx:Below w.heap.size w wx:=hbw.trans (hx.mono hbw.size)
    have hbx1:Below w1.heap.size w1 wx:=hb.trans (hx.mono hb.size)
    refine aUl v _ _ _ _ _ _ sad scp T[k].1.c wx (slits.below hbx (Nat.le_refl _)) r2 fun wy hy=>?_
    have hby:Below w.heap.size w wy:=hbx.trans (hy.mono hbx.size)
    have hby1:Below w1.heap.size w1 wy:=hbx1.trans (hy.mono hbx1.size)
    rcases r3 with ⟨q1,q2,q3,q4,q5⟩ | ⟨q1,q2,q3,q4,q5,q6⟩
    ·have hap:T[k].1.a < PV.length:=by
      have:=(List.getElem?_eq_some_iff.1 q5).1
      rw [←hPl] at this
      simpa using this
     obtain ⟨g,pcap,ad,cp,hv,_,hc,hm⟩:=HM.out.cell hap
     have hpe:PV[T[k].1.a].1=T[k].1.c:=by
      rw [←hPl,List.getElem?_map,List.getElem?_eq_getElem hap] at q5
      simpa using q5
     rw [hpe] at hc hm
     obtain ⟨_,_,e6,_,hli,_⟩:=hm.lits (jI r1)
     cases e6
     rw [hv,q1,q2,q3,q4]
     refine (aUj g PV.length pcap T[k].1.a _ sad _ scp ad T[k].1.c.length cp wy (Below.at' hby1 (Nat.le_refl _) hc) hap).mono ?_
     rintro e w' ⟨rfl,hb'⟩
     exact ⟨ad,cp,rfl,(hli.below hby1 (Nat.le_refl _)).below hb' (Nat.le_refl _),hb'⟩
    ·have haT:T[k].1.a < T.length:=by omega
     have hbT:T[k].1.b < T.length:=by omega
     obtain ⟨_,_,_,_,_,oad,ocp,o5,omem⟩:=HS.out.cells haT
     obtain ⟨_,_,_,_,_,pad,pcp,p5,pmem⟩:=HS.out.cells hbT
     rw [pD haT] at q4 q6
     rw [pD hbT] at q5 q6
     obtain ⟨_,_,e6,_,oli,_⟩:=omem.lits (jI q4)
     cases e6
     obtain ⟨_,_,e7,_,pli,_⟩:=pmem.lits (jI q5)
     cases e7
     obtain ⟨va,vn,vc,rfl⟩ : ∃va vn vc,v=.slice va vn vc:=by
      obtain ⟨a,c,e⟩:=aR HM.out.row
      exact ⟨a,_,c,e⟩
     rw [q1]
     exact aUk va vn vc gs k cap _ _ _ _ sad _ scp oad pad ocp pcp _ _ _ wy q2 q3 (Below.at' hby (Nat.le_refl _) o5) (Below.at' hby (Nat.le_refl _) p5) (oli.below hby (Nat.le_refl _)) (pli.below hby (Nat.le_refl _)) (HT.out.below hby (Nat.le_refl _)) q6 r1
   have t0:=Below.at' hbw (Nat.le_refl _) s0
   have t1:=Below.at' hbw (Nat.le_refl _) s1
   have t2:=Below.at' hbw (Nat.le_refl _) s2
   have t3:=Below.at' hbw (Nat.le_refl _) s3
   have t4:=Below.at' hbw (Nat.le_refl _) s4
   have t5:=Below.at' hbw (Nat.le_refl _) s5
   have hki:(k:Int) < ((n+1:Nat):Int):=by omega
   have hkc:k≤cap:=by omega
   have HB:=aA hb
   generalize T[k].1.c.length=cn at *
   generalize T[k].1.r=er at *
   generalize T[k].1.a=ea at *
   generalize T[k].1.b=eb at *
   generalize T[k].1.i=ei at *
   generalize T[k].1.j=ej at *
   clear s0 s1 s2 s3 s4 s5 smem slits r1 r2 r3 hb hbw hPl
   go_upto_region 7 with (go_in)
   obtain ⟨w2,hw2,hb2,hx2⟩ : ∃w2,wr.alloc (.cells #[.int .i64 er,.int .i64 ea,.int .i64 eb,.int .i64 ei,.int .i64 ej,.slice sad cn scp] 54)=w2∧Below wr.heap.size wr w2∧w2.heap[wr.heap.size]?=some (.cells #[.int .i64 er,.int .i64 ea,.int .i64 eb,.int .i64 ei,.int .i64 ej,.slice sad cn scp] 54 (0,0)):=⟨_,rfl,(Below.refl _ wr).alloc (Nat.le_refl _) _,World.alloc_heap_new wr _⟩
   rw [hw2]
   clear hw2 t0 t1 t2 t3 t4 t5
   have x0:w2.cell? ⟨wr.heap.size,0,none⟩=some (.int .i64 er):=by simp [World.cell?,hx2]
   have x1:w2.cell? ⟨wr.heap.size,1,none⟩=some (.int .i64 ea):=by simp [World.cell?,hx2]
   have x2:w2.cell? ⟨wr.heap.size,2,none⟩=some (.int .i64 eb):=by simp [World.cell?,hx2]
   have x3:w2.cell? ⟨wr.heap.size,3,none⟩=some (.int .i64 ei):=by simp [World.cell?,hx2]
   have x4:w2.cell? ⟨wr.heap.size,4,none⟩=some (.int .i64 ej):=by simp [World.cell?,hx2]
   have x5:w2.cell? ⟨wr.heap.size,5,none⟩=some (.slice sad cn scp):=by simp [World.cell?,hx2]
   have CR2:=aA (fun (wx:World) (hx:∃m,wx=w2.drewN m)=>(CR.out wx (by obtain ⟨m,rfl⟩:=hx;exact hb2.trans ((aJ ⟨m,rfl⟩).mono hb2.size))).mono (R':=fun e w3=>e=.returned (.bool true)∧Below w2.heap.size w2 w3) (fun e w3 he=>by obtain ⟨m,rfl⟩:=hx;exact ⟨he.1,(aJ ⟨m,rfl⟩).trans he.2⟩))
   have HB2:=aA (HB.out.trans (hb2.mono HB.out.size))
   clear hx2 hb2 CR
   go_region_held3 (fun w'=>w'.cell? ⟨wr.heap.size,0,none⟩=some (.int .i64 er)∧w'.cell? ⟨wr.heap.size,1,none⟩=some (.int .i64 ea)∧w'.cell? ⟨wr.heap.size,2,none⟩=some (.int .i64 eb)∧w'.cell? ⟨wr.heap.size,3,none⟩=some (.int .i64 ei)∧w'.cell? ⟨wr.heap.size,4,none⟩=some (.int .i64 ej)∧w'.cell? ⟨wr.heap.size,5,none⟩=some (.slice sad cn scp)) (first | trivial | go_keep)
    (first
     | (go_at_call 23;refine (aB CR2 _ (by first | exact ⟨0,rfl⟩ | exact ⟨1,rfl⟩ | exact ⟨_,rfl⟩)).mono ?_;rintro e w3 ⟨rfl,hb3⟩;have y0:=Below.at' hb3 (Nat.le_refl _) x0;have y1:=Below.at' hb3 (Nat.le_refl _) x1;have y2:=Below.at' hb3 (Nat.le_refl _) x2;have y3:=Below.at' hb3 (Nat.le_refl _) x3;have y4:=Below.at' hb3 (Nat.le_refl _) x4;have y5:=Below.at' hb3 (Nat.le_refl _) x5;have HB3:=aA (HB2.out.trans (hb3.mono HB2.out.size));clear hb3)
     | go_in)
   clear y0 y1 y2 y3 y4 y5 x0 x1 x2 x3 x4 x5
   go_wp2
   go_roundw
   case rel=>exact ⟨k+1,by omega,by go_num,HB3.out⟩
   case measure=>simp [intOf];omega
  ·obtain rfl:k=n+1:=by omega
   have q5:=Below.at' hbw (Nat.le_refl _) l5
   have HBW:=aA hbw
   clear hb hbw hlt hk
   go_wp2
   go_ret
   exact ⟨rfl,HBW.out⟩
theorem aOa (s:ByteArray) (P:List (List Lt)) (B gs cap n:Nat) (T:List (aG×Value)) (w:World) (hs0:s.size≤140737488355328) (hrd:∀out at' er,nY s out at' er→out=P∧er=0) (hP:∀c∈P,bG c=true) (hN:T.length=n+1) (hS:fZ B w (.slice (some ⟨gs,0,none⟩) T.length cap) T) (hT:gL w) (hR:∀k (h:k < T.length),zY P T k T[k].1) (hl:T[n].1.c=[]) (hTl:n≤1000) (hcap:T.length≤cap) :
  Calls Tryz.prog 8 #[.string s,.slice (some ⟨gs,0,none⟩) (n+1) cap] w fun e w'=>e=.returned (.bool true)∧Below w.heap.size w w':=by
 have C:=aA (aO9 s P B gs cap n T w hs0 hrd hP hN hS hT hR hl hTl hcap)
 clear hrd hP hS hT hR hl
 go_enter Tryz.func8,Tryz.ntmps8
 go_wp2_with (first
  | (go_at_call 14;refine (aB C).mono ?_;rintro e w1 ⟨rfl,hb1⟩;have HB1:=aA hb1;clear hb1)
  | go_in)
 go_ret
 exact ⟨rfl,HB1.out⟩
theorem aEi:oJ qN:=⟨by kernel_rfl,by kernel_rfl⟩
theorem aOb:mR iB cP 0 0 cQ true 0:=
 Or.inr ⟨by kernel_rfl,by kernel_rfl,Or.inr ⟨0,0,⟨by decide,by decide,rfl,rfl,by decide⟩,by
  have h:=vN aKr 0 1 [((0:Int),(false,[qN]))] (by intro r hr;simp at hr;subst hr;exact ⟨qN,rfl,aEi⟩) (Nat.le_of_ble_eq_true (by kernel_rfl))
  rw [show aS ([((0:Int),((false,[qN]):Lt))].map Prod.snd)=cQ by kernel_rfl] at h
  exact h⟩⟩
theorem aOc:mR cQ lV 0 0 [] true 0:=
 Or.inr ⟨by kernel_rfl,by kernel_rfl,Or.inr ⟨0,0,⟨by decide,by decide,rfl,rfl,by decide⟩,vN aEi 0 1 [] (by simp) (Nat.le_of_ble_eq_true (by kernel_rfl))⟩⟩
theorem aOd {T:List (aG×Value)} (hT:T.map Prod.fst=[iX,lW,gI,mW,mX]):∀k (h:k < T.length),zY [cP,iB,lV] T k T[k].1:=by
 have hl:T.length=5:=by have:=congrArg List.length hT;simpa using this
 have hc:∀k,aK T k=([iX,lW,gI,mW,mX].map aG.c).getD k []:=fun k=>by
  rw [tJ,←hT,List.map_map]
  rfl
 have hk:∀k (h:k < T.length),some T[k].1=[iX,lW,gI,mW,mX][k]?:=fun k h=>by
  rw [←hT,List.getElem?_map,List.getElem?_eq_getElem h]
  rfl
 intro k h
 have e:=hk k h
 match k,h with
 | 0,_=>
  obtain e:T[0].1=iX:=by simpa using e
  rw [e]
  exact ⟨by kernel_rfl,by kernel_rfl,Or.inl ⟨rfl,rfl,rfl,rfl,rfl⟩⟩
 | 1,_=>
  obtain e:T[1].1=lW:=by simpa using e
  rw [e]
  exact ⟨by kernel_rfl,by kernel_rfl,Or.inl ⟨rfl,rfl,rfl,rfl,rfl⟩⟩
 | 2,_=>
  obtain e:T[2].1=gI:=by simpa using e
  rw [e]
  exact ⟨by kernel_rfl,by kernel_rfl,Or.inl ⟨rfl,rfl,rfl,rfl,rfl⟩⟩
 | 3,_=>
  obtain e:T[3].1=mW:=by simpa using e
  rw [e]
  refine ⟨by kernel_rfl,by kernel_rfl,Or.inr ⟨rfl,by decide,by decide,?_,?_,?_⟩⟩
  ·rw [hc];kernel_rfl
  ·rw [hc];kernel_rfl
  ·rw [hc,hc];exact aOb
 | 4,_=>
  obtain e:T[4].1=mX:=by simpa using e
  rw [e]
  refine ⟨by kernel_rfl,by kernel_rfl,Or.inr ⟨rfl,by decide,by decide,?_,?_,?_⟩⟩
  ·rw [hc];kernel_rfl
  ·rw [hc];kernel_rfl
  ·rw [hc,hc];exact aOc
 | k+5,h=>omega
theorem aOe (w:World):Calls Tryz.prog 7 #[.string vO,.int .i64 100] w fun e w'=>∃gs cap used T,e=.returned (.tuple #[.agg #[.int .i64 1,.slice (some ⟨gs,0,none⟩) (4+1) cap,.slice none 0 0,.int .i64 (used:Nat),.bool false],.int .i64 0])∧T.map Prod.fst=[iX,lW,gI,mW,mX]∧T.length≤cap∧fZ w.heap.size w' (.slice (some ⟨gs,0,none⟩) T.length cap) T∧Below w.heap.size w w':=by
 refine (aIk _ 100 (fun _=>tM) w (by decide) (fun out at' h=>?_)).mono ?_
 ·obtain ⟨rfl,_,_⟩:=vQ h
  refine ⟨fun c hc=>?_,by simp,fun l hl _ _ L n hT=>?_⟩
  ·simp at hc
   rcases hc with rfl | rfl | rfl <;> kernel_rfl
  ·obtain rfl:l=100:=by omega
   exact aL0 hT
 ·rintro e w' ⟨out,at',er,hrd,hb,h⟩
  obtain ⟨rfl,rfl,rfl⟩:=vQ hrd
  rcases h with ⟨h1,_⟩ | ⟨_,h1,_⟩ | ⟨_,_,_,vd,vs,vk,used,b,T,ks,rfl,hA,hE⟩
  ·exact absurd rfl h1
  ·exact absurd ⟨by decide,by decide⟩ h1
  ·obtain ⟨⟨rfl,hT,rfl⟩,_⟩:=hE
   have hl:T.length=4+1:=by have:=congrArg List.length hT;simpa using this
   obtain ⟨gs,cap,_,_,rfl,_⟩:=hA.st.cell (k:=0) (by omega)
   have hcap:T.length≤cap:=by
    obtain ⟨_,⟨e,_⟩ | ⟨g',cap',cur,e,_,_,hh,_⟩⟩:=hA.st.row
    ·cases e
    ·simp at e hh
     omega
   rcases hA.kp with ⟨h2,_⟩ | ⟨_,rfl⟩
   ·cases h2
   ·exact ⟨gs,cap,used,T,by rw [←hl];rfl,hT,hcap,hA.st,hb⟩
theorem aOf (w:World):Calls Tryz.prog 7 #[.string yX,.int .i64 100] w fun e w'=>∃va vn vc ka kn kc used,e=.returned (.tuple #[.agg #[.int .i64 2,.slice va vn vc,.slice ka kn kc,.int .i64 (used:Nat),.bool false],.int .i64 0])∧Below w.heap.size w w':=by
 refine (aIk _ 100 (fun _=>vR) w (by decide) (fun out at' h=>?_)).mono ?_
 ·obtain ⟨rfl,_,_⟩:=aD0 h
  refine ⟨fun c hc=>?_,by simp,fun l hl _ _ L n hT=>?_⟩
  ·simp at hc
   rcases hc with rfl | rfl <;> kernel_rfl
  ·obtain rfl:l=100:=by omega
   exact aL1 hT
 ·rintro e w' ⟨out,at',er,hrd,hb,h⟩
  obtain ⟨rfl,rfl,rfl⟩:=aD0 hrd
  rcases h with ⟨h1,_⟩ | ⟨_,h1,_⟩ | ⟨_,_,_,vd,vs,vk,used,b,T,ks,rfl,hA,hE⟩
  ·exact absurd rfl h1
  ·exact absurd ⟨by decide,by decide⟩ h1
  ·obtain ⟨⟨rfl,rfl⟩,_⟩:=hE
   obtain ⟨va,vc,rfl⟩:=aR hA.st.row
   rcases hA.kp with ⟨_,hk⟩ | ⟨_,rfl⟩
   ·obtain ⟨ka,kc,rfl⟩:=aR hk
    exact ⟨va,_,vc,ka,_,kc,used,rfl,hb⟩
   ·exact ⟨va,_,vc,none,0,0,used,rfl,hb⟩
set_option maxHeartbeats 4000000 in
theorem aOg (w:World) (hT:gL w):Calls Tryz.prog 4 #[] w fun e w'=>e=.returned (.bool true)∧Below w.heap.size w w':=by
 have CA:=aA (aOe w)
 have CB:=aA (fun (wx:World)=>aOf wx)
 have HT:=aA hT
 clear hT
 go_enter Tryz.func4,Tryz.ntmps4
 go_upto_region 2 with (first
  | (go_at_call 7;refine (aB CA).mono ?_;rintro e w1 ⟨gs,cap,used,T,rfl,hTl,hcap,hst,hb1⟩;have HST:=aA hst;have HTL:=aA hTl;have HB1:=aA hb1;have hz1:=hb1.size;clear hst hTl hb1)
  | go_in)
 obtain ⟨w2,hw2,hb2,hx2⟩ : ∃w2,w1.alloc (.cells #[.int .i64 1,.slice (some ⟨gs,0,none⟩) 5 cap,.slice none 0 0,.int .i64 (used:Nat),.bool false] 33)=w2∧Below w1.heap.size w1 w2∧w2.heap[w1.heap.size]?=some (.cells #[.int .i64 1,.slice (some ⟨gs,0,none⟩) 5 cap,.slice none 0 0,.int .i64 (used:Nat),.bool false] 33 (0,0)):=⟨_,rfl,(Below.refl _ w1).alloc (Nat.le_refl _) _,World.alloc_heap_new w1 _⟩
 rw [hw2]
 have x0:w2.cell? ⟨w1.heap.size,0,none⟩=some (.int .i64 1):=by simp [World.cell?,hx2]
 have x1:w2.cell? ⟨w1.heap.size,1,none⟩=some (.slice (some ⟨gs,0,none⟩) 5 cap):=by simp [World.cell?,hx2]
 have HB2:=aA (HB1.out.trans (hb2.mono hz1))
 have HC2:=aA hb2
 clear hw2 hx2 hb2 CA
 go_upto_region 3 with (first
  | (go_at_call 7;refine (aB CB _).mono ?_;rintro e w3 ⟨va,vn,vc,ka,kn,kc,used2,rfl,hb3⟩;have y0:=Below.at' hb3 (Nat.le_refl _) x0;have y1:=Below.at' hb3 (Nat.le_refl _) x1;have HB3:=aA (HB2.out.trans (hb3.mono HB2.out.size));have HC3:=aA (HC2.out.trans (hb3.mono HC2.out.size));clear hb3)
  | go_in)
 obtain ⟨w4,hw4,hb4,hx4⟩ : ∃w4,w3.alloc (.cells #[.int .i64 2,.slice va vn vc,.slice ka kn kc,.int .i64 (used2:Nat),.bool false] 33)=w4∧Below w3.heap.size w3 w4∧w4.heap[w3.heap.size]?=some (.cells #[.int .i64 2,.slice va vn vc,.slice ka kn kc,.int .i64 (used2:Nat),.bool false] 33 (0,0)):=⟨_,rfl,(Below.refl _ w3).alloc (Nat.le_refl _) _,World.alloc_heap_new w3 _⟩
 rw [hw4]
 have z0:=Below.at' hb4 (Nat.le_refl _) y0
 have z1:=Below.at' hb4 (Nat.le_refl _) y1
 have z2:w4.cell? ⟨w3.heap.size,0,none⟩=some (.int .i64 2):=by simp [World.cell?,hx4]
 have hbw:Below w.heap.size w w4:=HB3.out.trans (hb4.mono HB3.out.size)
 have hb14:Below w1.heap.size w1 w4:=HC3.out.trans (hb4.mono HC3.out.size)
 have hl5:T.length=4+1:=by have:=congrArg List.length HTL.out;simpa using this
 have hT4:T[4].1=mX:=by
  have:=congrArg (fun l=>l[4]?) HTL.out
  simp only [List.getElem?_map] at this
  rw [List.getElem?_eq_getElem (by omega)] at this
  simpa using this
 have hst4:fZ w.heap.size w4 (.slice (some ⟨gs,0,none⟩) T.length cap) T:=⟨aZ HST.out.row hb14 (Nat.le_refl _),fun p hp=>by
  obtain ⟨Q,q1,q2,q3,q4⟩:=HST.out.cl p hp
  exact ⟨Q,q1,aZ q2 hb14 (Nat.le_refl _),fun q hq=>aZ (q3 q hq) hb14 (Nat.le_refl _),q4⟩⟩
 have CR:=aA (aOa vO [cP,iB,lV] w.heap.size gs cap 4 T w4 (by decide) (fun out at' er h=>⟨(vQ h).1,(vQ h).2.2⟩) (by intro c hc;simp at hc;rcases hc with rfl | rfl | rfl <;> kernel_rfl) hl5 hst4 (HT.out.below hbw (Nat.le_refl _)) (aOd HTL.out) (by rw [hT4];rfl) (by omega) hcap)
 have HB4:=aA hbw
 clear hw4 hx4 hb4 hbw hb14 hst4 hT4 hl5 hcap CB x0 x1 y0 y1 HST HTL
 go_wp2_with (first
  | (go_at_call 8;refine (aB CR).mono ?_;rintro e w5 ⟨rfl,hb5⟩;have u0:=Below.at' hb5 (Nat.le_refl _) z0;have u2:=Below.at' hb5 (Nat.le_refl _) z2;have HB5:=aA (HB4.out.trans (hb5.mono HB4.out.size));clear hb5)
  | go_in)
 go_ret
 exact ⟨rfl,HB5.out⟩
set_option maxHeartbeats 4000000 in
theorem aOh (aa ab ac:Option Addr) (ca cb cc:Nat) (la lb lc:List Rl) (w:World) (ha:kY w aa la) (hb:kY w ab lb) (hc:kY w ac lc) (ka:la.length≤ca) (kb:lb.length≤cb) (kc:lc.length≤cc) (hT:gL w) :
  Calls Tryz.prog 3 #[.slice aa la.length ca,.slice ab lb.length cb,.slice ac lc.length cc] w fun e w'=>e=.returned (.bool true)∧Below w.heap.size w w':=by
 have CK:=aA (aOg w hT)
 have CA:=aA (fun (wx:World) (h:Below w.heap.size w wx)=>zX aa ca la wx (ha.below h) ka)
 have CB:=aA (fun (wx:World) (h:Below w.heap.size w wx)=>zX ab cb lb wx (hb.below h) kb)
 have CC:=aA (fun (wx:World) (h:Below w.heap.size w wx)=>zX ac cc lc wx (hc.below h) kc)
 have CV:=aA (fun (wx:World) (h:Below w.heap.size w wx) (a1 a2:Option Addr) (c1 c2:Nat) (x y:List Lt) (hx:pV wx a1 c1 x) (hy:pV wx a2 c2 y)=>aJk a1 a2 c1 c2 x y wx hx.lits hy.lits hx.caps hy.caps hx.le (hT.below h (Nat.le_refl _)))
 clear ha hb hc ka kb kc hT
 go_enter Tryz.func3,Tryz.ntmps3
 go_upto_region 2 with (first
  | (go_at_call 4;refine (aB CK).mono ?_;rintro e w1 ⟨rfl,hb1⟩;have HB1:=aA hb1;clear hb1)
  | go_in)
 go_upto_region 3 with (first
  | (go_at_call 5;refine (aB CA w1 HB1.out).mono ?_;rintro e w2 ⟨xa,xc,x,rfl,hx,hb2⟩;have HX:=aA hx;have HB2:=aA (HB1.out.trans (hb2.mono HB1.out.size));clear hx hb2)
  | go_in)
 go_upto_region 4 with (first
  | (go_at_call 5;refine (aB CB w2 HB2.out).mono ?_;rintro e w3 ⟨ya,yc,y,rfl,hy,hb3⟩;have HX3:=aA (HX.out.below hb3);have HY:=aA hy;have HB3:=aA (HB2.out.trans (hb3.mono HB2.out.size));clear hy hb3)
  | go_in)
 go_upto_region 5 with (first
  | (go_at_call 5;refine (aB CC w3 HB3.out).mono ?_;rintro e w4 ⟨za,zc,z,rfl,hz,hb4⟩;have HX4:=aA (HX3.out.below hb4);have HY4:=aA (HY.out.below hb4);have HZ:=aA hz;have HB4:=aA (HB3.out.trans (hb4.mono HB3.out.size));clear hz hb4)
  | go_in)
 have C1:=aA (aB CV w4 HB4.out xa xa xc xc x x HX4.out HX4.out)
 go_upto_region 6 with (first
  | (go_at_call 6;refine (aB C1).mono ?_;rintro e w5 ⟨r5,e5,rfl,hr5,hb5⟩;obtain ⟨rfl,rfl⟩:=aJh HX4.out.cl hr5;have HX5:=aA (HX4.out.below hb5);have HY5:=aA (HY4.out.below hb5);have HZ5:=aA (HZ.out.below hb5);have HB5:=aA (HB4.out.trans (hb5.mono HB4.out.size));clear hr5 hb5)
  | go_in)
 have C2:=aA (aB CV w5 HB5.out xa ya xc yc x y HX5.out HY5.out)
 go_upto_region 7 with (first
  | (go_at_call 6;refine (aB C2).mono ?_;rintro e w6 ⟨r6,e6,rfl,hr6,hb6⟩;obtain ⟨rfl,hi6⟩:=yN HX5.out.cl HY5.out.cl hr6;have HI6:=aA hi6;have HX6:=aA (HX5.out.below hb6);have HY6:=aA (HY5.out.below hb6);have HZ6:=aA (HZ5.out.below hb6);have HB6:=aA (HB5.out.trans (hb6.mono HB5.out.size));clear hr6 hb6 hi6)
  | go_in)
 have C3:=aA (aB CV w6 HB6.out ya za yc zc y z HY6.out HZ6.out)
 go_upto_region 8 with (first
  | (go_at_call 6;refine (aB C3).mono ?_;rintro e w7 ⟨r7,e7,rfl,hr7,hb7⟩;obtain ⟨rfl,hi7⟩:=yN HY6.out.cl HZ6.out.cl hr7;have HI7:=aA hi7;have HX7:=aA (HX6.out.below hb7);have HZ7:=aA (HZ6.out.below hb7);have HB7:=aA (HB6.out.trans (hb7.mono HB6.out.size));clear hr7 hb7 hi7)
  | go_in)
 have C4:=aA (aB CV w7 HB7.out xa za xc zc x z HX7.out HZ7.out)
 go_upto_region 9 with (first
  | (go_at_call 6;refine (aB C4).mono ?_;rintro e w8 ⟨r8,e8,rfl,hr8,hb8⟩;obtain ⟨rfl,hi8⟩:=yN HX7.out.cl HZ7.out.cl hr8;have HI8:=aA hi8;have HB8:=aA (HB7.out.trans (hb8.mono HB7.out.size));clear hr8 hb8 hi8)
  | go_in)
 clear CK CA CB CC CV C1 C2 C3 C4 HX HY HZ HX3 HX4 HY4 HX5 HY5 HZ5 HX6 HY6 HZ6 HX7 HZ7 HB1 HB2 HB3 HB4 HB5 HB6 HB7
 cases r6 with
 | false=>
  go_wp2
  go_ret
  exact ⟨rfl,HB8.out⟩
 | true=>
  obtain ⟨hxy,cxy⟩:=HI6.out.1 rfl
  have hxyi:(x.length:Int)≤(y.length:Int):=by omega
  cases r7 with
  | false=>
   go_wp2
   go_ret
   exact ⟨rfl,HB8.out⟩
  | true=>
   obtain ⟨hyz,cyz⟩:=HI7.out.1 rfl
   obtain rfl:r8=true:=HI8.out.2 ⟨by omega,aJg cxy cyz⟩
   go_wp2
   go_ret
   exact ⟨rfl,HB8.out⟩
end Go.Proofs.YtbddofieljiihaaGreatDoor
namespace Go.Proofs.YtbddofieljiihaaGreatDoor
open Go.ChangeShapes Go.WideShapes Go.ChangeAt Go.RowKit Go.Lib Go.Shelf
set_option maxRecDepth 100000
theorem own:ownKnob Tryz.prog.godebug=none:=by kernel_rfl
theorem zZ:laidOutB Tryz.prog=true:=by kernel_rfl
theorem aOi {W:World} (h:laidMetH Tryz.prog Rows.instancesRow.laid W):gL W:=by
 have hL:laidMet Tryz.prog Rows.instancesRow.laid W:=h
 refine utf8Tabs_of_readsT (U8Types.of196 aFh) ⟨by kernel_rfl,by kernel_rfl,by kernel_rfl,by kernel_rfl,by kernel_rfl,by kernel_rfl,by kernel_rfl⟩ ?_ ?_
 ·rw [←Pinned.utf8First_eq];exact Lib.laidMet.reads hL (by simp [Rows.instancesRow,Rows.laid_unicode_utf8_first])
 ·have e:(Rows.laid_unicode_utf8_acceptRanges:DataW Unit)=acceptData:=by kernel_rfl
  rw [←e];exact Lib.laidMet.reads hL (by simp [Rows.instancesRow])
theorem contract (H:Type) (enc:TypeId×Value→H) (W:World) (base:Nat) (args:Array Value) (ds gs:List (DataW H)) (before:List MemPlace)
  (hval:∀(j:Nat) t v,Tryz.f3.params[j]?=some t→args[j]?=some v→Value.okWide Tryz.prog W .any base t v)
  (hW:DataW.Whole enc Tryz.prog Tryz.f3.params.toList Rows.instancesSpec.vars false W args.toList ds gs before)
  (hz:(DataW.weightsEach Tryz.prog (Tryz.f3.params.toList++Rows.instancesSpec.plain.varTypes Tryz.prog) (ds++gs)).all (·≤reachBytes)=true)
  (hL:laidMetH Tryz.prog Rows.instancesRow.laid W) :
  Calls Tryz.prog 3 args W fun e W'=>∃v,e=.returned v∧Rows.instancesSpec.post enc Tryz.prog Tryz.f3 false true false false W args v W':=by
 have hW':=hW
 obtain ⟨p,q,hA0,hV,rfl,_,_⟩:=hW
 have hA:DataW.TrodAll enc Tryz.prog W 0 (fun _=>true) true Tryz.f3.params.toList args.toList ds p:=hA0
 rw [Tryz.params3] at hA hval
 obtain ⟨v0,v1,v2,d0,d1,d2,p0,p1,p2,rfl,rfl,rfl,h0,h1,h2⟩:=trodAll_three hA
 obtain ⟨rfl,rfl⟩:=trodVars_none hV
 obtain ⟨a0,len0,cap0,rfl⟩:=okWide_slice Tryz.underlying22 (hval 0 22 v0 rfl rfl)
 obtain ⟨a1,len1,cap1,rfl⟩:=okWide_slice Tryz.underlying22 (hval 1 22 v1 rfl rfl)
 obtain ⟨a2,len2,cap2,rfl⟩:=okWide_slice Tryz.underlying22 (hval 2 22 v2 rfl rfl)
 have h0k:=h0
 have h1k:=h1
 have h2k:=h2
 obtain ⟨fuel0,hf0⟩:=h0
 obtain ⟨fuel1,hf1⟩:=h1
 obtain ⟨fuel2,hf2⟩:=h2
 clear hA0
 simp only [List.append_nil] at hW'
 have hlt:∀x∈p0++p1++p2,x.block < W.heap.size:=fun x hx=>by simpa using hW'.lt x hx
 have hargs0:∀(W':World),Below W.heap.size W W'→DataW.Trod enc Tryz.prog W' 0 (fun b=>decide (b < W.heap.size)) true 22 (.slice a0 len0 cap0) d0 p0:=
  fun W' hn=>Below.trod zZ (by kernel_rfl) (of_decide_eq_true (by kernel_rfl)) h0k hn (fun x hx=>hlt x (by simp [hx]))
 have hargs1:∀(W':World),Below W.heap.size W W'→DataW.Trod enc Tryz.prog W' 0 (fun b=>decide (b < W.heap.size)) true 22 (.slice a1 len1 cap1) d1 p1:=
  fun W' hn=>Below.trod zZ (by kernel_rfl) (of_decide_eq_true (by kernel_rfl)) h1k hn (fun x hx=>hlt x (by simp [hx]))
 have hargs2:∀(W':World),Below W.heap.size W W'→DataW.Trod enc Tryz.prog W' 0 (fun b=>decide (b < W.heap.size)) true 22 (.slice a2 len2 cap2) d2 p2:=
  fun W' hn=>Below.trod zZ (by kernel_rfl) (of_decide_eq_true (by kernel_rfl)) h2k hn (fun x hx=>hlt x (by simp [hx]))
 obtain ⟨b0,c0,cp0,hcs0,hl0,hn0,_⟩:=zS hf0
 obtain ⟨b1,c1,cp1,hcs1,hl1,hn1,_⟩:=zS hf1
 obtain ⟨b2,c2,cp2,hcs2,hl2,hn2,_⟩:=zS hf2
 obtain ⟨rfl,rfl,rfl⟩ : a0=b0∧len0=c0.length∧cap0=cp0:=by simpa [Value.cells] using hcs0
 obtain ⟨rfl,rfl,rfl⟩ : a1=b1∧len1=c1.length∧cap1=cp1:=by simpa [Value.cells] using hcs1
 obtain ⟨rfl,rfl,rfl⟩ : a2=b2∧len2=c2.length∧cap2=cp2:=by simpa [Value.cells] using hcs2
 refine (aOh a0 a1 a2 cap0 cap1 cap2 c0 c1 c2 W hl0 hl1 hl2 hn0 hn1 hn2 (aOi hL)).mono fun e W' ⟨he,hB⟩=>?_
 subst he
 have e1:Rows.instancesSpec.fn H ([d0,d1,d2]++[]) = {results:=[.lit (.bool true)],args:=[d0,d1,d2]}:=rfl
 refine ⟨_,rfl,_,_,_,[],p0++(p1++p2),[],hW',?_,?_,by rw [e1];rfl,hB.frame _,fun h=>by cases h⟩
 ·rw [e1];exact trodAll_mk1 (shut_bool Tryz.underlying4 _)
 ·rw [e1];exact trodAll_mk3 (hargs0 _ hB) (hargs1 _ hB) (hargs2 _ hB)
noncomputable def wH (os:Os):World:=
 let w0:=World.holding Tryz.prog os ⟨#[],#[],[]⟩
 let put (h:Array Obj) (g:Nat) (cs:Array Value):Array Obj:=h.modify g fun
  | .cells _ t frozen=>.cells cs t frozen
  | o=>o
 let h1:=put w0.heap 0 (Lib.firstTab.map fun z=>Value.int .u8 z).toArray
 let h2:=put h1 1 ((List.range 16).flatMap fun i=>[Value.int .u8 (Lib.accLo i),Value.int .u8 (Lib.accHi i)]).toArray
 {w0 with heap:=h2}
theorem aOj (os:Os) (args:Array Value):laidMet Tryz.prog Rows.instancesRow.laid ((wH os).forCall (fun _ _=>0) ⟨#[],args,[]⟩).memory:=
 (LaidIn.of_run (l := [("unicode/utf8.acceptRanges", Rows.laid_unicode_utf8_acceptRanges), ("unicode/utf8.first", Rows.laid_unicode_utf8_first)]) [1, 0] 8 (by kernel_rfl) (by kernel_rfl) (by kernel_rfl) (by kernel_rfl)).met
theorem aOk (os:Os) {H:Type} (enc:TypeId×Value→H) :
  (OpenSpec.ofChange Rows.instancesSpec).preRow enc Tryz.prog Tryz.f3 Rows.instancesRow.domain false Rows.instancesRow.laid ((wH os).forCall (fun _ _=>0) ⟨#[],#[.slice none 0 0,.slice none 0 0,.slice none 0 0],[]⟩).memory #[.slice none 0 0,.slice none 0 0,.slice none 0 0]:=by
 have hw:(DataW.whole enc Tryz.prog ((wH os).forCall (fun _ _=>0) ⟨#[],#[.slice none 0 0,.slice none 0 0,.slice none 0 0],[]⟩).memory Tryz.f3.params.toList Rows.instancesSpec.vars false #[Value.slice none 0 0,Value.slice none 0 0,Value.slice none 0 0].toList 8).map (fun x=>(x.1,x.2.1))=some ([.nil,.nil,.nil],[]):=by kernel_rfl
 obtain ⟨⟨x1,x2,x3⟩,hx,hx1⟩:=Option.map_eq_some_iff.1 hw
 simp only [Prod.mk.injEq] at hx1
 obtain ⟨rfl,rfl⟩:=hx1
 exact OpenSpec.preRow_of_cond 8 hx (by kernel_rfl) (fun k hk=>by cases hk) (by kernel_rfl) (aOj os _)
theorem lifted (os:Os) (started:os.Started) (H:Type) (enc:TypeId×Value→H) (F:Stop.Interp) :
  ReturnsInHanded {} Tryz.checked os 3 .any ((OpenSpec.ofChange Rows.instancesSpec).preRow enc Tryz.prog Tryz.f3 Rows.instancesRow.domain false Rows.instancesRow.laid) (((OpenSpec.ofChange Rows.instancesSpec).at F).post enc Tryz.prog Tryz.f3 false true false false):=by
 refine returnsInHanded_of_row (C:=Tryz.checked) (s:=OpenSpec.ofChange Rows.instancesSpec) own started (by kernel_rfl) Tryz.func3
  (witness_row_atRef (enc:=enc) (C:=Tryz.checked) false (wH os) #[.slice none 0 0,.slice none 0 0,.slice none 0 0] rfl (by kernel_rfl) (by kernel_rfl) (by kernel_rfl) (aOk os enc)) ?_
 intro W base args ds gs before hval hW _ _ hz hL _ _
 exact contract H enc W base args ds gs before hval hW hz hL
theorem said:Rows.InstancesSaid:=
 OpenClaim.holds_of_cond 3 Tryz.f3 rfl rfl rfl rfl rfl rfl rfl ⟨rfl,rfl,rfl,rfl,rfl⟩ rfl rfl rfl rfl rfl (by kernel_rfl) Tryz.func3 (by kernel_rfl)
  (of_decide_eq_true (by kernel_rfl)) (by unfold Func.isWrapper;first | (rw [if_pos (by decide +kernel)];kernel_rfl) | (rw [if_neg (by decide +kernel)];exact ⟨rfl,rfl⟩))
  (fun os started H enc _ F=>by rw [OpenClaim.pre_eq_preRow];exact lifted os started H enc F)
theorem plain (f : FuncId) (fn : Func) (hf : Tryz.pinned.checked.prog.funcNamed "moot/mootkeep.Instances" = some f) (hfn : Tryz.pinned.checked.prog.funcs[f]? = some fn) :
  false=Tryz.pinned.checked.prog.looks []∧∀(j:Nat) t,fn.params[j]?=some t→Tryz.pinned.checked.prog.wantsStandIn t=false:=by
 obtain rfl : f = 3 := Option.some.inj ((show Tryz.prog.funcNamed "moot/mootkeep.Instances" = some 3 by kernel_rfl).symm.trans hf) |>.symm
 obtain rfl:fn=Tryz.f3:=(Option.some.inj (Tryz.func3.symm.trans hfn)).symm
 refine ⟨by kernel_rfl,fun j t ht=>?_⟩
 rw [Tryz.params3] at ht
 obtain rfl:t=22:=by simpa using Array.mem_of_getElem? ht
 exact (show Tryz.prog.wantsStandIn 22=false by kernel_rfl)
theorem instances_card:Rows.InstancesCardSaid:=
 Claim7.holds_tied_plain_at .later [] _ _ _ _ said (fun _ h=>by cases h) (by kernel_rfl) (fun _ h=>by cases h) instances_row_tie rfl ⟨rfl,rfl⟩ (by kernel_rfl) rfl plain (by kernel_rfl)
#print axioms instances_card
end Go.Proofs.YtbddofieljiihaaGreatDoor
