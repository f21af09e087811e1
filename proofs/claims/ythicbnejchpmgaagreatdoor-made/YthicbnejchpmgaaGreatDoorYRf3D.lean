/- What Unify makes of any two lists of nodes: it is the same the other way round; made once more with the first of them, by other variables, it stays as it is; and two known texts are solved, the one refuted, as they are: the tied card. Conditions: none but the row's own (the library's tables stand as the program lays them; each list and text is of at most 2^47 - 4096 bytes). -/
import Derived.Test.YthicbnejchpmgaaGreatDoorNumEqD
import Derived.Test.YthicbnejchpmgaaGreatDoorXSr9D
import Derived.Test.YthicbnejchpmgaaGreatDoorXKn0D
import Derived.Test.YthicbnejchpmgaaGreatDoorCards
import Derived.Test.YthicbnejchpmgaaGreatDoorTie
import Derived.ProofKit
import Derived.OpenShut
import Derived.Carry
import Derived.Deep.DeepHandedRow
import Derived.Deep.DeepWitnessRowRef
import Derived.Lib.LaidIn
import Derived.Lib.LaidU8T
import Derived.PinnedBridge
namespace Go.Proofs.YthicbnejchpmgaaGreatDoor
open Go.RowKit Go.Shelf Go.WideMaps
set_option maxRecDepth 100000
theorem aIq:∀(T:List (aH×Value)) (k m:Nat) (h:k < T.length),m < 6→(fU T)[k * 6+m]?=(fM T[k])[m]?
 | [],k,_,h,_=>by simp at h
 | x :: T,0,m,_,hm=>by
  rw [show fU (x :: T)=fM x++fU T from rfl,List.getElem?_append_left (by simp [fM];omega)]
  simp
 | x :: T,k+1,m,h,hm=>by
  have:=aIq T k m (by simpa using h) hm
  rw [show fU (x :: T)=fM x++fU T from rfl,List.getElem?_append_right (by simp [fM];omega),show (k+1) * 6+m - (fM x).length=k * 6+m by simp [fM];omega,this]
  simp
theorem gH.cells {B:Nat} {W:World} {gs cap:Nat} {T:List (aH×Value)} (h:gH B W (.slice (some ⟨gs,0,none⟩) T.length cap) T) {k:Nat} (hk:k < T.length):W.cell? ⟨gs,k * 6,none⟩=some (.int .i64 T[k].1.r)∧W.cell? ⟨gs,k * 6+1,none⟩=some (.int .i64 T[k].1.a)∧W.cell? ⟨gs,k * 6+2,none⟩=some (.int .i64 T[k].1.b)∧W.cell? ⟨gs,k * 6+3,none⟩=some (.int .i64 T[k].1.i)∧W.cell? ⟨gs,k * 6+4,none⟩=some (.int .i64 T[k].1.j)∧∃ad cp,W.cell? ⟨gs,k * 6+5,none⟩=some (.slice ad T[k].1.c.length cp)∧bK B W (.slice ad T[k].1.c.length cp) T[k].1.c:=by
 have hl:=aHp T
 have key:∀m,m < 6→W.cell? ⟨gs,k * 6+m,none⟩=(fM T[k])[m]?:=fun m hm=>by
  rw [h.row.cellAt (k * 6+m) (by omega),aIq T k m hk hm]
 obtain ⟨g',cap',ad,cp,e,_,h5,h6⟩:=h.cell hk
 cases e
 exact ⟨key 0 (by omega),key 1 (by omega),key 2 (by omega),key 3 (by omega),key 4 (by omega),ad,cp,h5,h6⟩
def aCc (P:List (List Lt)) (T:List (aH×Value)) (n:Nat) (s:aH):Prop:=
 bV s.c=true∧dV s.c=true∧((s.r=1∧s.b=0∧s.i=0∧s.j=0∧P[s.a]?=some s.c)∨(s.r=2∧s.a < n∧s.b < n∧bV (aL T s.a)=true∧bV (aL T s.b)=true∧mC (aL T s.a) (aL T s.b) s.i s.j s.c true 0))
set_option maxHeartbeats 4000000 in
theorem aVt (s:ByteArray) (P:List (List Lt)) (B gs cap n:Nat) (T:List (aH×Value)) (w:World) (hs0:s.size≤140737488355328) (hrd:∀out at' er,pB s out at' er→out=P∧er=0) (hP:∀c∈P,bV c=true) (hN:T.length=n+1) (hS:gH B w (.slice (some ⟨gs,0,none⟩) T.length cap) T) (hT:gW w) (hR:∀k (h:k < T.length),aCc P T k T[k].1) (hl:T[n].1.c=[]) (hTl:n≤1000) (hcap:T.length≤cap) :
  Calls Tryz.prog 10 #[.string s,.slice (some ⟨gs,0,none⟩) (n+1) cap] w fun e w'=>e=.returned (.bool true)∧Below w.heap.size w w':=by
 have CS:=aA (aDd s w hs0)
 have HS:=aA hS
 have HT:=aA hT
 have HR:=aA hR
 have HRD:=aA hrd
 have HP:=aA hP
 have HN:=aA hN
 have hne:(((n:Int)+1) == 0)=false:=beq_eq_false_iff_ne.2 (by omega)
 have hne2:(((n+1:Nat):Int) == 0)=false:=beq_eq_false_iff_ne.2 (by omega)
 obtain ⟨-,-,-,-,-,lad,lcp,l5,-⟩:=hS.cells (k:=n) (by omega)
 rw [hl] at l5
 have hcap':n+1≤cap:=by omega
 clear hS hT hR hrd hP hl hN hcap
 go_enter Tryz.func10,Tryz.ntmps10
 go_upto_region 4 with (first
  | (go_at_call 17;refine (aB CS).mono ?_;rintro e w1 ⟨v,QV,at1,er,rfl,hrd,hmem,hb1⟩;obtain ⟨hout,rfl⟩:=HRD.out _ _ _ hrd;have HOUT:=aA hout;have HM:=aA hmem.cls;have HB1:=aA hb1;clear hrd hmem hb1 hout)
  | go_in)
 obtain ⟨PV,hPV⟩ : ∃PV,(QV.map fun p=>(p.1.map Prod.fst,p.2))=PV:=⟨_,rfl⟩
 have hPl:PV.map Prod.fst=P:=by rw [←HOUT.out,←hPV,List.map_map];rfl
 rw [hPV] at HM
 clear hPV HOUT CS
 have hz1:=HB1.out.size
 go_wp2
 go_loopw [25] (fun iv wr=>∃k:Nat,k≤n+1∧iv=.int .i64 k∧Below w1.heap.size w1 wr) (fun iv _=>n+1 - (intOf iv).toNat)
 case atStart=>exact ⟨0,Nat.zero_le _,rfl,Below.refl _ _⟩
 case round=>
  obtain ⟨k,hk,rfl,hb⟩:=hrel
  have hbw:Below w.heap.size w wr:=HB1.out.trans (hb.mono hz1)
  by_cases hlt:k < n+1
  ·have hkT:k < T.length:=by rw [HN.out];exact hlt
   obtain ⟨s0,s1,s2,s3,s4,sad,scp,s5,smem⟩:=HS.out.cells hkT
   obtain ⟨r1,r2,r3⟩:=HR.out k hkT
   obtain ⟨_,_,e5,_,slits,_⟩:=smem.lits (kT r1)
   cases e5
   have CR:Hid (∀wx,Below wr.heap.size wr wx→Calls Tryz.prog 21 #[v,.slice (some ⟨gs,0,none⟩) k cap,.agg #[.int .i64 T[k].1.r,.int .i64 T[k].1.a,.int .i64 T[k].1.b,.int .i64 T[k].1.i,.int .i64 T[k].1.j,.slice sad T[k].1.c.length scp]] wx fun e w'=>e=.returned (.bool true)∧Below wx.heap.size wx w'):=aA fun wx hx=>by
    have hbx:Below w.heap.size w wx:=hbw.trans (hx.mono hbw.size)
    have hbx1:Below w1.heap.size w1 wx:=hb.trans (hx.mono hb.size)
    refine aMu v _ _ _ _ _ _ sad scp T[k].1.c wx (slits.below hbx (Nat.le_refl _)) r2 fun wy hy=>?_
    have hby:Below w.heap.size w wy:=hbx.trans (hy.mono hbx.size)
    have hby1:Below w1.heap.size w1 wy:=hbx1.trans (hy.mono hbx1.size)
    rcases r3 with ⟨q1,q2,q3,q4,q5⟩ | ⟨q1,q2,q3,q4,q5,q6⟩
    ·have hap:T[k].1.a < PV.length:=by
      have:=(List.getElem?_eq_some_iff.1 q5).1
      rw [←hPl] at this
      simpa using this
     obtain ⟨g,pcap,ad,cp,hv,_,hc,hm⟩:=HM.out.cell hap
     have hpe:PV[T[k].1.a].1=T[k].1.c:=by
      rw [←hPl,List.getElem?_map,List.getElem?_eq_getElem hap] at q5
      simpa using q5
     rw [hpe] at hc hm
     obtain ⟨_,_,e6,_,hli,_⟩:=hm.lits (kT r1)
     cases e6
     rw [hv,q1,q2,q3,q4]
     refine (aMs g PV.length pcap T[k].1.a _ sad _ scp ad T[k].1.c.length cp wy (Below.at' hby1 (Nat.le_refl _) hc) hap).mono ?_
     rintro e w' ⟨rfl,hb'⟩
     exact ⟨ad,cp,rfl,(hli.below hby1 (Nat.le_refl _)).below hb' (Nat.le_refl _),hb'⟩
    ·have haT:T[k].1.a < T.length:=by omega
     have hbT:T[k].1.b < T.length:=by omega
     obtain ⟨_,_,_,_,_,oad,ocp,o5,omem⟩:=HS.out.cells haT
     obtain ⟨_,_,_,_,_,pad,pcp,p5,pmem⟩:=HS.out.cells hbT
     rw [pQ haT] at q4 q6
     rw [pQ hbT] at q5 q6
     obtain ⟨_,_,e6,_,oli,_⟩:=omem.lits (kT q4)
     cases e6
     obtain ⟨_,_,e7,_,pli,_⟩:=pmem.lits (kT q5)
     cases e7
     obtain ⟨va,vn,vc,rfl⟩ : ∃va vn vc,v=.slice va vn vc:=by
      obtain ⟨a,c,e⟩:=aR HM.out.row
      exact ⟨a,_,c,e⟩
     rw [q1]
     exact aMt va vn vc gs k cap _ _ _ _ sad _ scp oad pad ocp pcp _ _ _ wy q2 q3 (Below.at' hby (Nat.le_refl _) o5) (Below.at' hby (Nat.le_refl _) p5) (oli.below hby (Nat.le_refl _)) (pli.below hby (Nat.le_refl _)) (HT.out.below hby (Nat.le_refl _)) q6 r1
   have t0:=Below.at' hbw (Nat.le_refl _) s0
   have t1:=Below.at' hbw (Nat.le_refl _) s1
   have t2:=Below.at' hbw (Nat.le_refl _) s2
   have t3:=Below.at' hbw (Nat.le_refl _) s3
   have t4:=Below.at' hbw (Nat.le_refl _) s4
   have t5:=Below.at' hbw (Nat.le_refl _) s5
   have hki:(k:Int) < ((n+1:Nat):Int):=by omega
   have hkc:k≤cap:=by omega
   have HB:=aA hb
   generalize T[k].1.c.length=cn at *
   generalize T[k].1.r=er at *
   generalize T[k].1.a=ea at *
   generalize T[k].1.b=eb at *
   generalize T[k].1.i=ei at *
   generalize T[k].1.j=ej at *
   clear s0 s1 s2 s3 s4 s5 smem slits r1 r2 r3 hb hbw hPl
   go_upto_region 7 with (go_in)
   obtain ⟨w2,hw2,hb2,hx2⟩ : ∃w2,wr.alloc (.cells #[.int .i64 er,.int .i64 ea,.int .i64 eb,.int .i64 ei,.int .i64 ej,.slice sad cn scp] 54)=w2∧Below wr.heap.size wr w2∧w2.heap[wr.heap.size]?=some (.cells #[.int .i64 er,.int .i64 ea,.int .i64 eb,.int .i64 ei,.int .i64 ej,.slice sad cn scp] 54 (0,0)):=⟨_,rfl,(Below.refl _ wr).alloc (Nat.le_refl _) _,World.alloc_heap_new wr _⟩
   rw [hw2]
   clear hw2 t0 t1 t2 t3 t4 t5
   have x0:w2.cell? ⟨wr.heap.size,0,none⟩=some (.int .i64 er):=by simp [World.cell?,hx2]
   have x1:w2.cell? ⟨wr.heap.size,1,none⟩=some (.int .i64 ea):=by simp [World.cell?,hx2]
   have x2:w2.cell? ⟨wr.heap.size,2,none⟩=some (.int .i64 eb):=by simp [World.cell?,hx2]
   have x3:w2.cell? ⟨wr.heap.size,3,none⟩=some (.int .i64 ei):=by simp [World.cell?,hx2]
   have x4:w2.cell? ⟨wr.heap.size,4,none⟩=some (.int .i64 ej):=by simp [World.cell?,hx2]
   have x5:w2.cell? ⟨wr.heap.size,5,none⟩=some (.slice sad cn scp):=by simp [World.cell?,hx2]
   have CR2:=aA (fun (wx:World) (hx:∃m,wx=w2.drewN m)=>(CR.out wx (by obtain ⟨m,rfl⟩:=hx;exact hb2.trans ((aN ⟨m,rfl⟩).mono hb2.size))).mono (R':=fun e w3=>e=.returned (.bool true)∧Below w2.heap.size w2 w3) (fun e w3 he=>by obtain ⟨m,rfl⟩:=hx;exact ⟨he.1,(aN ⟨m,rfl⟩).trans he.2⟩))
   have HB2:=aA (HB.out.trans (hb2.mono HB.out.size))
   clear hx2 hb2 CR
   go_region_held3 (fun w'=>w'.cell? ⟨wr.heap.size,0,none⟩=some (.int .i64 er)∧w'.cell? ⟨wr.heap.size,1,none⟩=some (.int .i64 ea)∧w'.cell? ⟨wr.heap.size,2,none⟩=some (.int .i64 eb)∧w'.cell? ⟨wr.heap.size,3,none⟩=some (.int .i64 ei)∧w'.cell? ⟨wr.heap.size,4,none⟩=some (.int .i64 ej)∧w'.cell? ⟨wr.heap.size,5,none⟩=some (.slice sad cn scp)) (first | trivial | go_keep)
    (first
     | (go_at_call 21;refine (aB CR2 _ (by first | exact ⟨0,rfl⟩ | exact ⟨1,rfl⟩ | exact ⟨_,rfl⟩)).mono ?_;rintro e w3 ⟨rfl,hb3⟩;have y0:=Below.at' hb3 (Nat.le_refl _) x0;have y1:=Below.at' hb3 (Nat.le_refl _) x1;have y2:=Below.at' hb3 (Nat.le_refl _) x2;have y3:=Below.at' hb3 (Nat.le_refl _) x3;have y4:=Below.at' hb3 (Nat.le_refl _) x4;have y5:=Below.at' hb3 (Nat.le_refl _) x5;have HB3:=aA (HB2.out.trans (hb3.mono HB2.out.size));clear hb3)
     | go_in)
   clear y0 y1 y2 y3 y4 y5 x0 x1 x2 x3 x4 x5
   go_wp2
   go_roundw
   case rel=>exact ⟨k+1,by omega,by go_num,HB3.out⟩
   case measure=>simp [intOf];omega
  ·obtain rfl:k=n+1:=by omega
   have q5:=Below.at' hbw (Nat.le_refl _) l5
   have HBW:=aA hbw
   clear hb hbw hlt hk
   go_wp2
   go_ret
   exact ⟨rfl,HBW.out⟩
theorem aVu (s:ByteArray) (P:List (List Lt)) (B gs cap n:Nat) (T:List (aH×Value)) (w:World) (hs0:s.size≤140737488355328) (hrd:∀out at' er,pB s out at' er→out=P∧er=0) (hP:∀c∈P,bV c=true) (hN:T.length=n+1) (hS:gH B w (.slice (some ⟨gs,0,none⟩) T.length cap) T) (hT:gW w) (hR:∀k (h:k < T.length),aCc P T k T[k].1) (hl:T[n].1.c=[]) (hTl:n≤1000) (hcap:T.length≤cap) :
  Calls Tryz.prog 7 #[.string s,.slice (some ⟨gs,0,none⟩) (n+1) cap] w fun e w'=>e=.returned (.bool true)∧Below w.heap.size w w':=by
 have C:=aA (aVt s P B gs cap n T w hs0 hrd hP hN hS hT hR hl hTl hcap)
 clear hrd hP hS hT hR hl
 go_enter Tryz.func7,Tryz.ntmps7
 go_wp2_with (first
  | (go_at_call 10;refine (aB C).mono ?_;rintro e w1 ⟨rfl,hb1⟩;have HB1:=aA hb1;clear hb1)
  | go_in)
 go_ret
 exact ⟨rfl,HB1.out⟩
theorem aIr:pS qN:=⟨by kernel_rfl,by kernel_rfl⟩
theorem aVv:mC jA cP 0 0 cQ true 0:=
 Or.inr ⟨by kernel_rfl,by kernel_rfl,Or.inr ⟨0,0,⟨by decide,by decide,rfl,rfl,by decide⟩,by
  have h:=yA aU1 0 1 [((0:Int),(false,[qN]))] (by intro r hr;simp at hr;subst hr;exact ⟨qN,rfl,aIr⟩) (Nat.le_of_ble_eq_true (by kernel_rfl))
  rw [show aT ([((0:Int),((false,[qN]):Lt))].map Prod.snd)=cQ by kernel_rfl] at h
  exact h⟩⟩
theorem aVw:mC cQ nB 0 0 [] true 0:=
 Or.inr ⟨by kernel_rfl,by kernel_rfl,Or.inr ⟨0,0,⟨by decide,by decide,rfl,rfl,by decide⟩,yA aIr 0 1 [] (by simp) (Nat.le_of_ble_eq_true (by kernel_rfl))⟩⟩
theorem aVx {T:List (aH×Value)} (hT:T.map Prod.fst=[jQ,nC,hH,nV,nW]):∀k (h:k < T.length),aCc [cP,jA,nB] T k T[k].1:=by
 have hl:T.length=5:=by have:=congrArg List.length hT;simpa using this
 have hc:∀k,aL T k=([jQ,nC,hH,nV,nW].map aH.c).getD k []:=fun k=>by
  rw [vI,←hT,List.map_map]
  rfl
 have hk:∀k (h:k < T.length),some T[k].1=[jQ,nC,hH,nV,nW][k]?:=fun k h=>by
  rw [←hT,List.getElem?_map,List.getElem?_eq_getElem h]
  rfl
 intro k h
 have e:=hk k h
 match k,h with
 | 0,_=>
  obtain e:T[0].1=jQ:=by simpa using e
  rw [e]
  exact ⟨by kernel_rfl,by kernel_rfl,Or.inl ⟨rfl,rfl,rfl,rfl,rfl⟩⟩
 | 1,_=>
  obtain e:T[1].1=nC:=by simpa using e
  rw [e]
  exact ⟨by kernel_rfl,by kernel_rfl,Or.inl ⟨rfl,rfl,rfl,rfl,rfl⟩⟩
 | 2,_=>
  obtain e:T[2].1=hH:=by simpa using e
  rw [e]
  exact ⟨by kernel_rfl,by kernel_rfl,Or.inl ⟨rfl,rfl,rfl,rfl,rfl⟩⟩
 | 3,_=>
  obtain e:T[3].1=nV:=by simpa using e
  rw [e]
  refine ⟨by kernel_rfl,by kernel_rfl,Or.inr ⟨rfl,by decide,by decide,?_,?_,?_⟩⟩
  ·rw [hc];kernel_rfl
  ·rw [hc];kernel_rfl
  ·rw [hc,hc];exact aVv
 | 4,_=>
  obtain e:T[4].1=nW:=by simpa using e
  rw [e]
  refine ⟨by kernel_rfl,by kernel_rfl,Or.inr ⟨rfl,by decide,by decide,?_,?_,?_⟩⟩
  ·rw [hc];kernel_rfl
  ·rw [hc];kernel_rfl
  ·rw [hc,hc];exact aVw
 | k+5,h=>omega
theorem aVy (w:World):Calls Tryz.prog 6 #[.string yB,.int .i64 100] w fun e w'=>∃gs cap used T,e=.returned (.tuple #[.agg #[.int .i64 1,.slice (some ⟨gs,0,none⟩) (4+1) cap,.slice none 0 0,.int .i64 (used:Nat),.bool false],.int .i64 0])∧T.map Prod.fst=[jQ,nC,hH,nV,nW]∧T.length≤cap∧gH w.heap.size w' (.slice (some ⟨gs,0,none⟩) T.length cap) T∧Below w.heap.size w w':=by
 refine (aIn _ 100 (fun _=>vO) w (by decide) (fun out at' h=>?_)).mono ?_
 ·obtain ⟨rfl,_,_⟩:=yC h
  refine ⟨fun c hc=>?_,by simp,fun l hl _ _ L n hT=>?_⟩
  ·simp at hc
   rcases hc with rfl | rfl | rfl <;> kernel_rfl
  ·obtain rfl:l=100:=by omega
   exact aUb hT
 ·rintro e w' ⟨out,at',er,hrd,hb,h⟩
  obtain ⟨rfl,rfl,rfl⟩:=yC hrd
  rcases h with ⟨h1,_⟩ | ⟨_,h1,_⟩ | ⟨_,_,_,vd,vs,vk,used,b,T,ks,rfl,hA,hE⟩
  ·exact absurd rfl h1
  ·exact absurd ⟨by decide,by decide⟩ h1
  ·obtain ⟨⟨rfl,hT,rfl⟩,_⟩:=hE
   have hl:T.length=4+1:=by have:=congrArg List.length hT;simpa using this
   obtain ⟨gs,cap,_,_,rfl,_⟩:=hA.st.cell (k:=0) (by omega)
   have hcap:T.length≤cap:=by
    obtain ⟨_,⟨e,_⟩ | ⟨g',cap',cur,e,_,_,hh,_⟩⟩:=hA.st.row
    ·cases e
    ·simp at e hh
     omega
   rcases hA.kp with ⟨h2,_⟩ | ⟨_,rfl⟩
   ·cases h2
   ·exact ⟨gs,cap,used,T,by rw [←hl];rfl,hT,hcap,hA.st,hb⟩
theorem aVz (w:World):Calls Tryz.prog 6 #[.string aC0,.int .i64 100] w fun e w'=>∃va vn vc ka kn kc used,e=.returned (.tuple #[.agg #[.int .i64 2,.slice va vn vc,.slice ka kn kc,.int .i64 (used:Nat),.bool false],.int .i64 0])∧Below w.heap.size w w':=by
 refine (aIn _ 100 (fun _=>yD) w (by decide) (fun out at' h=>?_)).mono ?_
 ·obtain ⟨rfl,_,_⟩:=aIc h
  refine ⟨fun c hc=>?_,by simp,fun l hl _ _ L n hT=>?_⟩
  ·simp at hc
   rcases hc with rfl | rfl <;> kernel_rfl
  ·obtain rfl:l=100:=by omega
   exact aUc hT
 ·rintro e w' ⟨out,at',er,hrd,hb,h⟩
  obtain ⟨rfl,rfl,rfl⟩:=aIc hrd
  rcases h with ⟨h1,_⟩ | ⟨_,h1,_⟩ | ⟨_,_,_,vd,vs,vk,used,b,T,ks,rfl,hA,hE⟩
  ·exact absurd rfl h1
  ·exact absurd ⟨by decide,by decide⟩ h1
  ·obtain ⟨⟨rfl,rfl⟩,_⟩:=hE
   obtain ⟨va,vc,rfl⟩:=aR hA.st.row
   rcases hA.kp with ⟨_,hk⟩ | ⟨_,rfl⟩
   ·obtain ⟨ka,kc,rfl⟩:=aR hk
    exact ⟨va,_,vc,ka,_,kc,used,rfl,hb⟩
   ·exact ⟨va,_,vc,none,0,0,used,rfl,hb⟩
set_option maxHeartbeats 4000000 in
theorem aW0 (w:World) (hT:gW w):Calls Tryz.prog 4 #[] w fun e w'=>e=.returned (.bool true)∧Below w.heap.size w w':=by
 have CA:=aA (aVy w)
 have CB:=aA (fun (wx:World)=>aVz wx)
 have HT:=aA hT
 clear hT
 go_enter Tryz.func4,Tryz.ntmps4
 go_upto_region 2 with (first
  | (go_at_call 6;refine (aB CA).mono ?_;rintro e w1 ⟨gs,cap,used,T,rfl,hTl,hcap,hst,hb1⟩;have HST:=aA hst;have HTL:=aA hTl;have HB1:=aA hb1;have hz1:=hb1.size;clear hst hTl hb1)
  | go_in)
 obtain ⟨w2,hw2,hb2,hx2⟩ : ∃w2,w1.alloc (.cells #[.int .i64 1,.slice (some ⟨gs,0,none⟩) 5 cap,.slice none 0 0,.int .i64 (used:Nat),.bool false] 33)=w2∧Below w1.heap.size w1 w2∧w2.heap[w1.heap.size]?=some (.cells #[.int .i64 1,.slice (some ⟨gs,0,none⟩) 5 cap,.slice none 0 0,.int .i64 (used:Nat),.bool false] 33 (0,0)):=⟨_,rfl,(Below.refl _ w1).alloc (Nat.le_refl _) _,World.alloc_heap_new w1 _⟩
 rw [hw2]
 have x0:w2.cell? ⟨w1.heap.size,0,none⟩=some (.int .i64 1):=by simp [World.cell?,hx2]
 have x1:w2.cell? ⟨w1.heap.size,1,none⟩=some (.slice (some ⟨gs,0,none⟩) 5 cap):=by simp [World.cell?,hx2]
 have HB2:=aA (HB1.out.trans (hb2.mono hz1))
 have HC2:=aA hb2
 clear hw2 hx2 hb2 CA
 go_upto_region 3 with (first
  | (go_at_call 6;refine (aB CB _).mono ?_;rintro e w3 ⟨va,vn,vc,ka,kn,kc,used2,rfl,hb3⟩;have y0:=Below.at' hb3 (Nat.le_refl _) x0;have y1:=Below.at' hb3 (Nat.le_refl _) x1;have HB3:=aA (HB2.out.trans (hb3.mono HB2.out.size));have HC3:=aA (HC2.out.trans (hb3.mono HC2.out.size));clear hb3)
  | go_in)
 obtain ⟨w4,hw4,hb4,hx4⟩ : ∃w4,w3.alloc (.cells #[.int .i64 2,.slice va vn vc,.slice ka kn kc,.int .i64 (used2:Nat),.bool false] 33)=w4∧Below w3.heap.size w3 w4∧w4.heap[w3.heap.size]?=some (.cells #[.int .i64 2,.slice va vn vc,.slice ka kn kc,.int .i64 (used2:Nat),.bool false] 33 (0,0)):=⟨_,rfl,(Below.refl _ w3).alloc (Nat.le_refl _) _,World.alloc_heap_new w3 _⟩
 rw [hw4]
 have z0:=Below.at' hb4 (Nat.le_refl _) y0
 have z1:=Below.at' hb4 (Nat.le_refl _) y1
 have z2:w4.cell? ⟨w3.heap.size,0,none⟩=some (.int .i64 2):=by simp [World.cell?,hx4]
 have hbw:Below w.heap.size w w4:=HB3.out.trans (hb4.mono HB3.out.size)
 have hb14:Below w1.heap.size w1 w4:=HC3.out.trans (hb4.mono HC3.out.size)
 have hl5:T.length=4+1:=by have:=congrArg List.length HTL.out;simpa using this
 have hT4:T[4].1=nW:=by
  have:=congrArg (fun l=>l[4]?) HTL.out
  simp only [List.getElem?_map] at this
  rw [List.getElem?_eq_getElem (by omega)] at this
  simpa using this
 have hst4:gH w.heap.size w4 (.slice (some ⟨gs,0,none⟩) T.length cap) T:=⟨aY HST.out.row hb14 (Nat.le_refl _),fun p hp=>by
  obtain ⟨Q,q1,q2,q3,q4⟩:=HST.out.cl p hp
  exact ⟨Q,q1,aY q2 hb14 (Nat.le_refl _),fun q hq=>aY (q3 q hq) hb14 (Nat.le_refl _),q4⟩⟩
 have CR:=aA (aVu yB [cP,jA,nB] w.heap.size gs cap 4 T w4 (by decide) (fun out at' er h=>⟨(yC h).1,(yC h).2.2⟩) (by intro c hc;simp at hc;rcases hc with rfl | rfl | rfl <;> kernel_rfl) hl5 hst4 (HT.out.below hbw (Nat.le_refl _)) (aVx HTL.out) (by rw [hT4];rfl) (by omega) hcap)
 have HB4:=aA hbw
 clear hw4 hx4 hb4 hbw hb14 hst4 hT4 hl5 hcap CB x0 x1 y0 y1 HST HTL
 go_wp2_with (first
  | (go_at_call 7;refine (aB CR).mono ?_;rintro e w5 ⟨rfl,hb5⟩;have u0:=Below.at' hb5 (Nat.le_refl _) z0;have u2:=Below.at' hb5 (Nat.le_refl _) z2;have HB5:=aA (HB4.out.trans (hb5.mono HB4.out.size));clear hb5)
  | go_in)
 go_ret
 exact ⟨rfl,HB5.out⟩
theorem aW1 {ops:Array Oper} {rest:List Oper} {o:Oper} {a:Act} {w:World} {Q:Exit→Act→World→Prop} (hgd:o.guard=none) (s x:Operand) (hop:o.op=.call {callee:=.builtin .append,args:=#[s,x],argTypes:=#[22,22]}) (aa:Option Addr) (c:Nat) (l:List Nd) (hs:a.eval s=.slice none 0 0) (hx:a.eval x=.slice aa l.length c) (hn:bQ w aa l) (hz:aa=none→c=0)
  (h:∀v w',w'.ownsRow w.heap.size 28 2 v l.length (aQ l)→w.grownBy w' none→wpList Tryz.prog ops Q rest (a.put o.dst v) w'):wpList Tryz.prog ops Q (o :: rest) a w:=by
 refine wpList_plain hgd fun K hK'=>?_
 obtain ⟨v,w',hr,h1,h2⟩:=aOr (ty:=o.type) hn hz
 unfold Oper.wp execOp
 simp only [hop,resolve,invoke,builtin,Sem.run_bind,Sem.run_pure,Result.andThen_ok,List.map_toArray,List.map_cons,List.map_nil,hs,hx,hr]
 exact hK' _ _ (h v w' h1 h2)
theorem aW2 {x y l:List Nd} {e:Int} (h:kP x y l false e):l=[]:=by
 rcases h with ⟨_,rfl,_⟩ | ⟨_,⟨_,rfl,_⟩ | ⟨_,_,_,_,_,⟨_,rfl,_⟩ | ⟨_,_,h,_⟩⟩⟩
 ·rfl
 ·rfl
 ·rfl
 ·cases h
theorem aW3 {x y l:List Nd} {e:Int} (h:kP x y l true e):e=0∧x.length≤60:=by
 rcases h with ⟨_,_,h,_⟩ | ⟨⟨h1,_⟩,⟨_,_,h,_⟩ | ⟨_,_,_,_,_,⟨_,_,h,_⟩ | ⟨_,_,_,h⟩⟩⟩
 ·cases h
 ·cases h
 ·cases h
 ·unfold dT at h1
  simp at h1
  exact ⟨h,h1.2⟩
theorem aW4 {x y l:List Nd} {e:Int} (h:kP x y l true e) (hl:l.length≤500):∀n∈l,aG n=true→0≤n.2∧n.2≤500:=by
 rcases h with ⟨_,_,h,_⟩ | ⟨_,⟨_,_,h,_⟩ | ⟨_,m,rp,_,_,⟨_,_,h,_⟩ | ⟨_,rfl,_⟩⟩⟩
 ·cases h
 ·cases h
 ·cases h
 ·obtain ⟨_,hlike⟩:=aG3 m
  have hs:=(oN m []).2
  have hm:=(oN m []).1
  simp at hs
  have hs5:(bW m []).2.length≤500:=by omega
  have key:∀{s:List Int} {m l:List Nd},s.length≤500→aK (fJ (iK s)) m l→∀n∈l,aG n=true→0≤n.2∧n.2≤500:=by
   intro s m l hs hl
   induction hl with
   | nil=>intro n hn;simp at hn
   | @cons a b _ _ h1 _ ih=>
    intro n hn hv
    rcases List.mem_cons.1 hn with rfl | hn
    ·rcases h1 with ⟨_,_,_,k,k1,k2⟩ | ⟨h2,rfl⟩
     ·have:=(List.getElem?_eq_some_iff.1 k1).1
      omega
     ·rw [h2] at hv;cases hv
    ·exact ih n hn hv
  exact key hs5 hlike
theorem aIs {w4 wr w5:World} {rv v':Value} {L:List Nd} {n:Nd} {X Y:Obj} (ho:wr.ownsRow w4.heap.size 28 2 rv L.length (aQ L)) (hb:Below w4.heap.size w4 wr) (ho':w5.ownsRow w4.heap.size 28 2 v' (L.length+1) (aQ L++[.string n.1,.int .i64 n.2])) (hg:((wr.alloc X).alloc Y).grownBy w5 rv.ownBlock):w5.ownsRow w4.heap.size 28 2 v' (L++[n]).length (aQ (L++[n]))∧Below w4.heap.size w4 w5:=by
 refine ⟨by rw [sG,List.length_append];exact ho',?_⟩
 have hA:Below wr.heap.size wr ((wr.alloc X).alloc Y):=((Below.refl _ wr).alloc (Nat.le_refl _) _).alloc (by simp) _
 have hz:=hb.size
 exact hb.trans ((hA.mono hz).trans (uS (fun k e=>(bU ho k e).1) (by simp;omega) hg))
theorem aW5 (l:List Nd) (k:Nat) (h:k < l.length):(l.take (k+1)).map gB=(l.take k).map gB++[gB l[k]]:=by
 rw [List.take_succ_eq_append_getElem h,List.map_append]
 rfl
set_option maxHeartbeats 8000000 in
theorem aW6 (ax ay:Option Addr) (cx cy:Nat) (x y:List Nd) (w:World) (hx:bQ w ax x) (zx:ax=none→cx=0) (hy:bQ w ay y) (hT:gW w) :
  Calls Tryz.prog 3 #[.slice ax x.length cx,.slice ay y.length cy] w fun e w'=>e=.returned (.bool true)∧Below w.heap.size w w':=by
 have CK:=aA (aW0 w hT)
 have CU:=aA (fun (wx:World) (hb:Below w.heap.size w wx)=>aC2 ax ay cx cy x y wx (hx.below hb (Nat.le_refl _)) (hy.below hb (Nat.le_refl _)) (hT.below hb (Nat.le_refl _)))
 have CV:=aA (fun (wx:World) (hb:Below w.heap.size w wx)=>aC2 ay ax cy cx y x wx (hy.below hb (Nat.le_refl _)) (hx.below hb (Nat.le_refl _)) (hT.below hb (Nat.le_refl _)))
 have CW:=aA (fun (wx:World) (aa ab:Option Addr) (ca cb:Nat) (z:List Nd) (hb:Below w.heap.size w wx) (hz:bQ wx aa z) (ho:bQ wx ab x)=>aC2 aa ab ca cb z x wx hz ho (hT.below hb (Nat.le_refl _)))
 have HX:=aA hx
 have HZX:=aA zx
 clear hx hy hT zx
 go_enter Tryz.func3,Tryz.ntmps3
 go_upto_region 4 with (first
  | (go_at_call 5;refine (aB CV w2 HB2.out).mono ?_;rintro e w3 ⟨v3,yes3,er3,rfl,hu3⟩;have HU3:=aA hu3;have HB3:=aA (HB2.out.trans (hu3.low.mono HB2.out.size));clear hu3)
  | (go_at_call 5;refine (aB CU w1 HB1.out).mono ?_;rintro e w2 ⟨v2,yes,er,rfl,hu2⟩;have HU2:=aA hu2;have HB2:=aA (HB1.out.trans (hu2.low.mono HB1.out.size));clear hu2)
  | (go_at_call 4;refine (aB CK).mono ?_;rintro e w1 ⟨rfl,hb1⟩;have HB1:=aA hb1;clear hb1)
  | go_in)
 obtain ⟨l,lo,ln,lf,ls⟩:=HU2.out.out
 obtain ⟨l',lo',ln',_,ls'⟩:=HU3.out.out
 obtain ⟨rfl,rfl,rfl⟩:=aRd lo lo'
 obtain ⟨la,lc,rfl,lN0⟩:=nX ln (by omega) (fun k hk=>ls _ (List.getElem_mem hk))
 obtain ⟨ma,mc,rfl,mN⟩:=nX ln' (by omega) (fun k hk=>ls _ (List.getElem_mem hk))
 have lN:=lN0.below HU3.out.low (Nat.le_refl _)
 have HLO:=aA lo
 have HLS:=aA ls
 have HLN:=aA lN
 have HMN:=aA mN
 have hz3:=HB3.out.size
 clear lo lo' ln ln' ls ls' lN0 lN mN HU2 HU3 CK CU CV
 go_wp2
 go_loopw [12] (fun iv wr=>∃k:Nat,k≤l.length∧iv=.int .i64 k∧Below w3.heap.size w3 wr) (fun iv _=>l.length - (intOf iv).toNat)
 case atStart=>exact ⟨0,Nat.zero_le _,rfl,Below.refl _ _⟩
 case round=>
  obtain ⟨k,hk,rfl,hb⟩:=hrel
  by_cases hlt:k < l.length
  ·obtain ⟨p1,o1,rfl,e1,f1⟩:=HLN.out.cell k hlt
   obtain ⟨p2,o2,rfl,e2,f2⟩:=HMN.out.cell k hlt
   have g1:=Below.at' hb (Nat.le_refl _) e1
   have g2:=Below.at' hb (Nat.le_refl _) f1
   have g3:=Below.at' hb (Nat.le_refl _) e2
   have g4:=Below.at' hb (Nat.le_refl _) f2
   have hbn:=qV l[k] l[k]
   rw [decide_eq_true rfl] at hbn
   have gd:=qU
   have q:=qW l[k].1 l[k].1 l[k].2 l[k].2
   have hki:(k:Int) < (l.length:Int):=by omega
   have HB:=aA hb
   clear e1 f1 e2 f2 hb
   go_wp2
   go_quiet (fail)
   go_wp2
   go_roundw
   case rel=>exact ⟨k+1,by omega,by go_num,HB.out.trans ((aN ⟨_,rfl⟩).mono HB.out.size)⟩
   case measure=>simp [intOf];omega
  ·obtain rfl:k=l.length:=by omega
   have HBW:=aA (HB3.out.trans (hb.mono hz3))
   have HB4:=aA hb
   have hz4:=hb.size
   clear hb hlt hk
   cases yes with
   | false=>
    obtain rfl:=aW2 HLO.out
    clear HLO HLS HLN HMN CW
    go_wp2
    ·go_ret
     exact ⟨rfl,HBW.out⟩
    ·go_ret
     exact ⟨rfl,HBW.out⟩
   | true=>
    obtain ⟨rfl,hx60⟩:=aW3 HLO.out
    by_cases h60:60 < l.length
    ·have h60i:(60:Int) < (l.length:Int):=by omega
     clear HLO HLS HLN HMN CW
     go_wp2
     go_ret
     exact ⟨rfl,HBW.out⟩
    ·have h60i:decide ((60:Int) < (l.length:Int))=false:=by rw [decide_eq_false_iff_not];omega
     obtain ⟨w4,rfl⟩ : ∃w4,w4=wr:=⟨_,rfl⟩
     obtain ⟨iN,hN,hN0,hN1,hN2⟩:=info_parts nY
     have HLN4:=aA (HLN.out.below HB4.out (Nat.le_refl _))
     have HNUM:=aA (aW4 HLO.out lf)
     have hl60:l.length≤60:=by omega
     clear HMN HLN h60
     go_wp2
     go_loopw [13,15] (fun rv iv wr=>∃k:Nat,k≤l.length∧iv=.int .i64 k∧wr.ownsRow w4.heap.size 28 2 rv ((l.take k).map gB).length (aQ ((l.take k).map gB))∧Below w4.heap.size w4 wr) (fun _ iv _=>l.length - (intOf iv).toNat)
     case atStart=>exact ⟨0,Nat.zero_le _,rfl,World.ownsRow_nil _ _ _ _,Below.refl _ _⟩
     case round=>
      obtain ⟨k,hk,rfl,ho,hb⟩:=hrel
      by_cases hlt:k < l.length
      ·obtain ⟨p1,o1,rfl,e1,f1⟩:=HLN4.out.cell k hlt
       have g1:=Below.at' hb (Nat.le_refl _) e1
       have g2:=Below.at' hb (Nat.le_refl _) f1
       have hnum:=HNUM.out l[k] (List.getElem_mem hlt)
       have hap:=aW5 l k hlt
       have hki:(k:Int) < (l.length:Int):=by omega
       have hzr:=hb.size
       have hLl:((l.take k).map gB).length≤60:=by rw [List.length_map,List.length_take];omega
       generalize (l.take k).map gB=L at *
       generalize l[k]=nd at *
       obtain ⟨s,x0⟩:=nd
       simp only at g1 g2 hnum
       have HAP:=aA hap
       have HO:=aA ho
       have HB5:=aA hb
       obtain ⟨ra,rcap,rfl⟩:=aR ho
       clear e1 f1 hap ho hb
       by_cases hv:s.toList.isEmpty=true
       ·have hx0:=hnum hv
        have HNX:Hid (((l.take (k+1)).map gB)=L++[(s,59 - x0)]):=aA (by rw [HAP.out];unfold gB;rw [if_pos (show aG (s,x0)=true from hv)])
        go_wp2_with (first
         | (at_builtin;refine wpList_append_own _ rfl (.tmp 107) (.tmp 109) 22 rfl w4.heap.size 28 iN (.agg #[.string ⟨#[]⟩,.int .i64 0]) 2 24 Tryz.underlying22 hN hN0 hN1 hN2 rfl (by decide) _ _ _ rfl ((HO.out.alloc _).alloc _) ⟨wr.heap.size+1,0,none⟩ 1 1 [.string s,.int .i64 (59 - x0)] rfl rfl ?f1 ?f2 ?f3 ?f4 ?f5 ?_)
         | go_in)
        case f1=>exact iB _ _ _ _ _ (by simp)
        case f2=>exact tN _ _
        case f3=>unfold maxLen;omega
        case f4=>omega
        case f5=>simp;omega
        intro v5 w5 ho5 hg5 _
        have HR:=aA (aIs (n:=(s,59 - x0)) HO.out HB5.out ho5 hg5)
        clear ho5 hg5
        go_wp2
        go_roundw
        case rel=>exact ⟨k+1,by omega,by go_num,by rw [HNX.out];exact HR.out.1,HR.out.2⟩
        case measure=>simp [intOf];omega
       ·have hv':s.toList.isEmpty=false:=by simpa using hv
        have HNX:Hid (((l.take (k+1)).map gB)=L++[(s,x0)]):=aA (by rw [HAP.out];unfold gB;rw [if_neg (show ¬aG (s,x0)=true from hv)])
        clear hv
        go_wp2_with (first
         | (at_builtin;refine wpList_append_own _ rfl (.tmp 107) (.tmp 109) 22 rfl w4.heap.size 28 iN (.agg #[.string ⟨#[]⟩,.int .i64 0]) 2 24 Tryz.underlying22 hN hN0 hN1 hN2 rfl (by decide) _ _ _ rfl ((HO.out.alloc _).alloc _) ⟨wr.heap.size+1,0,none⟩ 1 1 [.string s,.int .i64 x0] rfl rfl ?f1 ?f2 ?f3 ?f4 ?f5 ?_)
         | go_in)
        case f1=>exact iB _ _ _ _ _ (by simp)
        case f2=>exact tN _ _
        case f3=>unfold maxLen;omega
        case f4=>omega
        case f5=>simp;omega
        intro v5 w5 ho5 hg5 _
        have HR:=aA (aIs (n:=(s,x0)) HO.out HB5.out ho5 hg5)
        clear ho5 hg5
        go_wp2
        go_roundw
        case rel=>exact ⟨k+1,by omega,by go_num,by rw [HNX.out];exact HR.out.1,HR.out.2⟩
        case measure=>simp [intOf];omega
      ·obtain rfl:k=l.length:=by omega
       rw [List.take_length] at ho
       have HZO:=aA ho
       have HB5:=aA (HBW.out.trans (hb.mono HBW.out.size))
       have HB6:=aA hb
       have hzl:(l.map gB).length≤60:=by simpa using hl60
       have HZS:Hid (∀n∈l.map gB,n.1.size≤140737488355328):=aA fun n hn=>by
        obtain ⟨m,hm,rfl⟩:=List.mem_map.1 hn
        unfold gB
        split <;> exact HLS.out m hm
       clear ho hb hlt hk HNUM
       go_wp2_with (first
        | (at_builtin;refine aW1 rfl _ _ rfl ax cx x rfl rfl (HX.out.below HB5.out (Nat.le_refl _)) HZX.out ?_;intro vo w6 ho6 hg6;have HO6:=aA ho6;have HG6:=aA hg6;clear ho6 hg6)
        | go_in)
       have hb56:Below wr.heap.size wr w6:=⟨HG6.out.os,HG6.out.tape,HG6.out.output,HG6.out.size,fun k hk=>HG6.out.block k hk (by simp)⟩
       obtain ⟨za,zc,rfl,zN⟩:=nX (aY HZO.out hb56 (Nat.le_refl _)) (by omega) (fun k hk=>HZS.out _ (List.getElem_mem hk))
       obtain ⟨oa,oc,rfl,xN⟩:=nX HO6.out (by omega) (fun k hk=>HX.out.short k hk)
       have HZN:=aA zN
       have HXN:=aA xN
       have hbw6:Below w.heap.size w w6:=HB5.out.trans (hb56.mono HB5.out.size)
       have HBW6:=aA hbw6
       have HLN6:=aA ((HLN4.out.below HB6.out (Nat.le_refl _)).below hb56 (Nat.le_refl _))
       have hxi:(x.length:Int)≤60:=by omega
       have hzi:((l.map gB).length:Int)≤60:=by omega
       obtain ⟨z,hz⟩ : ∃z,l.map gB=z:=⟨_,rfl⟩
       rw [hz] at HZN hzl hzi
       rw [hz]
       have HZE:=aA hz
       clear zN xN hb56 hbw6 HZO HO6 HG6 HB5 HB6 HZS hz HLN4 HLS HB4 HX HZX HBW HB3 HB2 HB1
       go_wp2
       go_loopw [17] (fun iv wr=>∃k:Nat,k≤x.length∧iv=.int .i64 k∧wr=w6∧∀n∈x.take k,aG n=true→n.2 < 20) (fun iv _=>x.length - (intOf iv).toNat)
       case atStart=>exact ⟨0,Nat.zero_le _,rfl,rfl,fun n hn=>by simp at hn⟩
       case round=>
        obtain ⟨k,hk,rfl,hw6,hsm⟩:=hrel
        rw [hw6]
        clear hw6 wr
        by_cases hlt:k < x.length
        ·obtain ⟨p1,o1,rfl,e1,f1⟩:=HXN.out.cell k hlt
         have hki:(k:Int) < (x.length:Int):=by omega
         have hst:x.take (k+1)=x.take k++[x[k]]:=List.take_succ_eq_append_getElem hlt
         have HST:=aA hst
         have HSM:=aA hsm
         generalize x[k]=nd at *
         obtain ⟨s,n0⟩:=nd
         simp only at e1 f1
         clear hsm hst
         by_cases hv:s.toList.isEmpty=true
         ·by_cases h20:20≤n0
          ·go_wp2
           go_ret
           exact ⟨rfl,HBW6.out⟩
          ·have h20':decide ((20:Int)≤n0)=false:=by rw [decide_eq_false_iff_not];exact h20
           go_wp2
           go_roundw
           case rel=>
            refine ⟨k+1,by omega,by go_num,(by trivial),fun n hn hvn=>?_⟩
            rw [HST.out] at hn
            rcases List.mem_append.1 hn with hn | hn
            ·exact HSM.out n hn hvn
            ·simp at hn
             subst hn
             show n0 < 20
             omega
           case measure=>simp [intOf];omega
         ·have hv':s.toList.isEmpty=false:=by simpa using hv
          have HV:=aA hv
          clear hv
          go_wp2
          go_roundw
          case rel=>
           refine ⟨k+1,by omega,by go_num,(by trivial),fun n hn hvn=>?_⟩
           rw [HST.out] at hn
           rcases List.mem_append.1 hn with hn | hn
           ·exact HSM.out n hn hvn
           ·simp at hn
            subst hn
            exact absurd hvn HV.out
          case measure=>simp [intOf];omega
        ·obtain rfl:k=x.length:=by omega
         rw [List.take_length] at hsm
         have HX20:=aA hsm
         clear hsm hlt hk
         go_wp2
         go_loopw [18] (fun iv wx=>∃k:Nat,k≤z.length∧iv=.int .i64 k∧wx=w6∧∀n∈z.take k,aG n=true→20≤n.2) (fun iv _=>z.length - (intOf iv).toNat)
         case atStart=>exact ⟨0,Nat.zero_le _,rfl,rfl,fun n hn=>by simp at hn⟩
         case round=>
          obtain ⟨k,hk,rfl,hw6,hsm⟩:=hrel
          rw [hw6]
          clear hw6 wr
          by_cases hlt:k < z.length
          ·obtain ⟨p1,o1,rfl,e1,f1⟩:=HZN.out.cell k hlt
           have hki:(k:Int) < (z.length:Int):=by omega
           have hst:z.take (k+1)=z.take k++[z[k]]:=List.take_succ_eq_append_getElem hlt
           have HST:=aA hst
           have HSM:=aA hsm
           generalize z[k]=nd at *
           obtain ⟨s,n0⟩:=nd
           simp only at e1 f1
           clear hsm hst
           by_cases hv:s.toList.isEmpty=true
           ·by_cases h20:n0 < 20
            ·go_wp2
             go_ret
             exact ⟨rfl,HBW6.out⟩
            ·have h20':decide (n0 < (20:Int))=false:=by rw [decide_eq_false_iff_not];exact h20
             go_wp2
             go_roundw
             case rel=>
              refine ⟨k+1,by omega,by go_num,(by trivial),fun n hn hvn=>?_⟩
              rw [HST.out] at hn
              rcases List.mem_append.1 hn with hn | hn
              ·exact HSM.out n hn hvn
              ·simp at hn
               subst hn
               show 20≤n0
               omega
             case measure=>simp [intOf];omega
           ·have hv':s.toList.isEmpty=false:=by simpa using hv
            have HV:=aA hv
            clear hv
            go_wp2
            go_roundw
            case rel=>
             refine ⟨k+1,by omega,by go_num,(by trivial),fun n hn hvn=>?_⟩
             rw [HST.out] at hn
             rcases List.mem_append.1 hn with hn | hn
             ·exact HSM.out n hn hvn
             ·simp at hn
              subst hn
              exact absurd hvn HV.out
            case measure=>simp [intOf];omega
          ·obtain rfl:k=z.length:=by omega
           rw [List.take_length] at hsm
           have HZ20:=aA hsm
           clear hsm hlt hk
           have CW2:=aA (aB CW w6 za oa zc oc z HBW6.out HZN.out HXN.out)
           go_upto_region 34 with (first
            | (go_at_call 5;refine (aB CW2).mono ?_;rintro e w7 ⟨v7,yes7,er7,rfl,hu7⟩;have HU7:=aA hu7;clear hu7)
            | go_in)
           obtain ⟨o,oo,on,of,os⟩:=HU7.out.out
           have hze:=HZE.out
           subst hze
           obtain ⟨rfl,rfl,rfl⟩:=aR9 HLO.out hl60 HX20.out HZ20.out oo
           obtain ⟨va,vc,rfl,vN⟩:=nX on (by omega) (fun k hk=>os _ (List.getElem_mem hk))
           have HVN:=aA vN
           have HLN7:=aA (HLN6.out.below HU7.out.low (Nat.le_refl _))
           have HBW7:=aA (HBW6.out.trans (HU7.out.low.mono HBW6.out.size))
           clear oo on os vN HU7 HLN6 HZ20 HX20 HZN HXN CW2 HLO HZE CW
           go_wp2
           go_loopw [22] (fun iv wr=>∃k:Nat,k≤o.length∧iv=.int .i64 k∧Below w7.heap.size w7 wr) (fun iv _=>o.length - (intOf iv).toNat)
           case atStart=>exact ⟨0,Nat.zero_le _,rfl,Below.refl _ _⟩
           case round=>
            obtain ⟨k,hk,rfl,hb⟩:=hrel
            by_cases hlt:k < o.length
            ·obtain ⟨p1,o1,rfl,e1,f1⟩:=HLN7.out.cell k hlt
             obtain ⟨p2,o2,rfl,e2,f2⟩:=HVN.out.cell k hlt
             have g1:=Below.at' hb (Nat.le_refl _) e1
             have g2:=Below.at' hb (Nat.le_refl _) f1
             have g3:=Below.at' hb (Nat.le_refl _) e2
             have g4:=Below.at' hb (Nat.le_refl _) f2
             have hbn:=qV o[k] o[k]
             rw [decide_eq_true rfl] at hbn
             have gd:=qU
             have q:=qW o[k].1 o[k].1 o[k].2 o[k].2
             have hki:(k:Int) < (o.length:Int):=by omega
             have HB:=aA hb
             clear e1 f1 e2 f2 hb
             go_wp2
             go_quiet (fail)
             go_wp2
             go_roundw
             case rel=>exact ⟨k+1,by omega,by go_num,HB.out.trans ((aN ⟨_,rfl⟩).mono HB.out.size)⟩
             case measure=>simp [intOf];omega
            ·obtain rfl:k=o.length:=by omega
             have HBF:=aA (HBW7.out.trans (hb.mono HBW7.out.size))
             clear hb hlt hk
             go_wp2
             go_ret
             exact ⟨rfl,HBF.out⟩
end Go.Proofs.YthicbnejchpmgaaGreatDoor
namespace Go.Proofs.YthicbnejchpmgaaGreatDoor
open Go.ChangeShapes Go.WideShapes Go.ChangeAt Go.RowKit Go.Lib Go.Shelf
set_option maxRecDepth 100000
theorem own:ownKnob Tryz.prog.godebug=none:=by kernel_rfl
theorem aIt:laidOutB Tryz.prog=true:=by kernel_rfl
theorem aW7 {W:World} (h:laidMetH Tryz.prog Rows.madeRow.laid W):gW W:=by
 have hL:laidMet Tryz.prog Rows.madeRow.laid W:=h
 refine utf8Tabs_of_readsT (U8Types.of196 aF3) ⟨by kernel_rfl,by kernel_rfl,by kernel_rfl,by kernel_rfl,by kernel_rfl,by kernel_rfl,by kernel_rfl⟩ ?_ ?_
 ·rw [←Pinned.utf8First_eq];exact Lib.laidMet.reads hL (by simp [Rows.madeRow,Rows.laid_unicode_utf8_first])
 ·have e:(Rows.laid_unicode_utf8_acceptRanges:DataW Unit)=acceptData:=by kernel_rfl
  rw [←e];exact Lib.laidMet.reads hL (by simp [Rows.madeRow])
theorem contract (H:Type) (enc:TypeId×Value→H) (W:World) (base:Nat) (args:Array Value) (ds gs:List (DataW H)) (before:List MemPlace)
  (hval:∀(j:Nat) t v,Tryz.f3.params[j]?=some t→args[j]?=some v→Value.okWide Tryz.prog W .any base t v)
  (hW:DataW.Whole enc Tryz.prog Tryz.f3.params.toList Rows.madeSpec.vars false W args.toList ds gs before)
  (hz:(DataW.weightsEach Tryz.prog (Tryz.f3.params.toList++Rows.madeSpec.plain.varTypes Tryz.prog) (ds++gs)).all (·≤reachBytes)=true)
  (hL:laidMetH Tryz.prog Rows.madeRow.laid W) :
  Calls Tryz.prog 3 args W fun e W'=>∃v,e=.returned v∧Rows.madeSpec.post enc Tryz.prog Tryz.f3 false true false false W args v W':=by
 have hW':=hW
 obtain ⟨p,q,hA0,hV,rfl,_,_⟩:=hW
 have hA:DataW.TrodAll enc Tryz.prog W 0 (fun _=>true) true Tryz.f3.params.toList args.toList ds p:=hA0
 have hz':=hz
 rw [Tryz.params3] at hA hval hz'
 obtain ⟨v0,v1,d0,d1,p0,p1,rfl,rfl,rfl,h0,h1⟩:=trodAll_two hA
 obtain ⟨rfl,rfl⟩:=trodVars_none hV
 obtain ⟨a0,len0,cap0,rfl⟩:=okWide_slice Tryz.underlying22 (hval 0 22 v0 rfl rfl)
 obtain ⟨a1,len1,cap1,rfl⟩:=okWide_slice Tryz.underlying22 (hval 1 22 v1 rfl rfl)
 have h0k:=h0
 have h1k:=h1
 obtain ⟨fuel0,hf0⟩:=h0
 obtain ⟨fuel1,hf1⟩:=h1
 clear hA0
 simp only [List.append_nil] at hW'
 have hlt:∀x∈p0++p1,x.block < W.heap.size:=fun x hx=>by simpa using hW'.lt x hx
 have hargs0:∀(W':World),Below W.heap.size W W'→DataW.Trod enc Tryz.prog W' 0 (fun b=>decide (b < W.heap.size)) true 22 (.slice a0 len0 cap0) d0 p0:=
  fun W' hn=>Below.trod aIt (by kernel_rfl) (of_decide_eq_true (by kernel_rfl)) h0k hn (fun x hx=>hlt x (List.mem_append_left _ hx))
 have hargs1:∀(W':World),Below W.heap.size W W'→DataW.Trod enc Tryz.prog W' 0 (fun b=>decide (b < W.heap.size)) true 22 (.slice a1 len1 cap1) d1 p1:=
  fun W' hn=>Below.trod aIt (by kernel_rfl) (of_decide_eq_true (by kernel_rfl)) h1k hn (fun x hx=>hlt x (List.mem_append_right _ hx))
 obtain ⟨b0,c0,cp0,hcs0,hl0,hn0⟩:=aEq hf0 (fun n hn=>by
  have:=List.all_eq_true.1 hz' n (DataW.weights_mem_each (j:=0) (t:=22) (d:=d0) rfl rfl n hn)
  simpa using this)
 obtain ⟨b1,c1,cp1,hcs1,hl1,hn1⟩:=aEq hf1 (fun n hn=>by
  have:=List.all_eq_true.1 hz' n (DataW.weights_mem_each (j:=1) (t:=22) (d:=d1) rfl rfl n hn)
  simpa using this)
 obtain ⟨rfl,rfl,rfl⟩ : a0=b0∧len0=c0.length∧cap0=cp0:=by simpa [Value.cells] using hcs0
 obtain ⟨rfl,rfl,rfl⟩ : a1=b1∧len1=c1.length∧cap1=cp1:=by simpa [Value.cells] using hcs1
 refine (aW6 a0 a1 cap0 cap1 c0 c1 W hl0 hn0 hl1 (aW7 hL)).mono fun e W' ⟨he,hB⟩=>?_
 subst he
 have e1:Rows.madeSpec.fn H ([d0,d1]++[]) = {results:=[.lit (.bool true)],args:=[d0,d1]}:=rfl
 refine ⟨_,rfl,_,_,_,[],p0++p1,[],hW',?_,?_,by rw [e1];rfl,hB.frame _,fun h=>by cases h⟩
 ·rw [e1];exact trodAll_mk1 (shut_bool Tryz.underlying4 _)
 ·rw [e1];exact trodAll_mk2 (hargs0 _ hB) (hargs1 _ hB)
noncomputable def yL (os:Os):World:=
 let w0:=World.holding Tryz.prog os ⟨#[],#[],[]⟩
 let put (h:Array Obj) (g:Nat) (cs:Array Value):Array Obj:=h.modify g fun
  | .cells _ t frozen=>.cells cs t frozen
  | o=>o
 let h1:=put w0.heap 0 (Lib.firstTab.map fun z=>Value.int .u8 z).toArray
 let h2:=put h1 1 ((List.range 16).flatMap fun i=>[Value.int .u8 (Lib.accLo i),Value.int .u8 (Lib.accHi i)]).toArray
 {w0 with heap:=h2}
theorem aW8 (os:Os) (args:Array Value):laidMet Tryz.prog Rows.madeRow.laid ((yL os).forCall (fun _ _=>0) ⟨#[],args,[]⟩).memory:=
 (LaidIn.of_run (l := [("unicode/utf8.acceptRanges", Rows.laid_unicode_utf8_acceptRanges), ("unicode/utf8.first", Rows.laid_unicode_utf8_first)]) [1, 0] 8 (by kernel_rfl) (by kernel_rfl) (by kernel_rfl) (by kernel_rfl)).met
theorem aW9 (os:Os) {H:Type} (enc:TypeId×Value→H) :
  (OpenSpec.ofChange Rows.madeSpec).preRow enc Tryz.prog Tryz.f3 Rows.madeRow.domain false Rows.madeRow.laid ((yL os).forCall (fun _ _=>0) ⟨#[],#[.slice none 0 0,.slice none 0 0],[]⟩).memory #[.slice none 0 0,.slice none 0 0]:=by
 have hw:(DataW.whole enc Tryz.prog ((yL os).forCall (fun _ _=>0) ⟨#[],#[.slice none 0 0,.slice none 0 0],[]⟩).memory Tryz.f3.params.toList Rows.madeSpec.vars false #[Value.slice none 0 0,Value.slice none 0 0].toList 8).map (fun x=>(x.1,x.2.1))=some ([.nil,.nil],[]):=by kernel_rfl
 obtain ⟨⟨x1,x2,x3⟩,hx,hx1⟩:=Option.map_eq_some_iff.1 hw
 simp only [Prod.mk.injEq] at hx1
 obtain ⟨rfl,rfl⟩:=hx1
 exact OpenSpec.preRow_of_cond 8 hx (by kernel_rfl) (fun k hk=>by cases hk) (by kernel_rfl) (aW8 os _)
theorem lifted (os:Os) (started:os.Started) (H:Type) (enc:TypeId×Value→H) (F:Stop.Interp) :
  ReturnsInHanded {} Tryz.checked os 3 .any ((OpenSpec.ofChange Rows.madeSpec).preRow enc Tryz.prog Tryz.f3 Rows.madeRow.domain false Rows.madeRow.laid) (((OpenSpec.ofChange Rows.madeSpec).at F).post enc Tryz.prog Tryz.f3 false true false false):=by
 refine returnsInHanded_of_row (C:=Tryz.checked) (s:=OpenSpec.ofChange Rows.madeSpec) own started (by kernel_rfl) Tryz.func3
  (witness_row_atRef (enc:=enc) (C:=Tryz.checked) false (yL os) #[.slice none 0 0,.slice none 0 0] rfl (by kernel_rfl) (by kernel_rfl) (by kernel_rfl) (aW9 os enc)) ?_
 intro W base args ds gs before hval hW _ _ hz hL _ _
 exact contract H enc W base args ds gs before hval hW hz hL
theorem said:Rows.MadeSaid:=
 OpenClaim.holds_of_cond 3 Tryz.f3 rfl rfl rfl rfl rfl rfl rfl ⟨rfl,rfl,rfl,rfl,rfl⟩ rfl rfl rfl rfl rfl (by kernel_rfl) Tryz.func3 (by kernel_rfl)
  (of_decide_eq_true (by kernel_rfl)) (by unfold Func.isWrapper;first | (rw [if_pos (by decide +kernel)];kernel_rfl) | (rw [if_neg (by decide +kernel)];exact ⟨rfl,rfl⟩))
  (fun os started H enc _ F=>by rw [OpenClaim.pre_eq_preRow];exact lifted os started H enc F)
theorem plain (f : FuncId) (fn : Func) (hf : Tryz.pinned.checked.prog.funcNamed "moot/mootkeep.Made" = some f) (hfn : Tryz.pinned.checked.prog.funcs[f]? = some fn) :
  false=Tryz.pinned.checked.prog.looks []∧∀(j:Nat) t,fn.params[j]?=some t→Tryz.pinned.checked.prog.wantsStandIn t=false:=by
 obtain rfl : f = 3 := Option.some.inj ((show Tryz.prog.funcNamed "moot/mootkeep.Made" = some 3 by kernel_rfl).symm.trans hf) |>.symm
 obtain rfl:fn=Tryz.f3:=(Option.some.inj (Tryz.func3.symm.trans hfn)).symm
 refine ⟨by kernel_rfl,fun j t ht=>?_⟩
 rw [Tryz.params3] at ht
 obtain rfl:t=22:=by simpa using Array.mem_of_getElem? ht
 exact (show Tryz.prog.wantsStandIn 22=false by kernel_rfl)
theorem made_card:Rows.MadeCardSaid:=
 Claim7.holds_tied_plain_at .later [] _ _ _ _ said (fun _ h=>by cases h) (by kernel_rfl) (fun _ h=>by cases h) made_row_tie rfl ⟨rfl,rfl⟩ (by kernel_rfl) rfl plain (by kernel_rfl)
#print axioms made_card
end Go.Proofs.YthicbnejchpmgaaGreatDoor
