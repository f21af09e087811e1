/- The program: how great what a place was made is. -/
import Derived.Test.YtbddofieljiihaaGreatDoorUJnLI
namespace Go.Proofs.YtbddofieljiihaaGreatDoor
open Go.RowKit Go.Shelf Go.WideMaps
set_option maxRecDepth 100000
attribute [local go_sem] Oper.semAt_some
theorem aSr {x:Int} (h0:0≤x) (h1:x≤1000000):wrap64 x=x:=by
 unfold wrap64
 omega
theorem aSs (a b:Nat):min (wrap64 (((min 501 (1+a):Nat):Int)+((min 501 b:Nat):Int))) 501=((min 501 (1+(a+([b]:List Nat).sum)):Nat):Int):=by
 have h1:min 501 (1+a)≤501:=Nat.min_le_left _ _
 have h2:min 501 b≤501:=Nat.min_le_left _ _
 have h3:([b]:List Nat).sum=b:=by simp
 rw [aSr (by omega) (by omega),h3]
 rcases Nat.le_total 501 (1+a) with ha | ha <;> rcases Nat.le_total 501 b with hb | hb <;> rcases Nat.le_total 501 (1+(a+b)) with hc | hc <;> simp only [Nat.min_eq_left,Nat.min_eq_right,ha,hb,hc] <;> omega
theorem aSt {w W:World} {B tb gs cs:Nat} {vn ve vl vm:Value} {L:List Nd} {F:List Nat} {S0:List Int} {rt:Nat→Nat} {cb N0:Nat} {pre:List Nat} {u:Value} (h:uN w B tb gs cs vn ve vl vm L F S0 rt cb N0 pre W) (hcb:W.cell? ⟨cb,0,none⟩=some u) {W':World} (hg:W.grownBy W' (some gs)) (hgs:gs < w.heap.size) {ks:List Nat} (hk:∀k∈ks,k < W.heap.size∧k≠gs) (hc:∃o:Obj,W.heap[gs]?=some o∧o.isCells=true) (B0:Nat) (hb:w.heap.size≤cb:=by omega) :
  W'.cell? ⟨w.heap.size+1,0,none⟩=some (.int .i64 0)∧W'.cell? ⟨w.heap.size+1+1,0,none⟩=some (.bool false)∧W'.frozen? ⟨w.heap.size+1,0,none⟩=false∧W'.frozen? ⟨w.heap.size+1+1,0,none⟩=false∧W'.cell? ⟨cb,0,none⟩=some u∧W'.frozen? ⟨cb,0,none⟩=false∧gE ks W W'∧KeepsFrom B0 W W'∧w.grownBy W' (some gs):=by
 have fz:∀{p:Addr} {v:Value},W.cell? p=some v→p.block≠gs→W'.frozen? p=W.frozen? p:=fun hc hn=>World.frozen?_of_block (hg.block _ (World.block_lt_of_cell? W _ hc) (fun e=>hn (by simpa using e)))
 exact ⟨hg.cell h.x1 (by simp;omega),hg.cell h.x2 (by simp;omega),(fz h.x1 (by simp;omega)).trans h.f1,(fz h.x2 (by simp;omega)).trans h.f2,hg.cell hcb (by simp;omega),(fz hcb (by simp;omega)).trans h.cf,aB8 hg hk,uL B0 hg hc,h.far.trans hg⟩
theorem aSu {L:List Nd} {rt:Nat→Nat} {r:Nat} {nd:Nd} {C:List Nat} {ls:List (List Nd)} (hnd:L[r]?=some nd) (hC:(aE L).ch r=C) (hls:aL (fun x l=>aO (aE L) (fun i j=>rt i=rt j) rt [x] l) C ls) (hen:∀x∈C,bS (aE L) (fun i j=>rt i=rt j) x) (hN:iJ L rt) (hD:iE (aE L) fun i j=>rt i=rt j) (hNC:jS (aE L) fun i j=>rt i=rt j) (hr:rt r=r) :
  bS (aE L) (fun i j=>rt i=rt j) r∧∃l,aO (aE L) (fun i j=>rt i=rt j) rt [r] l∧l.length=1+(ls.map List.length).sum:=by
 have hnr:∀j,rt r=rt j→(aE L).named j→(aE L).named r:=by
  intro j e hj
  have:=hN j hj
  rwa [←e,hr] at this
 refine ⟨aS1 hD hNC (sD L) (hD.refl r) (by rw [hC];exact hen) hnr,?_⟩
 cases hv:aH nd with
 | false=>
  have hnm:(aE L).named r:=by rw [fV hnd];exact hv
  refine ⟨_,aO.name (hD.refl r) hnm (by rw [List.append_nil,hC];exact aS2 hls),?_⟩
  simp [List.length_flatten]
  omega
 | true=>
  have hnm:¬(aE L).named r:=by rw [fV hnd,hv];simp
  refine ⟨_,aO.var (fun j e hj=>hnm (hnr j e hj)) aO.nil,?_⟩
  have hC0:C=[]:=by rw [←hC,kE hnd,lG hv];rfl
  subst hC0
  cases hls
  simp
theorem aSv {L:List Nd} {rt:Nat→Nat} {S:List Int} (h:oW L rt S) {r:Nat} {n:Int} (hn:bS (aE L) (fun i j=>rt i=rt j) r∧∃l,aO (aE L) (fun i j=>rt i=rt j) rt [r] l∧n=(min 501 l.length:Nat)):oW L rt (S.set r n):=by
 intro p x hp
 rw [List.getElem?_set] at hp
 split at hp
 ·rename_i e
  subst e
  split at hp
  ·simp at hp;subst hp;exact Or.inr (Or.inr hn)
  ·cases hp
 ·exact h p x hp
theorem aSw {S S':List Int} {r:Nat} {n:Int} (hn:n≠-1) (h0:S[r]?=some 0) (h:∀p:Nat,S'[p]?=some (-1)↔(S.set r (-1))[p]?=some (-1)):∀p:Nat,(S'.set r n)[p]?=some (-1)↔S[p]?=some (-1):=by
 intro p
 by_cases e:p=r
 ·subst e
  rw [h0]
  constructor
  ·intro hp
   rw [List.getElem?_set] at hp
   simp at hp
   exact absurd hp.2 hn
  ·intro hp;simp at hp
 ·rw [List.getElem?_set_ne (fun x=>e x.symm),h p,List.getElem?_set_ne (fun x=>e x.symm)]
set_option maxHeartbeats 2000000 in
theorem aGg (B tb:Nat) (vn ve vl vs vm:Value) (L:List Nd) (F:List Nat) (rt d:Nat→Nat) (hL:eA L) (hF:eZ F rt d) (hN:iJ L rt) (hC:dE (aE L) (fun i j=>rt i=rt j) fun _ _=>False):∀(m:Nat) (S:List Int) (a:Nat) (w:World),jC S < m→bA w B tb vn ve vl vs vm L F S→oW L rt S→(∀r:Nat,S[r]?=some (-1)→eK (aE L) (fun i j=>rt i=rt j) r a)→a < L.length→
  Calls Tryz.prog 133 #[.pointer (some ⟨tb,0,none⟩),.int .i64 a] w fun e w'=>∃n b S',e=.returned (.tuple #[.int .i64 n,.bool b])∧aS5 w B tb vn ve vl vs vm L F S rt a n b w' S':=by
 obtain ⟨hD,hNC⟩:=aG2 hC (oR rt)
 intro m
 induction m with
 | zero=>intro S a w hm;omega
 | succ m ih=>
  intro S a w hm h hS hR ha
  have HT:=aA h
  have HF:=aA hF
  have HN:=aA hN
  have HM:=aA hm
  have HS:=aA hS
  have HR:=aA hR
  have HD:=aA hD
  have HNC:=aA hNC
  have IH:=aA ih
  obtain ⟨w1,hw1,hb1,x0,x1,x2,f1,f2,hs1⟩:=aG3 w (.pointer (some ⟨tb,0,none⟩)) (.int .i64 0) (.bool false) 162 3 4
  have CA:=aA (aA8 B tb vn ve vl vs vm L F S rt d a w1 (h.below hb1) hF ha)
  have HB1:=aA hb1
  have hra:rt a < L.length:=by rw [←h.lf];exact hF.rt_lt (by rw [h.lf];exact ha)
  have hrr:=hF.rt_rt a
  obtain ⟨gs,cs,n0,rfl,hn0,c1,cf1⟩:=(h.below hb1).size hra
  have cs1:=(h.below hb1).c3
  have hfew:=h.few
  clear h hF hN hm hS hR hD hNC ih hC
  refine (callsIn_wide (n:=3)).1 ?_
  refine callsIn_of_wp_marks Tryz.func133 rfl trivial ?_
  simp only [Tryz.ntmps133,List.size_toArray,List.length_cons,List.length_nil,Nat.reduceAdd,Nat.reduceSub,Array.replicate_succ,Array.replicate_zero,List.push_toArray,List.append_toArray,List.nil_append,List.cons_append]
  refine wpIn_wide.2 ?_
  obtain ⟨r,hr⟩ : ∃r,r=rt a:=⟨_,rfl⟩
  rw [←hr] at hra hrr hn0 c1 cf1 CA
  have HRT:=aA hr
  have HRR:=aA hrr
  have HN0:=aA hn0
  have hri:(r:Int) < (L.length:Int):=by omega
  clear hr hrr hn0
  by_cases hq1:n0=-1
  ·subst hq1
   have HNE:Hid (¬bS (aE L) (fun i j=>rt i=rt j) a):=aA (fun he=>he.irrefl HD.out ((HR.out r HN0.out).left HD.out (by show rt a=rt r;rw [HRR.out,HRT.out])))
   subst hw1
   go_wp2_with (first
    | (go_at_call 144;refine (aB CA).mono ?_;rintro e w' ⟨rfl,rfl⟩)
    | go_in)
   refine rG (v:=.tuple #[.int .i64 0,.bool false]) rfl (by simp [results,Tryz.results133,go_sem,x1,x2]) ?_
   exact ⟨0,false,S,rfl,⟨HT.out.below HB1.out,fF HB1.out,Nat.le_refl _,fun e=>(by cases e),fun _=>⟨rfl,HNE.out⟩⟩⟩
  ·by_cases hq0:n0=0
   ·subst hq0
    have HZ:=aA (aS3 S r (-1) HN0.out (by decide))
    have HT1:=aA (HT.out.below HB1.out)
    have HSZ:=aA ((HT.out.below HB1.out).sized r (-1))
    have hgsw:gs < w.heap.size:=(bY HT.out.rs gs rfl).2
    subst hw1
    go_upto_region 6 with (first
     | (go_at_call 144;refine (aB CA).mono ?_;rintro e w' ⟨rfl,rfl⟩)
     | go_in)
    clear CA
    generalize ((w.alloc (.cells #[.pointer (some ⟨tb,0,none⟩)] 162)).alloc (.cells #[.int .i64 0] 3)).alloc (.cells #[.bool false] 4)=w1 at *
    obtain ⟨ht2,hg2⟩:=HSZ.out
    have k0:=fH (j:=r) (v:=.int .i64 (-1)) x0 (by omega:w.heap.size≠gs)
    have k1:=fH (j:=r) (v:=.int .i64 (-1)) x1 (by omega:w.heap.size+1≠gs)
    have k2:=fH (j:=r) (v:=.int .i64 (-1)) x2 (by omega:w.heap.size+1+1≠gs)
    have kf1:(w1.setCell ⟨gs,r,none⟩ (.int .i64 (-1))).frozen? ⟨w.heap.size+1,0,none⟩=false:=by rw [World.frozen?_setCell];exact f1
    have kf2:(w1.setCell ⟨gs,r,none⟩ (.int .i64 (-1))).frozen? ⟨w.heap.size+1+1,0,none⟩=false:=by rw [World.frozen?_setCell];exact f2
    have hz2:(w1.setCell ⟨gs,r,none⟩ (.int .i64 (-1))).heap.size=w.heap.size+3:=by rw [←hs1];simp [World.setCell]
    have HT2:=aA ht2
    have HG2:=aA (uM HB1.out hg2)
    have CP:=aA (fun wx=>aB3 tb r wx)
    have nA:=fun X=>Below.at' ((Below.refl (w1.setCell ⟨gs,r,none⟩ (.int .i64 (-1))).heap.size (w1.setCell ⟨gs,r,none⟩ (.int .i64 (-1)))).alloc (Nat.le_refl _) X) (Nat.le_refl _) k0
    clear ht2 hg2 HSZ HT1
    go_wp2_with (first
     | (go_at_call 145;refine (aB CP _).mono ?_;rintro e w5 ⟨rfl,rfl⟩)
     | go_in)
    clear nA CP
    generalize w1.setCell ⟨gs,r,none⟩ (.int .i64 (-1))=w4 at *
    obtain ⟨C,hC⟩ : ∃C,(aE L).ch r=C:=⟨_,rfl⟩
    obtain ⟨ge,ce,rfl,_⟩:=HT.out.ends (by omega)
    obtain ⟨w6,hw6,hal,o0,of0,ot0,oa0,os0⟩:=aB4 w4 (.int .i64 1) (.pointer (some ⟨tb,0,none⟩)) (.int .i64 r) 3 162 3
    rw [←hw6]
    clear hw6
    rw [hz2] at o0 of0 ot0 oa0 os0
    have hT6:=HT2.out.below hal
    have hIt:jV w6 (w.heap.size+3+1+1) (w.heap.size+3+1) tb ge L r:=jV.of hT6 (by omega) oa0 ot0
    have htb6:=(Array.getElem?_eq_some_iff.1 HT.out.box).1
    have hge6:=(bY HT.out.re ge rfl).2
    have hks:∀k∈[w.heap.size+3+1+1,w.heap.size+3+1,tb,ge],k < w6.heap.size:=by
     intro k hk
     simp at hk
     rcases hk with rfl | rfl | rfl | rfl <;> omega
    obtain ⟨nd,hnd⟩ : ∃n,L[r]?=some n:=⟨L[r],List.getElem?_eq_getElem hra⟩
    have HG6:=aA (HG2.out.trans (fF hal))
    have y0:=Below.at' hal (Nat.le_refl _) k0
    have y1:=Below.at' hal (Nat.le_refl _) k1
    have y2:=Below.at' hal (Nat.le_refl _) k2
    have yf1:=(hal.frozen (p:=⟨w.heap.size+1,0,none⟩) (World.block_lt_of_cell? _ _ k1)).trans kf1
    have yf2:=(hal.frozen (p:=⟨w.heap.size+1+1,0,none⟩) (World.block_lt_of_cell? _ _ k2)).trans kf2
    refine (wpIn_wide (n:=3)).1 ?_
    refine wpIn_rangeFunc_ownG rfl (by omega) (gf:=149) (lb:=#[.pointer (some ⟨w.heap.size+3+1+1,0,none⟩),.pointer (some ⟨w.heap.size+3+1,0,none⟩)]) rfl trivial (enters_of Tryz.func149 (by kernel_rfl) rfl)
     (encs:=fun x:mK C=>#[.int .i64 (x.1:Nat)]) (Kp:=gE [w.heap.size+3+1+1,w.heap.size+3+1,tb,ge]) (S:=fun xs=>xs.map (fun x=>x.1)=C) (Sp:=fun pre=>pre.map (fun x=>x.1) <+: C) (N:=C.length) (w0:=w6)
     (fun l J Jx W hW hJ hJx hY h0=>by
      have:=aBc 2 l (w.heap.size+3+1+1) (w.heap.size+3+1) tb ge L r nd C hC (by omega) hL hfew hnd J Jx _ hJ hY W (hIt.kept (aB5 hW hks)) h0
      simpa using this)
     (fun h k=>h.trans k) (gE.put hks) (Below.refl _ _) (fun _=>rfl)
     (fun pre W=>uN w B tb gs cs vn (.slice (some ⟨ge,0,none⟩) L.length ce) vl vm L F (S.set r (-1)) rt (w.heap.size+3) w6.heap.size (pre.map fun x=>x.1) W)
     (fun c pre W=>xG w B tb gs cs vn (.slice (some ⟨ge,0,none⟩) L.length ce) vl vm L F (S.set r (-1)) rt c (pre.map fun x=>x.1) W)
     (uN.own (by omega)) (fun c=>xG.own (by omega) c) ?h0 ?a1 ?assign ?body ?done ?stop
    case h0=>
     refine ⟨Nat.le_refl _,⟨_,hT6,Nat.le_refl _,?_,fun _=>Iff.rfl⟩,⟨[],aL.nil,by simp,o0⟩,HG6.out,y0,y1,y2,yf1,yf2,of0⟩
     intro p n hp
     rw [List.getElem?_set] at hp
     split at hp
     ·split at hp
      ·simp at hp;exact Or.inr (Or.inl hp.symm)
      ·cases hp
     ·exact HS.out p n hp
    case assign=>
     intro l x W K hK
     gi_wp2
     exact hK
    case body=>
     rintro l pre x W hI hlen
     obtain ⟨S',hT',hZ',hS',hA'⟩:=hI.st
     obtain ⟨ls,hls,hen,hcb⟩:=hI.pts
     have hxp:x.1 < L.length:=aB7 hL hnd x.1 (by rw [hC];exact x.2)
     have hnm:(aE L).named r:=by
      rw [fV hnd]
      cases hv:aH nd with
      | false=>rfl
      | true=>
       have h1:C=[]:=by rw [←hC,kE hnd,lG hv];rfl
       have h2:=x.2
       simp [h1] at h2
     have hstep:eK (aE L) (fun i j=>rt i=rt j) r x.1:=eK.step (j:=r) rfl hnm (by rw [hC];exact x.2) rfl
     have hask:∀q:Nat,S'[q]?=some (-1)→eK (aE L) (fun i j=>rt i=rt j) q x.1:=by
      intro q hq
      have h1:=(hA' q).1 hq
      by_cases hqr:q=r
      ·subst hqr;exact hstep
      ·rw [List.getElem?_set_ne (fun e=>hqr e.symm)] at h1
       exact eK.trans ((HR.out q h1).right HD.out (by show rt a=rt r;rw [HRR.out,HRT.out])) hstep
     have CJ:=IH.out S' x.1 W (by have:=HZ.out;have:=HM.out;omega) hT' hS' hask hxp
     have hWs:=hI.far.size
     have hW6:=hI.big
     have htbW:=(Array.getElem?_eq_some_iff.1 hT'.box).1
     have hgeW:=(bY hT'.re ge rfl).2
     have hkk:∀k∈[w.heap.size+3+1+1,w.heap.size+3+1,tb,ge],k < W.heap.size∧k≠gs:=by
      intro k hk
      simp at hk
      have h1:tb≠gs:=fun e=>dD hT'.rs hT'.box (by decide) (by simp [Value.ownBlock,e])
      have h2:ge≠gs:=fun e=>hT'.ac (by simp [Value.ownBlock,e])
      rcases hk with rfl | rfl | rfl | rfl
      ·exact ⟨by omega,by omega⟩
      ·exact ⟨by omega,by omega⟩
      ·exact ⟨htbW,h1⟩
      ·exact ⟨hgeW,h2⟩
     have HNX:=aA (fun (W':World) (hg:W.grownBy W' (some gs))=>aSt hI hcb hg hgsw hkk (tW hT'.rs rfl) w6.heap.size)
     have x0':=hI.x0
     have HI:=aA hI
     have HLS:=aA hls
     have HEN:=aA hen
     have HZZ:=aA hZ'
     have HAA:=aA hA'
     have HCJ:=aA CJ
     have HKK:=aA (fun k hk=>(hkk k hk).1)
     generalize hsm:(ls.map List.length).sum=sm at *
     have HSM:=aA hsm
     clear hsm
     clear hI hls hen hcb hZ' hA' hS' hT' CJ hask hstep hnm hkk
     gi_wp2_with (first
      | (refine ⟨trivial,?_⟩;gi_at_call 133;refine (CallsIn.inRound l (callsIn_wide.2 (aB HCJ))).mono ?_;rintro e W' ⟨n,b,S'',rfl,hres⟩;obtain ⟨q1,q2,qf1,qf2,q3,qf3,hkp,hkf,hfar⟩:=HNX.out W' hres.far;have HRES:=aA hres;have HKP:=aA hkp;have HKF:=aA hkf;have HFAR:=aA hfar;clear hres hkp hkf hfar)
      | fail)
     ·have hbf:b=false:=by simpa using ‹(!b)=true›
      obtain ⟨_,hno⟩:=HRES.out.no hbf
      refine ⟨HKF.out.trans ((qB _ q1 _).trans (qB _ (fH q2 (by omega)) _)),⟨rfl,⟨S'',(HRES.out.tm.boxed HT.out (by omega) 0 _).boxed HT.out (by omega) 0 _,Nat.le_trans HRES.out.few HZZ.out⟩,⟨x.1,by simp,hno⟩,lI (lI HFAR.out (by omega) 0 _) (by omega) 0 _,?_,?_⟩⟩
      ·exact fH (World.cell?_setCell_same' _ _ _ (by rw [q1];rfl)) (by omega)
      ·exact World.cell?_setCell_same' _ _ _ (by rw [fH q2 (by omega)];rfl)
     ·have hbt:b=true:=by simpa using ‹(!b)=false›
      obtain ⟨h1,h2,h3,lx,h4,h5⟩:=HRES.out.yes hbt
      have hval:min (wrap64 (((min 501 (1+sm):Nat):Int)+n)) 501=((min 501 (1+((ls++[lx]).map List.length).sum):Nat):Int):=by
       rw [h5,List.map_append,List.sum_append,HSM.out]
       exact aSs sm lx.length
      rw [hval]
      have hkn:∀k∈[w.heap.size+3+1+1,w.heap.size+3+1,tb,ge],k≠w.heap.size+3:=by
       intro k hk
       simp at hk
       rcases hk with rfl | rfl | rfl | rfl <;> omega
      refine ⟨HKF.out.trans (qB _ q3 _),HKP.out.trans (fun k hk=>(cB W' ⟨w.heap.size+3,0,none⟩ _).block k (Nat.lt_of_lt_of_le (HKK.out k hk) HRES.out.far.size) (by simpa using hkn k hk)),⟨?_,⟨S'',HRES.out.tm.boxed HT.out (by omega) 0 _,Nat.le_trans HRES.out.few HZZ.out,h1,fun p=>(h2 p).trans (HAA.out p)⟩,⟨ls++[lx],?_,?_,World.cell?_setCell_same' _ _ _ (by rw [q3];rfl)⟩,lI HFAR.out (by omega) 0 _,fH ?_ (by omega),fH q1 (by omega),fH q2 (by omega),?_,?_,?_⟩⟩
      ·exact Nat.le_trans HI.out.big (Nat.le_trans HRES.out.far.size (cB W' ⟨w.heap.size+3,0,none⟩ _).size)
      ·rw [List.map_append];exact HLS.out.snoc h4
      ·intro y hy
       rw [List.map_append,List.mem_append] at hy
       rcases hy with hy | hy
       ·exact HEN.out y hy
       ·simp at hy;subst hy;exact h3
      ·exact HRES.out.far.cell x0' (by intro e;simp [Value.ownBlock] at e;omega)
      ·rw [World.frozen?_setCell];exact qf1
      ·rw [World.frozen?_setCell];exact qf2
      ·rw [World.frozen?_setCell];exact qf3
    case done=>
     rintro D ys W hD hSy hI hK
     obtain ⟨S',hT',hZ',hS',hA'⟩:=hI.st
     obtain ⟨ls,hls,hen,hcb⟩:=hI.pts
     have hcC:=hI.cf
     rw [hSy] at hls hen
     have x0':=hI.x0
     have x1':=hI.x1
     have x2':=hI.x2
     have f1':=hI.f1
     have f2':=hI.f2
     have c3':=hT'.c3
     obtain ⟨gs',cs',nr,e',hnr,ccr,cfr⟩:=hT'.size hra
     simp at e'
     obtain ⟨rfl,rfl⟩:=e'
     generalize hsm:(ls.map List.length).sum=sm at *
     have HSM:=aA hsm
     have HI:=aA hI
     have HT':=aA hT'
     have HLS:=aA hls
     have HEN:=aA hen
     have HK:=aA hK
     have HZ':=aA hZ'
     have HS':=aA hS'
     have HA':=aA hA'
     have hrz:(0:Int)≤(r:Int):=Int.natCast_nonneg _
     have hrn:((r:Int)).toNat=r:=Int.toNat_natCast _
     obtain ⟨v,hv⟩ : ∃v,v=Value.int .i64 ((min 501 (1+sm):Nat):Int):=⟨_,rfl⟩
     have d1:=fH (j:=r) (v:=v) x1' (by omega:w.heap.size+1≠gs)
     have d2:=fH (j:=r) (v:=v) x2' (by omega:w.heap.size+1+1≠gs)
     have d3:=fH (j:=r) (v:=v) hcb (by omega:w.heap.size+3≠gs)
     have df1:(W.setCell ⟨gs,r,none⟩ v).frozen? ⟨w.heap.size+1,0,none⟩=false:=by rw [World.frozen?_setCell];exact f1'
     have df2:(W.setCell ⟨gs,r,none⟩ v).frozen? ⟨w.heap.size+1+1,0,none⟩=false:=by rw [World.frozen?_setCell];exact f2'
     rw [hv] at d1 d2 d3 df1 df2
     clear hsm hI hT' hls hen hK hZ' hS' hA' hv
     go_wp2
     go_region
     all_goals
      go_wp2
      obtain ⟨hE,lr,hX,hXl⟩:=aSu hnd hC HLS.out HEN.out HN.out HD.out HNC.out HRR.out
      rw [HSM.out] at hXl
      have hra2:rt r=rt a:=by rw [HRR.out,HRT.out]
      have hv1:(1:Nat)≤min 501 (1+sm):=by rw [Nat.le_min];omega
      have hKF:KeepsFrom 0 W (((W.setCell ⟨gs,r,none⟩ (.int .i64 ((min 501 (1+sm):Nat):Int))).setCell ⟨w.heap.size+1,0,none⟩ (.int .i64 ((min 501 (1+sm):Nat):Int))).setCell ⟨w.heap.size+1+1,0,none⟩ (.bool true)):=(uL 0 (HT'.out.sized r ((min 501 (1+sm):Nat):Int)).2 (tW HT'.out.rs rfl)).trans ((qB 0 d1 _).trans (qB 0 (fH d2 (by omega)) _))
      have hK':=hKF.same D _ (Nat.zero_le _) HK.out rfl
      have hg1:=World.cell?_setCell_same' (W.setCell ⟨gs,r,none⟩ (.int .i64 ((min 501 (1+sm):Nat):Int))) ⟨w.heap.size+1,0,none⟩ (.int .i64 ((min 501 (1+sm):Nat):Int)) (by rw [d1];rfl)
      have hg1':=fH (j:=0) (v:=.bool true) hg1 (by omega:w.heap.size+1≠w.heap.size+1+1)
      have hg2:=World.cell?_setCell_same' ((W.setCell ⟨gs,r,none⟩ (.int .i64 ((min 501 (1+sm):Nat):Int))).setCell ⟨w.heap.size+1,0,none⟩ (.int .i64 ((min 501 (1+sm):Nat):Int))) ⟨w.heap.size+1+1,0,none⟩ (.bool true) (by rw [fH d2 (by omega)];rfl)
      have htm:=((HT'.out.sized r ((min 501 (1+sm):Nat):Int)).1.boxed HT.out (g:=w.heap.size+1) (by omega) 0 (.int .i64 ((min 501 (1+sm):Nat):Int))).boxed HT.out (g:=w.heap.size+1+1) (by omega) 0 (.bool true)
      have hfr:=lI (lI (HI.out.far.trans (HT'.out.sized r ((min 501 (1+sm):Nat):Int)).2) (g:=w.heap.size+1) (by omega) 0 (.int .i64 ((min 501 (1+sm):Nat):Int))) (g:=w.heap.size+1+1) (by omega) 0 (.bool true)
      generalize ((W.setCell ⟨gs,r,none⟩ (.int .i64 ((min 501 (1+sm):Nat):Int))).setCell ⟨w.heap.size+1,0,none⟩ (.int .i64 ((min 501 (1+sm):Nat):Int))).setCell ⟨w.heap.size+1+1,0,none⟩ (.bool true)=WF at *
      have hKd:WF.drew.heap[D]?=some (.deferred (some [])):=hK'
      refine ⟨by simp,.inl ⟨_,_,rfl,run_takeDeferred hKd,?_⟩⟩
      have hc1:=cell_kept (show WF.drew.cell? _=_ from hg1') (grownBy_putObj' WF.drew D (.deferred none)) (fun r e=>by cases e;exact ⟨_,hKd,rfl⟩)
      have hc2:=cell_kept (show WF.drew.cell? _=_ from hg2) (grownBy_putObj' WF.drew D (.deferred none)) (fun r e=>by cases e;exact ⟨_,hKd,rfl⟩)
      refine ⟨.tuple #[.int .i64 ((min 501 (1+sm):Nat):Int),.bool true],by simp [results,Tryz.results133,go_sem,hc1,hc2],?_⟩
      have hbd:Below WF.heap.size WF WF.drew:=aJ ⟨1,rfl⟩
      have hZ2:=HZ.out
      refine ⟨_,true,S'.set r ((min 501 (1+sm):Nat):Int),rfl,⟨(htm.below hbd).others (grownBy_putObj' WF.drew D (.deferred none)) (fun r e=>by cases e;exact ⟨_,hKd,rfl⟩),mJ (hfr.trans (fF hbd)) (grownBy_putObj' WF.drew D (.deferred none)) (fun r e=>by cases e;omega),?_,fun _=>⟨aSv HS'.out ⟨hE,lr,hX,by rw [hXl]⟩,aSw (by omega) HN0.out HA'.out,hE.same HD.out hra2,lr,hX.same HD.out (fun _ _ e=>e) [a] (aL.cons hra2 aL.nil),by rw [hXl]⟩,fun e=>(by cases e)⟩⟩
      have h1:=aS4 S' r ((min 501 (1+sm):Nat):Int) (by omega)
      have h2:=HZ'.out
      omega
    case stop=>
     rintro D c pre W hD hSy hI hK
     have hcr:=hI.ret
     subst hcr
     obtain ⟨S',hT',hZ'⟩:=hI.st
     obtain ⟨y,hy,hno⟩:=hI.no
     have x1':=hI.x1
     have x2':=hI.x2
     refine wpIn_wide.2 ?_
     go_wp2
     refine ⟨by simp,.inl ⟨_,_,rfl,run_takeDeferred hK,?_⟩⟩
     have hc1:=cell_kept x1' (grownBy_putObj' _ D (.deferred none)) (fun r e=>by cases e;exact ⟨_,hK,rfl⟩)
     have hc2:=cell_kept x2' (grownBy_putObj' _ D (.deferred none)) (fun r e=>by cases e;exact ⟨_,hK,rfl⟩)
     refine ⟨.tuple #[.int .i64 0,.bool false],by simp [results,Tryz.results133,go_sem,hc1,hc2],?_⟩
     refine ⟨0,false,S',rfl,⟨hT'.others (grownBy_putObj' _ D (.deferred none)) (fun r e=>by cases e;exact ⟨_,hK,rfl⟩),mJ hI.far (grownBy_putObj' _ D (.deferred none)) (fun r e=>by cases e;omega),Nat.le_trans hZ' (Nat.le_of_lt HZ.out),fun e=>(by cases e),fun _=>⟨rfl,fun he=>hno ?_⟩⟩⟩
     have hym:y∈(aE L).ch r:=by rw [hC];exact hSy.subset hy
     have hnm:(aE L).named r:=by
      rw [fV hnd]
      cases hv:aH nd with
      | false=>rfl
      | true=>rw [kE hnd,lG hv] at hym;simp at hym
     exact he.parts (j:=r) (by show rt a=rt r;rw [HRR.out,HRT.out]) hnm hym
   ·have HK:=aA (show bS (aE L) (fun i j=>rt i=rt j) a∧∃l,aO (aE L) (fun i j=>rt i=rt j) rt [a] l∧n0=(min 501 l.length:Nat) from by
     have hra:rt r=rt a:=by rw [HRR.out,HRT.out]
     rcases HS.out r n0 HN0.out with e | e | ⟨h1,l,h2,h3⟩
     ·exact absurd e hq0
     ·exact absurd e hq1
     ·exact ⟨h1.same HD.out hra,l,h2.same HD.out (fun _ _ e=>e) [a] (aL.cons hra aL.nil),h3⟩)
    have hq1':((n0:Int) == -1)=false:=by simpa using hq1
    have hq0':((n0:Int) != 0)=true:=by simpa using hq0
    obtain ⟨w2,hw2,hb2,y0,y1,y2,_,_,hs2⟩:=aG3 w (.pointer (some ⟨tb,0,none⟩)) (.int .i64 n0) (.bool true) 162 3 4
    subst hw1
    go_wp2_with (first
     | (go_at_call 144;refine (aB CA).mono ?_;rintro e w' ⟨rfl,rfl⟩)
     | go_in)
    subst hw2
    refine rG (v:=.tuple #[.int .i64 n0,.bool true]) rfl (by simp [results,Tryz.results133,go_sem,y1,y2]) ?_
    exact ⟨n0,true,S,rfl,⟨HT.out.below hb2,fF hb2,Nat.le_refl _,fun _=>⟨HS.out,fun _=>Iff.rfl,HK.out⟩,fun e=>(by cases e)⟩⟩
end Go.Proofs.YtbddofieljiihaaGreatDoor
