/- The search: a run. The search: its answer, in all. The program: Solve. -/
import Derived.Test.YtbddofieljiihaaGreatDoorXSr4I
import Derived.Test.YtbddofieljiihaaGreatDoorGOrdI
namespace Go.Proofs.YtbddofieljiihaaGreatDoor
open Go.RowKit Go.Shelf Go.WideMaps
set_option maxRecDepth 100000
def vE (w:World) (sb:Nat):Nat:=match w.cell? ⟨sb,2,none⟩ with | some (.slice _ n _)=>n | _=>0
theorem bC.steps {B:Nat} {W:World} {sb hp:Nat} {v vs vk:Value} {L:List Cd} {n:Nat} {T:List (aG×Value)} {ks:List Nat} {big:Bool} (h:bC B W sb hp v vs vk L n T ks big):vE W sb=T.length:=by
 obtain ⟨a,c,rfl⟩:=aR h.st.row
 unfold vE
 rw [h.cells.2.2.1]
def aVz (B sb hp lim:Nat) (Q:Nat→List (aG×Value)→List Nat→Bool→Prop) (w:World) (e:Ending) (w':World):Prop:=
 ∃(vd:Nat) (v' vs' vk':Value) (L':List Cd) (n':Nat) (T':List (aG×Value)) (ks':List Nat) (b':Bool),e=.returned (.int .i64 vd)∧bC B w' sb hp v' vs' vk' L' n' T' ks' b'∧Q vd T' ks' b'∧T'.length≤lim+1∧Mv mU B w w'
def yA (B sb hp lim:Nat) (Q:Nat→List (aG×Value)→List Nat→Bool→Prop) (w wr:World):Prop:=
 ∃(v vs vk:Value) (L:List Cd) (n:Nat) (T:List (aG×Value)) (ks:List Nat) (b:Bool),bC B wr sb hp v vs vk L n T ks b∧cW lim Q L n T ks b∧xZ L n T ks∧T.length≤lim∧Mv mU B w wr∧B≤wr.heap.size
theorem bC.onest {B:Nat} {w w':World} {sb hp:Nat} {v vs vk vs':Value} {L:List Cd} {n:Nat} {T:List (aG×Value)} {ks:List Nat} {big:Bool} {p:aG×Value} (h:bC B w sb hp v vs vk L n T ks big) (hg:w.grownBy w' vs.ownBlock) (hp2:bK B w p.2 p.1.c) (hs:w'.ownsRow B 54 6 vs' (T.length+1) (fP T++fI p)) :
  w'.cell? ⟨sb,2,none⟩=some vs∧w'.frozen? ⟨sb,2,none⟩=false∧bC B (w'.setCell ⟨sb,2,none⟩ vs') sb hp v vs' vk L n (T++[p]) ks big∧Mv [85,54] B w (w'.setCell ⟨sb,2,none⟩ vs'):=by
 have hm:Mv [54] B w w':=aC2 h.st.row hg (by simp)
 have hbx:=hm.cells h.box (by decide)
 have hlt:=(Array.getElem?_eq_some_iff.1 hbx).1
 have hm2:Mv [85] B w' (w'.setCell ⟨sb,2,none⟩ vs'):=Mv.of_grown (cB w' ⟨sb,2,none⟩ _) (fun k hk=>by cases hk;exact ⟨h.base,_,_,hbx,by simp⟩)
 have hall:Mv [85,54] B w (w'.setCell ⟨sb,2,none⟩ vs'):=(hm.mono (by decide) (Nat.le_refl _)).trans (hm2.mono (by decide) (Nat.le_refl _))
 refine ⟨by simp [World.cell?,hbx],by simp [World.frozen?,hbx],⟨?_,⟨hall.cells h.heap.box (by decide),hall.row h.heap.row (by decide),h.heap.base⟩,⟨?_,fun q hq=>?_⟩,hall.row h.kp (by decide),fun y hy=>⟨hall.clause (h.cl y hy).1 (by decide) (by decide),(h.cl y hy).2⟩,h.base⟩,hall⟩
 ·show (w'.heap.modify sb _)[sb]?=_
  rw [Array.getElem?_eq_getElem (by rw [Array.size_modify];exact hlt),Array.getElem_modify_self,(Array.getElem?_eq_some_iff.1 hbx).2]
  rfl
 ·have:=hm2.row hs (by decide)
  simpa [fP] using this
 ·rcases List.mem_append.1 hq with hq | hq
  ·exact hall.clause (h.st.cl q hq) (by decide) (by decide)
  ·simp at hq
   subst hq
   exact hall.clause hp2 (by decide) (by decide)
theorem cW.cv {lim:Nat} {Q:Nat→List (aG×Value)→List Nat→Bool→Prop} {L:List Cd} {n:Nat} {T:List (aG×Value)} {ks:List Nat} {b:Bool} (h:cW lim Q L n T ks b):∀x∈L,∀k∈ks,kQ (aK T k) x.c:=by
 cases h <;> assumption
set_option maxHeartbeats 8000000 in
theorem aW0 (B sb hp lim:Nat) (Q:Nat→List (aG×Value)→List Nat→Bool→Prop) (w:World) (h:yA B sb hp lim Q w w) (hlim:lim≤100) :
  Calls Tryz.prog 22 #[.pointer (some ⟨sb,0,none⟩),.int .i64 (lim:Nat)] w fun e w'=>aVz B sb hp lim Q w e w':=by
 have HH:=aA h
 clear h
 go_enter Tryz.func22,Tryz.ntmps22
 go_wp2
 go_loopw [] (fun wr=>yA B sb hp lim Q w wr) (fun wr=>lim - vE wr sb)
 case atStart=>exact HH.out
 case round=>
  obtain ⟨v,vs,vk,L,n,T,ks,b,hI,hM,hO,hT,hmv,hB⟩:=hrel
  have hkl:=hO.kl
  have CN:=aA (aVq B sb hp v vs vk L n T ks b wr hI hM.cv hO.k (by omega) hO.ll hB)
  have hst:=hI.steps
  have HST:=aA hst
  have HM:=aA hM
  have HO:=aA hO
  have HMV:=aA hmv
  clear hI hM hO hmv hst HH
  go_wp2_with (first
   | (go_at_call 36;refine (aB CN).mono ?_)
   | go_in)
  clear CN
  rintro e w2 ⟨v2,hm2,⟨hn,rfl,hS2⟩ | ⟨x,L',hn,rfl,hS2,hc,hln⟩⟩
  ·have hb:b=false∧Q 2 T ks false:=by
    cases HM.out with
    | sat _ h hq=>exact ⟨rfl,hq⟩
    | unsat s hs _ h=>rw [hn] at h;cases h
    | out _ h=>rw [hn] at h;cases h
    | take s hs _ h=>rw [hn] at h;cases h
   obtain ⟨rfl,hq⟩:=hb
   have hbA:Below w2.heap.size w2 (w2.alloc (.cells #[.int .i64 0,.int .i64 0,.int .i64 0,.int .i64 0,.int .i64 0,.slice none 0 0] 54)):=(Below.refl _ w2).alloc (Nat.le_refl _) _
   have hS3:=hS2.below hbA
   have CC:=aA (aVw B sb hp v2 vs vk [] n T ks _ hS3)
   have HS3:=aA hS3
   have HBA:=aA hbA
   have HM2:=aA hm2
   have HQ:=aA hq
   unfold qJ fQ
   clear hS3 hbA hm2 hS2 hn hq HM HO HST
   go_wp2_with (first
    | (go_at_call 37;refine (aB CC).mono ?_;rintro e w3 ⟨rfl,hb3⟩;have HB3:=aA hb3;clear hb3)
    | go_in)
   go_ret
   exact ⟨2,_,_,_,_,_,_,_,_,rfl,HS3.out.below HB3.out,HQ.out,by omega,((HMV.out.trans (HM2.out.mono (by decide) (Nat.le_refl _))).trans (Mv.of_below HBA.out)).trans (Mv.of_below HB3.out)⟩
  ·obtain ⟨xr,xa,xb,xi,xj,ad,ln,cp,wt,nm,xc⟩:=x
   simp only at hc hln
   subst hln
   obtain ⟨va,vc,rfl⟩:=aR hS2.st.row
   have HMV2:=aA (HMV.out.trans (hm2.mono (S':=mU) (by decide) (Nat.le_refl _)))
   have hB2:B≤w2.heap.size:=Nat.le_trans hB hm2.size
   unfold qJ
   clear hm2 HMV
   cases HM.out with
   | sat _ h hq=>rw [hn] at h;cases h
   | out _ h hc0 hl hq=>
    rw [hn] at h
    cases h
    have hbA:∀o,Below w2.heap.size w2 (w2.alloc o):=fun o=>(Below.refl _ w2).alloc (Nat.le_refl _) _
    have c2:∀o,(w2.alloc o).cell? ⟨sb,2,none⟩=some (.slice va T.length vc):=fun o=>(hS2.below (hbA o)).cells.2.2.1
    have hxz:((xc.length:Int) == 0)=false:=by
     have:xc.length≠0:=fun e=>hc0 (List.length_eq_zero_iff.1 e)
     simpa using this
    have HS2:=aA hS2
    have HQ:=aA hq
    have HBA:=aA hbA
    clear hS2 hn hq HM HO HST hbA hc hc0
    rw [hl] at c2
    go_wp2
    go_ret
    exact ⟨3,_,_,_,_,_,_,_,_,rfl,HS2.out.below (HBA.out _),HQ.out,by omega,HMV2.out.trans (Mv.of_below (HBA.out _))⟩
   | unsat s hs _ h hc0 hq=>
    rw [hn] at h
    cases h
    obtain ⟨r,a,b',i,j,c⟩:=s
    simp only [vD] at hs
    obtain ⟨⟨rfl,rfl,rfl,rfl,rfl⟩,rfl⟩:=hs
    simp only at hc0 hq
    subst hc0
    have hTl:T.length≤1000:=by omega
    have HC:=aA hc
    have HS2:=aA hS2
    have HQ:=aA hq
    simp only [List.length_nil] at *
    clear hS2 hn HM HO HST hc hq
    go_upto_region 7 with (fail)
    obtain ⟨w3,hw3,hb3,hx3⟩ : ∃w3,w2.alloc (.cells #[.int .i64 r,.int .i64 a,.int .i64 b',.int .i64 i,.int .i64 j,.slice ad 0 cp] 54)=w3∧Below w2.heap.size w2 w3∧w3.heap[w2.heap.size]?=some (.cells #[.int .i64 r,.int .i64 a,.int .i64 b',.int .i64 i,.int .i64 j,.slice ad 0 cp] 54 (0,0)):=⟨_,rfl,(Below.refl _ w2).alloc (Nat.le_refl _) _,World.alloc_heap_new w2 _⟩
    simp only [hw3]
    clear hw3
    have hI:=HS2.out.below hb3
    have c2:=hI.cells.2.2.1
    have c2a:∀o,(w3.alloc o).cell? ⟨sb,2,none⟩=some (.slice va T.length vc):=fun o=>Below.at' ((Below.refl _ w3).alloc (Nat.le_refl _) o) (Nat.le_refl _) c2
    have b0:w3.cell? ⟨w2.heap.size,0,none⟩=some (.int .i64 r):=by simp [World.cell?,hx3]
    have b1:w3.cell? ⟨w2.heap.size,1,none⟩=some (.int .i64 a):=by simp [World.cell?,hx3]
    have b2:w3.cell? ⟨w2.heap.size,2,none⟩=some (.int .i64 b'):=by simp [World.cell?,hx3]
    have b3:w3.cell? ⟨w2.heap.size,3,none⟩=some (.int .i64 i):=by simp [World.cell?,hx3]
    have b4:w3.cell? ⟨w2.heap.size,4,none⟩=some (.int .i64 j):=by simp [World.cell?,hx3]
    have b5:w3.cell? ⟨w2.heap.size,5,none⟩=some (.slice ad 0 cp):=by simp [World.cell?,hx3]
    have hs3:=hb3.size
    have hId:=hI.below (aJ ⟨1,rfl⟩)
    have hrow:w3.drew.ownsRow B 54 6 (.slice va T.length vc) T.length (fP T):=hId.st.row
    have HI:=aA hId
    have HB3:=aA hb3
    have hmix:Tryz.prog.follows .mixedOrders=true:=by kernel_rfl
    have HCM:=aA ((HC.out.below hb3).below (aJ ⟨1,rfl⟩))
    clear hI hx3 hId hb3 HC HS2
    refine rF ?_
    go_region_law (refine mI ?g1 (.tmp 31) (.tmp 33) 30 54 ?g2 (.agg #[.int .i64 0,.int .i64 0,.int .i64 0,.int .i64 0,.int .i64 0,.slice none 0 0]) 6 64 Tryz.underlying30 xX ?g3 ?g4 ?g5 B _ T.length (fP T) ?g6 (hrow.alloc _) ?g7 ?g8 w3.heap.size 1 (fI (⟨r,a,b',i,j,[]⟩,.slice ad 0 cp)) ?g9 ?g10 (aFi w3.drew #[.int .i64 r,.int .i64 a,.int .i64 b',.int .i64 i,.int .i64 j,.slice ad 0 cp] 54) (xY (⟨r,a,b',i,j,[]⟩,.slice ad 0 cp) rfl) ?_;(case g1=>rfl);(case g2=>rfl);(case g3=>rfl);(case g4=>decide);(case g5=>decide);(case g6=>rfl);(case g7=>omega);(case g8=>simp;omega);(case g9=>rfl);(case g10=>rfl);intro v4 w4 ho4 hg4;obtain ⟨d0,f0,hI4,hm4⟩:=bC.onest (p:=(⟨r,a,b',i,j,[]⟩,.slice ad 0 cp)) (HI.out.below ((Below.refl _ w3.drew).alloc (Nat.le_refl _) _)) hg4 (HCM.out.below ((Below.refl _ w3.drew).alloc (Nat.le_refl _) _)) ho4;have HI4:=aA hI4;have HM4:=aA hm4;obtain ⟨va4,vc4,rfl⟩:=aR ho4;clear ho4 hg4 hI4 hm4)
    all_goals
     refine oU ?_
     have HM5:=aA ((HMV2.out.trans (Mv.of_below (HB3.out.trans (((aJ (w1:=w3.drew) ⟨1,rfl⟩).alloc (Nat.le_refl _) (.cells #[.int .i64 r,.int .i64 a,.int .i64 b',.int .i64 i,.int .i64 j,.slice ad 0 cp] 54)).mono hs3)))).trans (HM4.out.mono (S':=mU) (by decide) (Nat.le_refl _)))
     clear d0 f0 HM4 HI HB3 b0 b1 b2 b3 b4 b5 c2 c2a hrow HCM HMV2
     go_wp2_with fail
     go_ret
     exact ⟨1,_,_,_,_,_,_,_,_,rfl,HI4.out,HQ.out,by simp;omega,HM5.out⟩
   | take s hs _ h hc0 hl hdv hF hLF hnF next=>
    rw [hn] at h
    cases h
    obtain ⟨r,a,b',i,j,c⟩:=s
    simp only [vD] at hs
    obtain ⟨⟨rfl,rfl,rfl,rfl,rfl⟩,rfl⟩:=hs
    simp only at hc0 hdv hF hLF hnF next
    have hbA:∀o,Below w2.heap.size w2 (w2.alloc o):=fun o=>(Below.refl _ w2).alloc (Nat.le_refl _) _
    have c2:∀o,(w2.alloc o).cell? ⟨sb,2,none⟩=some (.slice va T.length vc):=fun o=>(hS2.below (hbA o)).cells.2.2.1
    have hxz:((xc.length:Int) == 0)=false:=by
     have:xc.length≠0:=fun e=>hc0 (List.length_eq_zero_iff.1 e)
     simpa using this
    have hlz:((T.length:Int) == (lim:Int))=false:=by simp;omega
    have hic:bG xc=true:=HO.out.l _ (aC4 _ hn).1
    have CT:=aA (fun o=>aVs B sb hp v2 _ vk L' n T ks b ⟨r,a,b',i,j,xc⟩ ad cp (w2.alloc o) (hS2.below (hbA o)) (hc.below (hbA o)) hic HO.out.t hdv HO.out.k (by omega) (by omega) (Nat.le_trans hB2 (hbA o).size) _ rfl hF hLF hnF)
    have HNX:Hid (∀w5,(∃v' vs' vk' L2 n2 b2,bC B w5 sb hp v' vs' vk' L2 n2 (T++[(⟨r,a,b',i,j,xc⟩,.slice ad xc.length cp)]) (cN T ks xc) b2∧bR (jG (T++[(⟨r,a,b',i,j,xc⟩,.slice ad xc.length cp)]) T.length (cN T ks xc)) L' n b L2 n2 b2∧∃o,Mv mU B (w2.alloc o) w5)→yA B sb hp lim Q w w5∧lim - vE w5 sb < lim - vE wr sb):=aA fun w5 ⟨v',vs',vk',L2,n2,b2,h1,h2,o,h3⟩=>by
     refine ⟨⟨v',vs',vk',L2,n2,_,_,b2,h1,next _ _ _ h2,HO.out.take ⟨r,a,b',i,j,xc⟩ _ rfl hn hF hLF hnF h2,by simp;omega,(HMV2.out.trans (Mv.of_below (hbA o))).trans h3,Nat.le_trans (Nat.le_trans hB2 (hbA o).size) h3.size⟩,?_⟩
     rw [h1.steps,HST.out]
     simp
     omega
    unfold nN at CT
    simp only at CT
    clear hS2 hn HM HO HST hbA hc hc0 hF hLF hnF next hic hl HMV2 hdv
    generalize xc.length=cl at *
    go_wp2_with (first
     | (go_at_call 38;refine (aB CT _).mono ?_;rintro e w5 ⟨⟨u,rfl⟩,v5,vs5,vk5,L5,n5,b5,h5,ht5,hm5⟩;have G:=aA (HNX.out w5 ⟨_,_,_,_,_,_,h5,ht5,_,hm5⟩);clear h5 ht5 hm5)
     | go_in)
    go_roundw
    case rel=>exact G.out.1
    case measure=>exact G.out.2
def yB (Q:Nat→List (aG×Value)→List Nat→Bool→Prop) (vd:Nat) (T:List (aG×Value)) (ks:List Nat) (b:Bool):Prop:=Q vd T ks b∧((vd=1∧1≤T.length)∨vd=2∨vd=3)
theorem cW.tag {lim:Nat} {Q:Nat→List (aG×Value)→List Nat→Bool→Prop} {L:List Cd} {n:Nat} {T:List (aG×Value)} {ks:List Nat} {b:Bool} (h:cW lim Q L n T ks b):cW lim (yB Q) L n T ks b:=by
 induction h with
 | sat hv h hq=>exact cW.sat hv h ⟨hq,Or.inr (Or.inl rfl)⟩
 | unsat s hs hv h hc hq=>exact cW.unsat s hs hv h hc ⟨hq,Or.inl ⟨rfl,by simp⟩⟩
 | out hv h hc hl hq=>exact cW.out hv h hc hl ⟨hq,Or.inr (Or.inr rfl)⟩
 | take s hs hv h hc hl hd hF hLF hnF _ ih=>exact cW.take s hs hv h hc hl hd hF hLF hnF ih
set_option maxHeartbeats 2000000 in
theorem aW1 (B sb hp:Nat) (v vk:Value) (L:List Cd) (n:Nat) (T:List (aG×Value)) (ks:List Nat) (big:Bool) (va:Option Addr) (tn vc:Nat) (w:World) (h:bC B w sb hp v (.slice va tn vc) vk L n T ks big) :
  Calls Tryz.prog 21 #[.pointer (some ⟨sb,0,none⟩),.int .i64 3] w fun e w'=>e=.returned (.agg #[.int .i64 3,.slice va tn vc,.slice none 0 0,.int .i64 tn,.bool big])∧Below w.heap.size w w':=by
 obtain ⟨_,_,c2,_,c4⟩:=h.cells
 have c2a:=fun X=>Below.at' ((Below.refl w.heap.size w).alloc (Nat.le_refl _) X) (Nat.le_refl _) c2
 have c4a:=fun X=>Below.at' ((Below.refl w.heap.size w).alloc (Nat.le_refl _) X) (Nat.le_refl _) c4
 clear h
 go_enter Tryz.func21,Tryz.ntmps21
 go_wp2_with fail
 go_region_held3 (fun w'=>w'.cell? ⟨sb,2,none⟩=some (.slice va tn vc)∧w'.cell? ⟨sb,4,none⟩=some (.bool big)) (go_keep) (fail)
 all_goals
  go_wp2_with fail
  go_returns
  refine ⟨rfl,?_⟩
  exact (((Below.refl _ w).alloc (Nat.le_refl _) _).alloc (by simp) _).trans (Below.mono (aJ ⟨1,rfl⟩) (by simp;omega))
def sU (vd:Nat) (vs vk:Value) (used:Nat) (b:Bool):Value:=.agg #[.int .i64 vd,vs,vk,.int .i64 used,.bool b]
structure vF (B:Nat) (w:World) (vd:Nat) (vs vk:Value) (used:Nat) (T:List (aG×Value)) (ks:List Nat):Prop where
 st:fZ B w vs T
 kp:(vd=2∧cZ B w vk ks)∨(vd≠2∧vk=.slice none 0 0)
 us:used=if vd=1 then T.length - 1 else T.length
theorem aW2 (B sb hp:Nat) (v vs vk:Value) (L:List Cd) (n vd:Nat) (T:List (aG×Value)) (ks:List Nat) (big:Bool) (w:World) (h:bC B w sb hp v vs vk L n T ks big) (hvd:(vd=1∧1≤T.length)∨vd=2∨vd=3) (hT:T.length≤1000000) :
  Calls Tryz.prog 21 #[.pointer (some ⟨sb,0,none⟩),.int .i64 vd] w fun e w'=>∃va tn vc ka kn kc used,e=.returned (sU vd (.slice va tn vc) (.slice ka kn kc) used big)∧vF B w' vd (.slice va tn vc) (.slice ka kn kc) used T ks∧Below w.heap.size w w':=by
 obtain ⟨va,vc,rfl⟩:=aR h.st.row
 obtain ⟨ka,kc,rfl⟩:=h.kp.shape
 rcases hvd with ⟨rfl,hl⟩ | rfl | rfl
 ·refine (aVx B sb hp v _ L n T ks big va T.length vc w h hl hT).mono ?_
  rintro e w' ⟨rfl,hb⟩
  exact ⟨va,T.length,vc,none,0,0,_,rfl,⟨(h.below hb).st,Or.inr ⟨by decide,rfl⟩,rfl⟩,hb⟩
 ·refine (aVy B sb hp v L n T ks big va ka T.length vc _ kc w h).mono ?_
  rintro e w' ⟨rfl,hb⟩
  exact ⟨va,T.length,vc,ka,_,kc,_,rfl,⟨(h.below hb).st,Or.inl ⟨rfl,(h.below hb).kp⟩,rfl⟩,hb⟩
 ·refine (aW1 B sb hp v _ L n T ks big va T.length vc w h).mono ?_
  rintro e w' ⟨rfl,hb⟩
  exact ⟨va,T.length,vc,none,0,0,_,rfl,⟨(h.below hb).st,Or.inr ⟨by decide,rfl⟩,rfl⟩,hb⟩
theorem aIj {α β:Type} {f:α→List β}:∀{l:List α} {x:α},(l.flatMap f).Nodup→x∈l→(f x).Nodup
 | y :: l,x,h,hx=>by
  rw [List.flatMap_cons,List.nodup_append] at h
  rcases List.mem_cons.1 hx with rfl | hx
  ·exact h.1
  ·exact aIj h.2.1 hx
theorem jB.cls {B:Nat} {w:World} {v:Value} {QV:List (List (Lt×Value)×Value)} (h:jB B w v QV):oL B w v (QV.map fun p=>(p.1.map Prod.fst,p.2)):=by
 refine ⟨?_,fun p hp=>?_⟩
 ·have:=h.mem.1
  simpa [List.map_map,Function.comp_def] using this
 ·obtain ⟨q,hq,rfl⟩:=List.mem_map.1 hp
  refine ⟨q.1,rfl,(h.mem.2 q hq).1.1,(h.mem.2 q hq).1.2,?_⟩
  have:=aIj h.atoms hq
  simpa [List.filterMap_map,Function.comp_def] using this
theorem oL.fsts (QV:List (List (Lt×Value)×Value)):(QV.map fun p=>(p.1.map Prod.fst,p.2)).map Prod.fst=QV.map fun p=>p.1.map Prod.fst:=by simp [List.map_map,Function.comp_def]
def A5 (w:World) (b:Nat) (x0 x1 x2 x3 x4:Value):Prop:=w.heap[b]?=some (.cells #[x0,x1,x2,x3,x4] 33 (0,0))
def lU (w:World) (b:Nat) (x0 x1 x2 x3 x4:Value):World:=(((((w.setCell ⟨b,0,none⟩ x0).setCell ⟨b,1,none⟩ x1).setCell ⟨b,2,none⟩ x2).setCell ⟨b,3,none⟩ x3).setCell ⟨b,4,none⟩ x4)
theorem A5.cells {w:World} {b:Nat} {x0 x1 x2 x3 x4:Value} (h:A5 w b x0 x1 x2 x3 x4):w.cell? ⟨b,0,none⟩=some x0∧w.cell? ⟨b,1,none⟩=some x1∧w.cell? ⟨b,2,none⟩=some x2∧w.cell? ⟨b,3,none⟩=some x3∧w.cell? ⟨b,4,none⟩=some x4:=by
 refine ⟨?_,?_,?_,?_,?_⟩ <;> simp [World.cell?,show w.heap[b]?=_ from h]
theorem A5.frz {w:World} {b:Nat} {x0 x1 x2 x3 x4:Value} (h:A5 w b x0 x1 x2 x3 x4) (k:Nat):w.frozen? ⟨b,k,none⟩=false:=by simp [World.frozen?,show w.heap[b]?=_ from h]
theorem A5.put {w:World} {b:Nat} {x0 x1 x2 x3 x4:Value} (h:A5 w b x0 x1 x2 x3 x4) (y0 y1 y2 y3 y4:Value):A5 (lU w b y0 y1 y2 y3 y4) b y0 y1 y2 y3 y4∧w.grownBy (lU w b y0 y1 y2 y3 y4) (some b):=by
 have hs:∀(u:World) (cs:Array Value) (k:Nat) (v:Value),u.heap[b]?=some (.cells cs 33 (0,0))→(u.setCell ⟨b,k,none⟩ v).heap[b]?=some (.cells (cs.setIfInBounds k v) 33 (0,0)):=fun u cs k v hu=>by
  have hlt:=(Array.getElem?_eq_some_iff.1 hu).1
  show (u.heap.modify b _)[b]?=_
  rw [Array.getElem?_eq_getElem (by rw [Array.size_modify];exact hlt),Array.getElem_modify_self,(Array.getElem?_eq_some_iff.1 hu).2]
  rfl
 constructor
 ·unfold A5 lU
  rw [hs _ _ 4 _ (hs _ _ 3 _ (hs _ _ 2 _ (hs _ _ 1 _ (hs _ _ 0 _ h))))]
  simp
 ·unfold lU
  have h:∀(u:World) (k:Nat) (v:Value),w.grownBy u (some b)→w.grownBy (u.setCell ⟨b,k,none⟩ v) (some b):=fun u k v hu=>jK hu (cB u ⟨b,k,none⟩ v)
  exact h _ _ _ (h _ _ _ (h _ _ _ (h _ _ _ (h _ _ _ ⟨rfl,rfl,rfl,Nat.le_refl _,fun _ _ _=>rfl⟩))))
theorem sV {w w2 w3:World} {b:Nat} (h:Below w.heap.size w w2) (hg:w2.grownBy w3 (some b)) (hb:w.heap.size≤b):Below w.heap.size w w3:=
 h.grown hg h.size (fun j e=>by cases e;exact hb)
theorem fZ.low {B B':Nat} {w:World} {v:Value} {T:List (aG×Value)} (h:fZ B w v T) (hB:B'≤B):fZ B' w v T:=⟨fS h.row hB,fun p hp=>(h.cl p hp).low hB⟩
theorem vF.kept {S:List TypeId} {B B':Nat} {w w':World} {vd:Nat} {vs vk:Value} {used:Nat} {T:List (aG×Value)} {ks:List Nat} (h:vF B w vd vs vk used T ks) (hB:B'≤B) (k:cG S w w') (h1:54∉S) (h2:74∉S) (h3:106∉S) (h4:3∉S):vF B' w' vd vs vk used T ks:=
 ⟨(h.st.low hB).kept k h1 h2 h3,by rcases h.kp with ⟨a,b⟩ | h;exact Or.inl ⟨a,k.row (fS b hB) h4⟩;exact Or.inr h,h.us⟩
def oG:Value:=.agg #[.int .i64 0,.slice none 0 0,.slice none 0 0,.int .i64 0,.bool false]
def sW (s:ByteArray) (lim:Int) (Q:List (List Lt)→Nat→List (aG×Value)→List Nat→Bool→Prop) (w:World) (e:Ending) (w':World):Prop:=
 ∃out at' er,nY s out at' er∧Below w.heap.size w w'∧((er≠0∧e=.returned (.tuple #[oG,.int .i64 er]))∨(er=0∧¬(1≤lim∧lim≤100)∧e=.returned (.tuple #[oG,.int .i64 7]))∨
  (er=0∧1≤lim∧lim≤100∧∃vd vs vk used b T ks,e=.returned (.tuple #[sU vd vs vk used b,.int .i64 0])∧vF w.heap.size w' vd vs vk used T ks∧yB (Q out) vd T ks b))
set_option maxHeartbeats 8000000 in
theorem aW3 (s:ByteArray) (lim:Int) (Q:List (List Lt)→Nat→List (aG×Value)→List Nat→Bool→Prop) (w:World) (hs0:s.size≤140737488355328) (hQ:∀out at',nY s out at' 0→(∀c∈out,bG c=true)∧out.length≤1000∧∀l:Nat,lim=l→1≤l→l≤100→∀L n,bR (iY out) [] 0 false L n false→cW l (Q out) L n [] [] false) :
  Calls Tryz.prog 13 #[.string s,.int .i64 lim] w fun e w'=>sW s lim Q w e w':=by
 obtain ⟨w1,hw1,hb1,hx1,hs1⟩ : ∃w1,w.alloc (.cells #[.int .i64 0,.slice none 0 0,.slice none 0 0,.int .i64 0,.bool false] 33)=w1∧Below w.heap.size w w1∧A5 w1 w.heap.size (.int .i64 0) (.slice none 0 0) (.slice none 0 0) (.int .i64 0) (.bool false)∧w1.heap.size=w.heap.size+1:=⟨_,rfl,(Below.refl _ w).alloc (Nat.le_refl _) _,World.alloc_heap_new w _,by simp⟩
 have CS:=aA (zF s w1 hs0)
 have HQ:=aA hQ
 clear hQ
 go_enter Tryz.func13,Tryz.ntmps13
 go_upto_region 1 with (fail)
 clear hw1
 go_wp2_with (first
  | (go_at_call 15;refine (aB CS).mono ?_)
  | go_in)
 clear CS
 rintro e w2 ⟨v,QV,at1,er,rfl,hrd,hmem,hb2⟩
 have hx2:A5 w2 w.heap.size (.int .i64 0) (.slice none 0 0) (.slice none 0 0) (.int .i64 0) (.bool false):=(hb2.block _ (by omega)).trans hx1
 have hbw:Below w.heap.size w w2:=hb1.trans (hb2.mono (by omega))
 have hz2:=hb2.size
 obtain ⟨va,vc,rfl⟩:=aR hmem.mem.1
 have HRD:=aA hrd
 have HX2:=aA hx2
 have HBW:=aA hbw
 by_cases he:er=0
 ·subst he
  obtain ⟨hcl,hlen,hrun⟩:=HQ.out _ _ hrd
  by_cases hl:1≤lim∧lim≤100
  ·obtain ⟨l,rfl⟩ : ∃l:Nat,lim=l:=⟨lim.toNat,by omega⟩
   have hl1:1≤l:=by omega
   have hl2:l≤100:=by omega
   have hc1:decide ((l:Int) < 1)=false:=by simp;omega
   have hc2:decide ((100:Int) < (l:Int))=false:=by simp;omega
   have hmQ:∀c∈QV.map (fun p=>p.1.map Prod.fst),bG c=true:=hcl
   have CS:=aA (aMt w1.heap.size _ _ w2 hmem.cls (fun p hp=>hcl p.1 (by
    obtain ⟨q,hq,rfl⟩:=List.mem_map.1 hp
    exact List.mem_map.2 ⟨q,hq,rfl⟩)) (by simpa using hlen) hz2)
   rw [oL.fsts] at CS
   obtain ⟨out,hout⟩ : ∃out,(QV.map fun p=>p.1.map Prod.fst)=out:=⟨_,rfl⟩
   rw [hout] at CS hrun hmQ hlen hcl hrd
   have HRUN:Hid (∀sb hp w3,rW w1.heap.size w2 sb hp out out.length w3→yA w1.heap.size sb hp l (yB (Q out)) w3 w3):=aA fun sb hp w3 ⟨v3,L3,n3,h1,h2,h3⟩=>by
    have hgl:(iY out).length=out.length:=by simp [iY]
    rw [show (iY out).take out.length=iY out by rw [←hgl,List.take_length]] at h2
    have hlen2:=bR.len _ h2
    simp at hlen2
    refine ⟨_,_,_,L3,n3,[],[],false,h1,(hrun l rfl hl1 hl2 L3 n3 h2).tag,⟨fun x hx=>?_,by simp,by simp,by simp,by omega,by omega⟩,by simp,Mv.refl _ _ _,Nat.le_trans hz2 h3.size⟩
    rcases h2.mem _ x hx with h | ⟨y,hy,_,_,hyc⟩
    ·simp at h
    ·rw [hyc]
     simp only [iY,List.mem_mapIdx] at hy
     obtain ⟨k,hk,rfl⟩:=hy
     exact hcl _ (List.getElem_mem hk)
   have HRD2:=aA hrd
   clear hrd hx1 hx2 hmem hb1 hb2 hbw HQ hcl hlen hrun hmQ HRD hl
   generalize QV.length=qn at *
   go_wp2_with (first
    | (go_at_call 20;refine (aB CS).mono ?_)
    | go_in)
   rintro e w3 ⟨sb,hp,rfl,hst⟩
   have HM3:=aA (show Mv mU w1.heap.size w2 w3 by
    obtain ⟨_,_,_,_,_,h3⟩:=hst
    exact h3.mono (by decide) (Nat.le_refl _))
   have CR:=aA (aW0 w1.heap.size sb hp l (yB (Q out)) w3 (HRUN.out sb hp w3 hst) hl2)
   clear hst HRUN CS
   go_wp2_with (first
    | (go_at_call 22;refine (aB CR).mono ?_)
    | go_in)
   rintro e w4 ⟨vd,v4,vs4,vk4,L4,n4,T4,ks4,b4,rfl,hS4,hq4,hT4,hm4⟩
   have HM4:=aA (HM3.out.trans hm4)
   have CA:=aA (aW2 w1.heap.size sb hp v4 vs4 vk4 L4 n4 vd T4 ks4 b4 w4 hS4 hq4.2 (by omega))
   unfold sU at CA
   have HQ4:=aA hq4
   clear hS4 hq4 hT4 hm4 CR HM3
   go_wp2_with (first
    | (go_at_call 21;refine (aB CA).mono ?_)
    | go_in)
   rintro e w5 ⟨xa,xn,xc,ka,kn,kc,used,rfl,hA5,hb5⟩
   have hM5:Mv mU w1.heap.size w2 w5:=HM4.out.trans (Mv.of_below hb5)
   have hx5:A5 w5 w.heap.size (.int .i64 0) (.slice none 0 0) (.slice none 0 0) (.int .i64 0) (.bool false):=hM5.cells HX2.out (by decide)
   have hb6:Below w.heap.size w w5:=HBW.out.trans ((hM5.below hz2).mono (by omega))
   obtain ⟨q0,q1,q2,q3,q4⟩:=hx5.cells
   have qz:=hx5.frz
   obtain ⟨hp5,hg5⟩:=hx5.put (.int .i64 vd) (.slice xa xn xc) (.slice ka kn kc) (.int .i64 used) (.bool b4)
   obtain ⟨t0,t1,t2,t3,t4⟩:=hp5.cells
   have HF:Hid (sW s l Q w (.returned (.tuple #[sU vd (.slice xa xn xc) (.slice ka kn kc) used b4,.int .i64 0])) (lU w5 w.heap.size (.int .i64 vd) (.slice xa xn xc) (.slice ka kn kc) (.int .i64 used) (.bool b4))):=aA
    ⟨out,_,_,HRD2.out,sV hb6 hg5 (Nat.le_refl _),Or.inr (Or.inr ⟨rfl,by omega,by omega,vd,_,_,used,b4,T4,ks4,rfl,hA5.kept (by omega) (Mv.of_grown (S:=[33]) (B:=0) hg5 (fun k hk=>by cases hk;exact ⟨Nat.zero_le _,_,_,hx5,by simp⟩)).kps (by decide) (by decide) (by decide) (by decide),HQ4.out⟩)⟩
   clear hA5 hb5 hM5 hx5 hb6 hp5 hg5 CA HM4 HQ4 HRD2 HBW HX2
   go_wp2_with (fail)
   refine bodyPost_ret (v:=.tuple #[sU vd (.slice xa xn xc) (.slice ka kn kc) used b4,.int .i64 0]) (w:=lU w5 w.heap.size (.int .i64 vd) (.slice xa xn xc) (.slice ka kn kc) (.int .i64 used) (.bool b4)) (by simp [results,Tryz.results13,go_sem,t0,t1,t2,t3,t4,sU];try rfl) rfl ?_
   exact HF.out
  ·have hl3:lim < 1∨100 < lim:=by omega
   obtain ⟨q0,q1,q2,q3,q4⟩:=hx2.cells
   have qz:=hx2.frz
   obtain ⟨hp5,hg5⟩:=hx2.put (.int .i64 0) (.slice none 0 0) (.slice none 0 0) (.int .i64 0) (.bool false)
   obtain ⟨t0,t1,t2,t3,t4⟩:=hp5.cells
   have HF:Hid (sW s lim Q w (.returned (.tuple #[oG,.int .i64 7])) (lU w2 w.heap.size (.int .i64 0) (.slice none 0 0) (.slice none 0 0) (.int .i64 0) (.bool false))):=aA ⟨_,_,_,hrd,sV hbw hg5 (Nat.le_refl _),Or.inr (Or.inl ⟨rfl,hl,rfl⟩)⟩
   clear hrd hx1 hx2 hp5 hg5 hmem hb1 hb2 hbw HQ hcl hlen hrun HRD
   rcases hl3 with hl3 | hl3
   ·clear hl
    go_wp2_with (fail)
    refine bodyPost_ret (v:=.tuple #[oG,.int .i64 7]) (w:=lU w2 w.heap.size (.int .i64 0) (.slice none 0 0) (.slice none 0 0) (.int .i64 0) (.bool false)) (by simp [results,Tryz.results13,go_sem,t0,t1,t2,t3,t4,oG];try rfl) rfl ?_
    exact HF.out
   ·have hl4:decide (lim < 1)=false:=by simp;omega
    clear hl
    go_wp2_with (fail)
    refine bodyPost_ret (v:=.tuple #[oG,.int .i64 7]) (w:=lU w2 w.heap.size (.int .i64 0) (.slice none 0 0) (.slice none 0 0) (.int .i64 0) (.bool false)) (by simp [results,Tryz.results13,go_sem,t0,t1,t2,t3,t4,oG];try rfl) rfl ?_
    exact HF.out
 ·have he1:(er == 0)=false:=by simpa using he
  have he2:(er != 0)=true:=by simpa using he
  obtain ⟨q0,q1,q2,q3,q4⟩:=hx2.cells
  have qz:=hx2.frz
  obtain ⟨hp5,hg5⟩:=hx2.put (.int .i64 0) (.slice none 0 0) (.slice none 0 0) (.int .i64 0) (.bool false)
  obtain ⟨t0,t1,t2,t3,t4⟩:=hp5.cells
  have HF:Hid (sW s lim Q w (.returned (.tuple #[oG,.int .i64 er])) (lU w2 w.heap.size (.int .i64 0) (.slice none 0 0) (.slice none 0 0) (.int .i64 0) (.bool false))):=aA ⟨_,_,_,hrd,sV hbw hg5 (Nat.le_refl _),Or.inl ⟨he,rfl⟩⟩
  clear hrd hx1 hx2 hp5 hg5 hmem hb1 hb2 hbw HQ
  go_wp2_with (fail)
  refine bodyPost_ret (v:=.tuple #[oG,.int .i64 er]) (w:=lU w2 w.heap.size (.int .i64 0) (.slice none 0 0) (.slice none 0 0) (.int .i64 0) (.bool false)) (by simp [results,Tryz.results13,go_sem,t0,t1,t2,t3,t4,oG];try rfl) rfl ?_
  exact HF.out
theorem aIk (s:ByteArray) (lim:Int) (Q:List (List Lt)→Nat→List (aG×Value)→List Nat→Bool→Prop) (w:World) (hs0:s.size≤140737488355328) (hQ:∀out at',nY s out at' 0→(∀c∈out,bG c=true)∧out.length≤1000∧∀l:Nat,lim=l→1≤l→l≤100→∀L n,bR (iY out) [] 0 false L n false→cW l (Q out) L n [] [] false) :
  Calls Tryz.prog 7 #[.string s,.int .i64 lim] w fun e w'=>sW s lim Q w e w':=by
 obtain ⟨w1,hw1,hb1,hx1,hs1⟩ : ∃w1,w.alloc (.cells #[.int .i64 0,.slice none 0 0,.slice none 0 0,.int .i64 0,.bool false] 33)=w1∧Below w.heap.size w w1∧A5 w1 w.heap.size (.int .i64 0) (.slice none 0 0) (.slice none 0 0) (.int .i64 0) (.bool false)∧w1.heap.size=w.heap.size+1:=⟨_,rfl,(Below.refl _ w).alloc (Nat.le_refl _) _,World.alloc_heap_new w _,by simp⟩
 have CS:=aA (aW3 s lim Q w1 hs0 hQ)
 clear hQ
 go_enter Tryz.func7,Tryz.ntmps7
 go_upto_region 1 with (fail)
 clear hw1
 go_wp2_with (first
  | (go_at_call 13;refine (aB CS).mono ?_)
  | go_in)
 clear CS
 rintro e w2 ⟨out,at1,er,hrd,hb2,h⟩
 have hx2:A5 w2 w.heap.size (.int .i64 0) (.slice none 0 0) (.slice none 0 0) (.int .i64 0) (.bool false):=(hb2.block _ (by omega)).trans hx1
 have hbw:Below w.heap.size w w2:=hb1.trans (hb2.mono (by omega))
 obtain ⟨y0,xa,xn,xc,ka,kn,kc,y3,y4,ec,rfl,hF⟩ : ∃(y0:Int) (xa:Option Addr) (xn xc:Nat) (ka:Option Addr) (kn kc:Nat) (y3:Int) (y4:Bool) (ec:Int),e=.returned (.tuple #[.agg #[.int .i64 y0,.slice xa xn xc,.slice ka kn kc,.int .i64 y3,.bool y4],.int .i64 ec])∧sW s lim Q w (.returned (.tuple #[.agg #[.int .i64 y0,.slice xa xn xc,.slice ka kn kc,.int .i64 y3,.bool y4],.int .i64 ec])) (lU w2 w.heap.size (.int .i64 y0) (.slice xa xn xc) (.slice ka kn kc) (.int .i64 y3) (.bool y4)):=by
  rcases h with ⟨h1,rfl⟩ | ⟨h1,h2,rfl⟩ | ⟨h1,h2,h3,vd,vs,vk,used,b,T,ks,rfl,h4,h5⟩
  ·obtain ⟨hp5,hg5⟩:=hx2.put (.int .i64 0) (.slice none 0 0) (.slice none 0 0) (.int .i64 0) (.bool false)
   exact ⟨_,_,_,_,_,_,_,_,_,_,rfl,out,at1,er,hrd,sV hbw hg5 (Nat.le_refl _),Or.inl ⟨h1,rfl⟩⟩
  ·obtain ⟨hp5,hg5⟩:=hx2.put (.int .i64 0) (.slice none 0 0) (.slice none 0 0) (.int .i64 0) (.bool false)
   exact ⟨_,_,_,_,_,_,_,_,_,_,rfl,out,at1,er,hrd,sV hbw hg5 (Nat.le_refl _),Or.inr (Or.inl ⟨h1,h2,rfl⟩)⟩
  ·obtain ⟨va,vc,rfl⟩:=aR h4.st.row
   obtain ⟨ka,kn,kc,rfl⟩ : ∃ka kn kc,vk=.slice ka kn kc:=by
    rcases h4.kp with ⟨_,hk⟩ | ⟨_,hk⟩
    ·obtain ⟨ka,kc,rfl⟩:=aR hk
     exact ⟨_,_,_,rfl⟩
    ·exact ⟨_,_,_,hk⟩
   obtain ⟨hp5,hg5⟩:=hx2.put (.int .i64 vd) (.slice va T.length vc) (.slice ka kn kc) (.int .i64 used) (.bool b)
   exact ⟨_,_,_,_,_,_,_,_,_,_,rfl,out,at1,er,hrd,sV hbw hg5 (Nat.le_refl _),Or.inr (Or.inr ⟨h1,h2,h3,vd,_,_,used,b,T,ks,rfl,h4.kept (by omega) (Mv.of_grown (S:=[33]) (B:=0) hg5 (fun k hk=>by cases hk;exact ⟨Nat.zero_le _,_,_,hx2,by simp⟩)).kps (by decide) (by decide) (by decide) (by decide),h5⟩)⟩
 obtain ⟨q0,q1,q2,q3,q4⟩:=hx2.cells
 have qz:=hx2.frz
 obtain ⟨hp5,hg5⟩:=hx2.put (.int .i64 y0) (.slice xa xn xc) (.slice ka kn kc) (.int .i64 y3) (.bool y4)
 obtain ⟨t0,t1,t2,t3,t4⟩:=hp5.cells
 have HF:=aA hF
 clear hF hrd h hx1 hx2 hbw hb1 hb2 hp5 hg5
 go_wp2_with (fail)
 refine bodyPost_ret (v:=.tuple #[.agg #[.int .i64 y0,.slice xa xn xc,.slice ka kn kc,.int .i64 y3,.bool y4],.int .i64 ec]) (w:=lU w2 w.heap.size (.int .i64 y0) (.slice xa xn xc) (.slice ka kn kc) (.int .i64 y3) (.bool y4)) (by simp [results,Tryz.results7,go_sem,t0,t1,t2,t3,t4];try rfl) rfl ?_
 exact HF.out
end Go.Proofs.YtbddofieljiihaaGreatDoor
