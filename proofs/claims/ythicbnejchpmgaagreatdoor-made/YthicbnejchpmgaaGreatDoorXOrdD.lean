/- A region that draws its order, whose stores come last: a load may be taken first if the store that hits its cell waits for it. The program: variables are freed. The program: how many literals one can be made, and which can be made the fewest. The program: the literal that can be made the fewest. The program: does a free variable stand in both literals? The program: does a free variable stand in both literals? (the call) Lists of literals that the matcher makes. -/
import Derived.Deep.RegionHeld
import Derived.Test.YthicbnejchpmgaaGreatDoorPClauseD
import Derived.Deep.RegionWith
import Derived.ArgAppend
namespace Go.Proofs.YthicbnejchpmgaaGreatDoor
open Go
section
variable {P:Program} {ops:Array Oper} {Q:Exit→Act→World→Prop} {md:Region.Mode} {k:Nat} {C D:World→Prop}
def jB (k:Nat) (C D:World→Prop) (L:Array Bool) (w:World):Prop:=(L.getD k true=false→C w)∧D w
def lV (P:Program) (md:Region.Mode) (ops:Array Oper) (Q:Exit→Act→World→Prop) (k:Nat) (C D:World→Prop):Nat→Array Bool→Act→World→Prop
 | 0,listed,a,w=>Region.ready md ops listed=[]∧Q .normal a w
 | fuel+1,listed,a,w=>
  (Region.ready md ops listed=[]→Q .normal a w)∧
  ∀i∈Region.ready md ops listed,wpOp P ops Q i (fun a' w'=>jB k C D (listed.setIfInBounds i true) w'∧lV P md ops Q k C D fuel (listed.setIfInBounds i true) a' w') a w
theorem aId:∀(fuel:Nat) (listed:Array Bool) (a:Act) (w:World),lV P md ops Q k C D fuel listed a w→wpAny P md ops Q fuel listed a w
 | 0,_,_,_,h=>h
 | fuel+1,_,_,_,h=>⟨h.1,fun i hi=>wpOp_mono (fun a' w' h'=>aId fuel _ a' w' h'.2) (h.2 i hi)⟩
theorem jB.set {L:Array Bool} {w:World} (i:Nat) (h:jB k C D L w):jB k C D (L.setIfInBounds i true) w:=by
 refine ⟨fun hk=>h.1 ?_,h.2⟩
 by_cases e:i=k
 ·subst e
  rcases Nat.lt_or_ge i L.size with h' | h'
  ·simp [h'] at hk
  ·simp [h'] at hk
 ·rwa [getD_set_ne true e] at hk
theorem jB.unset {L:Array Bool} {w:World} {i:Nat} (hi:i≠k) (h:jB k C D (L.setIfInBounds i true) w):jB k C D L w:=
 ⟨fun hk=>h.1 (by rwa [getD_set_ne true hi]),h.2⟩
def sA (md:Region.Mode) (ops:Array Oper) (k i:Nat):Bool:=match ops[k]? with
 | none=>false
 | some o=>o.after.any fun e=>Region.binds md e && e.on == i
theorem aUl {i:Nat} (h:sA md ops k i=true):∃o e,ops[k]?=some o∧e∈o.after∧Region.binds md e=true∧e.on=i:=by
 unfold sA at h
 split at h
 ·cases h
 ·rename_i o ho
  simp only [Array.any_eq_true',Bool.and_eq_true,beq_iff_eq] at h
  obtain ⟨e,he,hb,hi⟩:=h
  exact ⟨o,e,ho,he,hb,hi⟩
theorem aIe {i:Nat} {oi:Oper} {v:Value} {S0:World→Prop} (hi:ops[i]?=some oi) (hik:i≠k) (hsel:∀(j:Nat) (o:Oper) cs b,ops[j]?=some o→o.op≠.select cs b)
  (hQ:∀c a w,Q (.panic c) (a.put oi.dst v) w→Q (.panic c) a w) (hS0:(∀w,D w→S0 w)∨((∀w,C w→D w→S0 w)∧sA md ops k i=true)) :
  ∀(fuel:Nat) (listed:Array Bool) (a:Act) (w:World),
   (∀j oj,ops[j]?=some oj→j≠i→listed.getD j true=false→(∀e∈oj.after,Region.binds md e=true→e.on≠i)→oi.apart ops oj=true)→
   i∈Region.ready md ops listed→YieldsIf P ops S0 oi v a→jB k C D listed w→(sA md ops k i=true→listed.getD k true=false)→
   lV P md ops Q k C D fuel (listed.setIfInBounds i true) (a.put oi.dst v) w→lV P md ops Q k C D (fuel+1) listed a w:=by
 have hat:∀(L:Array Bool) (w:World),jB k C D L w→(sA md ops k i=true→L.getD k true=false)→S0 w:=fun L w hT hw=>by
  rcases hS0 with h | ⟨h,h'⟩
  ·exact h w hT.2
  ·exact h w (hT.1 (hw h')) hT.2
 intro fuel
 induction fuel with
 | zero=>
  intro listed a w _ hr hy hT hk H
  refine ⟨fun h=>(by rw [h] at hr;cases hr),fun j hj=>?_⟩
  by_cases hji:j=i
  ·subst hji;exact hy.wpOp hi (hat _ _ hT hk) ⟨hT.set _,H⟩
  ·have:=ready_mono hj hji
   rw [H.1] at this
   cases this
 | succ fuel ih=>
  intro listed a w hfree hr hy hT hk H
  refine ⟨fun h=>(by rw [h] at hr;cases hr),fun j hj=>?_⟩
  by_cases hji:j=i
  ·subst hji;exact hy.wpOp hi (hat _ _ hT hk) ⟨hT.set _,H⟩
  ·have h1:=H.2 j (ready_mono hj hji)
   obtain ⟨hjun,oj,hoj,hall⟩:=mem_ready.1 hj
   have hnot:∀e∈oj.after,Region.binds md e=true→e.on≠i:=fun e he hb heq=>by
    have h1:=hall e he hb
    have h0:=(mem_ready.1 hr).1
    rw [heq] at h1
    rcases Nat.lt_or_ge i listed.size with h' | h'
    ·simp [h'] at h0 h1;rw [h0] at h1;cases h1
    ·simp [Array.getElem?_eq_none h'] at h1
   have h2:=wpOp_putIf hoj (hfree j oj hoj hji hjun hnot) (fun cs b=>hsel i oi cs b hi) (fun cs b=>hsel j oj cs b hoj) hQ hy h1
   have hfree':∀k ok,ops[k]?=some ok→k≠i→(listed.setIfInBounds j true).getD k true=false→
     (∀e∈ok.after,Region.binds md e=true→e.on≠i)→oi.apart ops ok=true:=fun k ok hk hki hun hno=>by
    refine hfree k ok hk hki ?_ hno
    by_cases hjk:j=k
    ·subst hjk;exact hjun
    ·rw [getD_set_ne true hjk] at hun;exact hun
   have hk':sA md ops k i=true→(listed.setIfInBounds j true).getD k true=false:=fun hw=>by
    obtain ⟨o,e,ho,he,hb,hon⟩:=aUl hw
    have hjk:j≠k:=fun hjk=>by
     subst hjk
     rw [hoj] at ho
     cases ho
     exact hnot e he hb hon
    rw [getD_set_ne true hjk]
    exact hk hw
   refine wpOp_mono (fun a' w' h3=>?_) h2
   have hT':jB k C D (listed.setIfInBounds j true) w':=by
    have:=h3.2.1
    rw [Array.setIfInBounds_comm _ _ (Ne.symm hji)] at this
    exact this.unset hik
   refine ⟨hT',ih (listed.setIfInBounds j true) a' w' hfree' (ready_mono hr (Ne.symm hji)) h3.1 hT' hk' ?_⟩
   rw [Array.setIfInBounds_comm _ _ hji]
   exact h3.2.2
theorem aC3 {i:Nat} {oi:Oper} {d:Option Tmp} {v:Value} {fuel:Nat} {listed:Array Bool} {a:Act} {w:World} (hi:ops[i]?=some oi) (hd:oi.dst=d) (hw:(sA md ops k i && (i != k) && !(listed.getD k true))=true)
  (hs:Region.noSelect ops=true) (hf:Region.free md ops listed i=true) (hr:(Region.ready md ops listed).contains i=true)
  (hQ:∀c a w,Q (.panic c) (a.put d v) w→Q (.panic c) a w) (hy:YieldsIf P ops (fun w=>C w∧D w) oi v a) (hT:jB k C D listed w)
  (h:jB k C D (listed.setIfInBounds i true) w→lV P md ops Q k C D fuel (listed.setIfInBounds i true) (a.put d v) w):lV P md ops Q k C D (fuel+1) listed a w:=by
 subst hd
 simp only [Bool.and_eq_true,bne_iff_ne,ne_eq,Bool.not_eq_true'] at hw
 exact aIe hi hw.1.2 (Region.noSelect_spec hs) hQ (Or.inr ⟨fun w h1 h2=>⟨h1,h2⟩,hw.1.1⟩) fuel listed a w (Region.free_spec hi hf) (by simpa using hr) hy hT (fun _=>hw.2) (h (hT.set _))
theorem pT {i:Nat} {oi:Oper} {d:Option Tmp} {v:Value} {fuel:Nat} {listed:Array Bool} {a:Act} {w:World} (hi:ops[i]?=some oi) (hd:oi.dst=d) (hw:((i != k) && !(listed.getD k true))=true)
  (hs:Region.noSelect ops=true) (hf:Region.free md ops listed i=true) (hr:(Region.ready md ops listed).contains i=true)
  (hQ:∀c a w,Q (.panic c) (a.put d v) w→Q (.panic c) a w) (hy:YieldsIf P ops D oi v a) (hT:jB k C D listed w)
  (h:jB k C D (listed.setIfInBounds i true) w→lV P md ops Q k C D fuel (listed.setIfInBounds i true) (a.put d v) w):lV P md ops Q k C D (fuel+1) listed a w:=by
 subst hd
 simp only [Bool.and_eq_true,bne_iff_ne,ne_eq,Bool.not_eq_true'] at hw
 exact aIe hi hw.1 (Region.noSelect_spec hs) hQ (Or.inl (fun _ h=>h)) fuel listed a w (Region.free_spec hi hf) (by simpa using hr) hy hT (fun _=>hw.2) (h (hT.set _))
def bI (P:Program) (md:Region.Mode) (ops:Array Oper) (Q:Exit→Act→World→Prop) (k:Nat) (C D:World→Prop) (fuel:Nat) (listed:Array Bool) (a:Act) (w:World) (rs:List Nat):Prop:=
 ∀i∈rs,wpOp P ops Q i (fun a' w'=>jB k C D (listed.setIfInBounds i true) w'∧lV P md ops Q k C D fuel (listed.setIfInBounds i true) a' w') a w
theorem bI.nil {fuel:Nat} {listed:Array Bool} {a:Act} {w:World}:bI P md ops Q k C D fuel listed a w []:=fun _ h=>by cases h
theorem bI.cons {fuel:Nat} {listed:Array Bool} {a:Act} {w:World} {i:Nat} {o:Oper} {rs:List Nat} (ho:ops[i]?=some o)
  (h:∀K':Act→World→Prop,Shut (∀a w,jB k C D (listed.setIfInBounds i true) w→lV P md ops Q k C D fuel (listed.setIfInBounds i true) a w→K' a w)→if Region.wanted o (yielded ops a.tmps)=true then Oper.wp P o a w K' Q else K' (a.put o.dst undef) w)
  (hs:bI P md ops Q k C D fuel listed a w rs):bI P md ops Q k C D fuel listed a w (i :: rs):=fun j hj=>by
 rcases List.mem_cons.1 hj with rfl | hj
 ·exact wpOp_step ho (fun K' hK=>h K' (fun a w hS hW=>hK a w ⟨hS,hW⟩))
 ·exact hs j hj
theorem eM {rs:List Nat} {fuel:Nat} {listed:Array Bool} {a:Act} {w:World} (hr:Region.ready md ops listed=rs) (hne:rs≠[])
 (h:bI P md ops Q k C D fuel listed a w rs):lV P md ops Q k C D (fuel+1) listed a w:=⟨fun h0=>absurd (hr▸h0) hne,hr▸h⟩
theorem aC4 {listed:Array Bool} {a:Act} {w:World} (hr:Region.ready md ops listed=[]) (h:Q .normal a w):∀fuel,lV P md ops Q k C D fuel listed a w
 | 0=>⟨hr,h⟩
 | _+1=>⟨fun _=>h,by rw [hr];simp⟩
theorem aUm {id:Nat} {a:Act} {w:World} (k:Nat) (C D:World→Prop) (hm:P.follows .mixedOrders=true) (hC:C w.drew) (hD:D w.drew)
  (h:jB k C D (Array.replicate ops.size false) w.drew→lV P .any ops Q k C D ops.size (Array.replicate ops.size false) a w.drew):(Code.region id ops true).wp P Q a w:=
 wp_region_any hm (aId _ _ _ _ (h ⟨fun _=>hC,hD⟩))
end
end Go.Proofs.YthicbnejchpmgaaGreatDoor
namespace Go.Proofs.YthicbnejchpmgaaGreatDoor
open Go.RowKit Go.Shelf
set_option maxRecDepth 100000
theorem aUn {w:World} {B:Nat} {e:TypeId} {g cap n m:Nat} {xs:List Value} (h:w.ownsRow B e 1 (.slice (some ⟨g,0,none⟩) n cap) n xs) (hm:m≤n):w.ownsRow B e 1 (.slice (some ⟨g,0,none⟩) m cap) m (xs.take m):=by
 obtain ⟨h1,⟨h,_⟩ | ⟨g',cap',cur,hv,hb,hh,hc,hx,hz,ht⟩⟩:=h
 ·simp at h
 ·obtain ⟨rfl,rfl⟩ : g=g'∧cap=cap':=by simpa using hv
  refine ⟨by simp;omega,Or.inr ⟨g,cap,cur,rfl,hb,hh,by omega,hx,hz,?_⟩⟩
  rw [←ht,List.take_take]
  congr 1
  omega
structure sB (w wr:World) (B g:Nat) (dv bv:Value) (M:aW):Prop where
 blk:mF wr g
 fr:Fr B w wr
 rest:∀k,k≠g→wr.heap[k]?=w.heap[k]?
 among:wr.cell? ⟨g,0,none⟩=some dv
 term:∀x:Nat,x < 60→wr.cell? ⟨g,1+x,none⟩=if (x:Int)∈M.map Prod.fst then some (.slice none 0 0) else w.cell? ⟨g,1+x,none⟩
 bound:wr.cell? ⟨g,61,none⟩=some bv
theorem sB.start {w:World} {B g:Nat} {dv bv:Value} {L:aW} (h:bN w B g dv L) (hb:w.cell? ⟨g,61,none⟩=some bv):sB w w B g dv bv []:=
 ⟨h.blk,Fr.refl _ _,fun _ _=>rfl,h.among,fun x _=>by simp,hb⟩
theorem sB.step {w wr:World} {B g m:Nat} {dv bv:Value} {M:aW} {p:Int×List Nd} (h:sB w wr B g dv bv M) (hB:B≤g) (hm:m < 60) (hp:p.1=(m:Int)) (hc:∃u,wr.cell? ⟨g,1+m,none⟩=some u):sB w (wr.setCell ⟨g,1+m,none⟩ (.slice none 0 0)) B g dv bv (M++[p]):=by
 obtain ⟨u,hu⟩:=hc
 refine ⟨h.blk.set _ _,h.fr.trans (Fr.setB hB h.blk _ _),fun k hk=>by rw [heap_setCell_other _ _ _ _ (by simpa using hk)];exact h.rest k hk,?_,fun x hx=>?_,?_⟩
 ·rw [World.cell?_setCell_other wr _ _ _ (by first | (simp;done) | (simp;omega))];exact h.among
 ·by_cases hxm:x=m
  ·subst hxm
   rw [World.cell?_setCell_same wr _ _ hu,if_pos (by simp [hp])]
  ·rw [World.cell?_setCell_other wr _ _ _ (by first | (simp;done) | (simp;omega)),h.term x hx]
   have:((x:Int)∈(M++[p]).map Prod.fst)↔((x:Int)∈M.map Prod.fst):=by
    rw [List.map_append,List.mem_append]
    simp [hp]
    omega
   simp only [this]
 ·rw [World.cell?_setCell_other wr _ _ _ (by first | (simp;done) | (simp;omega))];exact h.bound
set_option maxHeartbeats 1000000 in
theorem aC5 (B g:Nat) (dv:Value) (L M:aW) (w:World) (hM:bN w B g dv (L++M)) :
  Calls Tryz.prog 127 #[.pointer (some ⟨g,0,none⟩),.int .i64 (L.length:Nat)] w fun e w'=>e=.returned (.tuple #[])∧bN w' B g dv L∧Fr B w w':=by
 obtain ⟨bv,hbv,ho⟩:=hM.bound
 have hlen:=hM.ok.few
 simp only [List.length_append] at hlen
 have hfz:=fun j=>hM.frozen j
 have hlow:=hM.low
 have hap:=hM.apart ho
 have HM:=aA hM
 have ho':=ho
 obtain ⟨_,⟨rfl,h0⟩ | ⟨gb,cap,cur,rfl,hbb,hh,hc,hx,hz,ht⟩⟩:=ho'
 ·have hL:L=[]∧M=[]:=by
   simp only [List.length_append] at h0
   exact ⟨List.eq_nil_of_length_eq_zero (by omega),List.eq_nil_of_length_eq_zero (by omega)⟩
  obtain ⟨rfl,rfl⟩:=hL
  have hf:=hfz 61
  have R:=aA (bN.less (M:=[]) hM hM.blk (Fr.refl _ _) hM.among (fun x _=>by simp) (by rw [hbv];rfl) (bv':=.slice none 0 0) (World.ownsRow_nil _ _ _ _))
  clear hM ho hap
  go_enter Tryz.func127,Tryz.ntmps127
  go_wp2
  go_loopw [13] (fun i wr=>i=.int .i64 0∧wr=w) (fun _ _=>0)
  case atStart=>exact ⟨rfl,rfl⟩
  case round=>
   obtain ⟨rfl,rfl⟩:=hrel
   go_wp2
   go_end0
   exact ⟨rfl,R.out⟩
 ·simp only [List.length_append] at hc ht hbv ho hap hz
  have hcell:∀k,k < M.length→∃m:Nat,m < 60∧(M[k]?).map Prod.fst=some (m:Int)∧w.cell? ⟨gb,L.length+k,none⟩=some (.int .i64 (m:Int)):=by
   intro k hk
   have hkk:=HM.out.ok.keys M[k] (List.mem_append_right _ (List.getElem_mem _))
   refine ⟨M[k].1.toNat,by omega,by simp [hk];omega,?_⟩
   have:=World.ownsRow.cellAt ho (L.length+k) (by omega)
   rw [this]
   rw [List.map_append,List.getElem?_append_right (by simp)]
   simp [hk]
   omega
  have hgg:gb≠g:=by
   intro e
   exact hap (by simp [Value.ownBlock,e])
  have hfr:=aUn ho (m:=L.length) (by omega)
  rw [List.map_append,List.take_left' (by simp)] at hfr
  have HO:=aA hfr
  have HC:=aA hcell
  have hi1:(0:Int)≤(L.length:Int):=by omega
  have hi2:(L.length:Int)≤((L.length+M.length:Nat):Int):=by omega
  have hi3:(L.length:Int)≤(cap:Int):=by omega
  have hi4:(L.length:Int)≤(L.length:Int)+(M.length:Int):=by omega
  clear hM ho hfr hh hz ht hap hcell
  by_cases hce:cap=L.length
  ·have hM0:M=[]:=List.eq_nil_of_length_eq_zero (by omega)
   subst hM0
   subst hce
   have hf:=hfz 61
   have R:=aA (bN.less (M:=[]) HM.out HM.out.blk (Fr.refl _ _) HM.out.among (fun x _=>by simp) (by rw [hbv];rfl) HO.out)
   simp only [List.length_nil,Nat.add_zero] at hbv
   clear hc HC hi2 hi4 hlen
   go_enter Tryz.func127,Tryz.ntmps127
   go_wp2
   go_loopw [13] (fun i wr=>i=.int .i64 0∧wr=w) (fun _ _=>0)
   case atStart=>exact ⟨rfl,rfl⟩
   case round=>
    obtain ⟨rfl,rfl⟩:=hrel
    go_wp2
    go_end0
    exact ⟨rfl,R.out⟩
  ·go_enter Tryz.func127,Tryz.ntmps127
   go_wp2
   have HFS:=aA (sB.start HM.out hbv)
   go_loopw [13] (fun i wr=>∃k:Nat,k≤M.length∧i=.int .i64 k∧sB w wr B g dv (.slice (some ⟨gb,0,none⟩) (L.length+M.length) cap) (M.take k)) (fun i _=>M.length - (intOf i).toNat)
   case atStart=>exact ⟨0,Nat.zero_le _,rfl,HFS.out⟩
   case round=>
    obtain ⟨k,hk,rfl,hF⟩:=hrel
    by_cases hlt:k < M.length
    ·obtain ⟨m,hm,hmk,hcl⟩:=HC.out k hlt
     have hcl2:wr.cell? ⟨gb,L.length+k,none⟩=some (.int .i64 (m:Int)):=by rw [World.cell?_of_block (hF.rest gb hgg)];exact hcl
     have hct:∃u,wr.cell? ⟨g,1+m,none⟩=some u:=by
      rw [hF.term m hm]
      obtain ⟨v,hv,_⟩:=HM.out.term m hm
      split
      ·exact ⟨_,rfl⟩
      ·exact ⟨v,hv⟩
     have hfw:wr.frozen? ⟨g,1+m,none⟩=false:=by
      obtain ⟨cs,hb⟩:=hF.blk
      simp [World.frozen?,hb]
     have HN:=aA (hF.step hlow hm (p:=M[k]) (by simpa [hlt] using hmk) hct)
     obtain ⟨u,hu⟩:=hct
     clear hcl hF hmk
     go_wp2
     go_roundw
     case rel=>exact ⟨k+1,by omega,by go_num,by rw [List.take_succ_eq_append_getElem hlt];exact HN.out⟩
     case measure=>simp [intOf];omega
    ·have hkM:M.take k=M:=List.take_of_length_le (by omega)
     rw [hkM] at hF
     have hbw:=hF.bound
     have hfw:wr.frozen? ⟨g,61,none⟩=false:=by
      obtain ⟨cs,hb⟩:=hF.blk
      simp [World.frozen?,hb]
     have how:wr.ownsRow B 3 1 (.slice (some ⟨gb,0,none⟩) L.length cap) L.length (L.map fun p=>.int .i64 p.1):=by
      obtain ⟨h1,⟨h,_⟩ | ⟨g',cap',cur',hv,hb',hh',hr'⟩⟩:=HO.out
      ·simp at h
      ·obtain ⟨rfl,rfl⟩ : gb=g'∧cap=cap':=by simpa using hv
       exact ⟨h1,Or.inr ⟨gb,cap,cur',rfl,hb',by rw [hF.rest gb hgg];exact hh',hr'⟩⟩
     have R:=aA (bN.less HM.out hF.blk hF.fr hF.among hF.term (by rw [hbw];rfl) how)
     clear hF hkM how
     go_wp2
     go_end0
     exact ⟨rfl,R.out⟩
def kW (c:List Lt):Prop:=∀l∈c,aI l.2 1=true∧l.2.length≤60
theorem bN.len {w:World} {B g:Nat} {dv:Value} {L:aW} (h:bN w B g dv L):∃a cap,w.cell? ⟨g,61,none⟩=some (.slice a L.length cap):=by
 obtain ⟨bv,hb,ho⟩:=h.bound
 obtain ⟨a,cap,rfl⟩:=aR ho
 exact ⟨a,cap,hb⟩
theorem sC (w:World) (x y:Value) (T:TypeId):(w.alloc (.cells #[x,y] T)).cell? ⟨w.heap.size,0,none⟩=some x∧(w.alloc (.cells #[x,y] T)).cell? ⟨w.heap.size,1,none⟩=some y:=by simp
set_option maxHeartbeats 1000000 in
theorem aUo (B g:Nat) (da:Option Addr) (dcap:Nat) (d:List Lt) (L:aW) (w:World) (xb:Bool) (xa:Option Addr) (xc:Nat) (xl:List Nd) (hM:bN w B g (.slice da d.length dcap) L) (hD:cK w B da d) (hX:eX w B xa xl) (tx:aI xl 1=true) (x60:xl.length≤60) (hd:kW d) :
  Calls Tryz.prog 140 #[.pointer (some ⟨g,0,none⟩),.agg #[.bool xb,.slice xa xl.length xc]] w fun e w'=>∃r:Nat,e=.returned (.int .i64 r)∧r≤8∧bN w' B g (.slice da d.length dcap) L∧Fr B w w':=by
 have hb0:Below w.heap.size w (w.alloc (.cells #[.bool xb,.slice xa xl.length xc] 66)):=(Below.refl _ _).alloc (Nat.le_refl _) _
 have hM1:=hM.below hb0
 have hD1:=hD.fr (Fr.of_below hb0)
 have hX1:=hX.fr (Fr.of_below hb0)
 have hS:=wS (w:=w) (B:=B) #[.bool xb,.slice xa xl.length xc] 66 (by decide) (by decide)
 have hbx:=sC w (.bool xb) (.slice xa xl.length xc) 66
 have hd8:=hD.few
 have HF0:Hid (Fr B w (w.alloc (.cells #[.bool xb,.slice xa xl.length xc] 66))):=aA (Fr.of_below hb0)
 have ham:=hM1.among
 have HM1:=aA hM1
 have HD1:=aA hD1
 have HX1:=aA hX1
 have HS:=aA hS
 have HBX:=aA hbx
 have HD:=aA hd
 clear hM hD hX hb0 hM1 hD1 hX1 hS hbx hd
 go_enter Tryz.func140,Tryz.ntmps140
 go_wp2
 generalize hW:w.alloc (.cells #[.bool xb,.slice xa xl.length xc] 66)=W at *
 clear hW
 go_loopw [5,14] (fun c i wr=>∃k n:Nat,k≤d.length∧n≤k∧i=.int .i64 k∧c=.int .i64 n∧bN wr B g (.slice da d.length dcap) L∧Fr B W wr) (fun _ i _=>d.length - (intOf i).toNat)
 case atStart=>exact ⟨0,0,Nat.zero_le _,Nat.zero_le _,rfl,rfl,HM1.out,Fr.refl _ _⟩
 case round=>
  obtain ⟨k,n,hk,hn,rfl,rfl,hM,hF⟩:=hrel
  by_cases hlt:k < d.length
  ·obtain ⟨b,o,ya,yc,rfl,hs,e1,f1,hyc,hY⟩:=(HD1.out.fr hF).cell k hlt
   obtain ⟨hty,hy60⟩:=HD.out d[k] (List.getElem_mem _)
   obtain ⟨ba,bcap,hbl⟩:=hM.len
   have hlb:(L.length:Int)≤60:=by have:=hM.ok.few;omega
   have hx0:=hF.cell HBX.out.1 HS.out
   have hx1:=hF.cell HBX.out.2 HS.out
   generalize d[k]=y at *
   obtain ⟨yb,yl⟩:=y
   simp only at e1 f1 hty hy60 hY hyc
   have hb2:Below wr.heap.size wr (wr.alloc (.cells #[.bool yb,.slice ya yl.length yc] 66)):=(Below.refl _ _).alloc (Nat.le_refl _) _
   have CM:=aA (zZ B g _ L (wr.alloc (.cells #[.bool yb,.slice ya yl.length yc] 66)) xb yb xa ya xc yc xl yl (hM.below hb2) (HX1.out.fr (hF.trans (Fr.of_below hb2))) (hY.fr (Fr.of_below hb2)) hyc tx hty x60 hy60)
   have HF2:=aA (hF.trans (Fr.of_below hb2))
   have hbl2:=Below.at' hb2 (Nat.le_refl _) hbl
   have hx02:=Below.at' hb2 (Nat.le_refl _) hx0
   have hx12:=Below.at' hb2 (Nat.le_refl _) hx1
   clear hb2 hM hF hY hs hyc hty hy60
   go_wp2_with (first
    | (go_at_call 126;refine (aB CM).mono ?_;rintro e w1 ⟨r,L',rfl,hm1,hf1,⟨M,rfl⟩,-,-⟩;have CF:=aA (aC5 B g _ L M w1 hm1);have HF3:=aA (HF2.out.trans hf1);clear hm1 hf1)
    | (go_at_call 127;refine (aB CF).mono ?_;rintro e w2 ⟨rfl,hm2,hf2⟩;have HM2:=aA hm2;have HF4:=aA (HF3.out.trans hf2);clear hm2 hf2))
   ·go_roundw
    case rel=>exact ⟨k+1,n+1,by omega,by omega,by go_num,by go_num,HM2.out,HF4.out⟩
    case measure=>simp [intOf];omega
   ·go_roundw
    case rel=>exact ⟨k+1,n,by omega,by omega,by go_num,rfl,HM2.out,HF4.out⟩
    case measure=>simp [intOf];omega
  ·have HM:=aA hM
   have HF:=aA hF
   clear hM hF
   go_wp2
   go_ret
   exact ⟨n,rfl,by omega,HM.out,HF0.out.trans HF.out⟩
set_option maxHeartbeats 1000000 in
theorem aUp (B g:Nat) (da:Option Addr) (dcap:Nat) (d:List Lt) (L:aW) (w:World) (ca:Option Addr) (ccap:Nat) (c:List Lt) (hM:bN w B g (.slice da d.length dcap) L) (hD:cK w B da d) (hC:cK w B ca c) (hd:kW d) (hc:kW c) (h0:0 < c.length) :
  Calls Tryz.prog 124 #[.pointer (some ⟨g,0,none⟩),.slice ca c.length ccap] w fun e w'=>∃r:Nat,e=.returned (.int .i64 r)∧r < c.length∧bN w' B g (.slice da d.length dcap) L∧Fr B w w':=by
 have ham:=hM.among
 have hd8:=hD.few
 have hc8:=hC.few
 have HM:=aA hM
 have HD:=aA hD
 have HC:=aA hC
 have HFD:=aA hd
 have HFC:=aA hc
 clear hM hD hC hd hc
 go_enter Tryz.func124,Tryz.ntmps124
 go_wp2_with fail
 go_quiet (fail)
 go_wp2
 go_loopw [5,6,18] (fun b f i wr=>∃k m n:Nat,k≤c.length∧m < c.length∧n≤9∧i=.int .i64 k∧b=.int .i64 m∧f=.int .i64 n∧bN wr B g (.slice da d.length dcap) L∧Fr B w wr) (fun _ _ i _=>c.length - (intOf i).toNat)
 case atStart=>exact ⟨0,0,d.length+1,Nat.zero_le _,h0,by omega,rfl,rfl,by go_num,HM.out.drawn (by first | exact kG _ _ _ | exact ⟨_,rfl⟩),(Fr.refl _ _).drawn (by first | exact kG _ _ _ | exact ⟨_,rfl⟩)⟩
 case round=>
  obtain ⟨k,m,n,hk,hm,hn,rfl,rfl,rfl,hM,hF⟩:=hrel
  by_cases hlt:k < c.length
  ·obtain ⟨b,o,ya,yc,rfl,hs,e1,f1,hyc,hY⟩:=(HC.out.fr hF).cell k hlt
   obtain ⟨hty,hy60⟩:=HFC.out c[k] (List.getElem_mem _)
   generalize c[k]=y at *
   obtain ⟨yb,yl⟩:=y
   simp only at e1 f1 hty hy60 hY hyc
   have hb2:Below wr.heap.size wr (wr.alloc (.cells #[.bool yb,.slice ya yl.length yc] 66)):=(Below.refl _ _).alloc (Nat.le_refl _) _
   have CW:=aA (aUo B g da dcap d L (wr.alloc (.cells #[.bool yb,.slice ya yl.length yc] 66)) yb ya yc yl (hM.below hb2) (HD.out.fr (hF.trans (Fr.of_below hb2))) (hY.fr (Fr.of_below hb2)) hty hy60 HFD.out)
   have HF2:=aA (hF.trans (Fr.of_below hb2))
   clear hb2 hM hF hY hs hyc hty hy60
   go_wp2_with (first
    | (go_at_call 140;refine (aB CW).mono ?_;rintro e w1 ⟨r,rfl,hr8,hm1,hf1⟩;have HM1:=aA hm1;have HF3:=aA (HF2.out.trans hf1);clear hm1 hf1))
   ·go_roundw
    case rel=>exact ⟨k+1,k,r,by omega,hlt,by omega,by go_num,rfl,rfl,HM1.out,HF3.out⟩
    case measure=>simp [intOf];omega
   ·go_roundw
    case rel=>exact ⟨k+1,m,n,by omega,hm,by omega,by go_num,rfl,rfl,HM1.out,HF3.out⟩
    case measure=>simp [intOf];omega
  ·have HM1:=aA hM
   have HF1:=aA hF
   clear hM hF
   go_wp2
   go_ret
   exact ⟨m,rfl,hm,HM1.out,HF1.out⟩
def lW (n:Nd) (l:List Nd):Bool:=l.any fun m=>decide (n=m)
theorem aIf (n:Nd) (l:List Nd):lW n l=true↔n∈l:=by
 simp only [lW,List.any_eq_true,decide_eq_true_eq]
 constructor
 ·rintro ⟨m,h,rfl⟩;exact h
 ·intro h;exact ⟨n,h,rfl⟩
theorem aUq (n:Nd) (l:List Nd) (k:Nat) (h:k < l.length):lW n (l.take (k+1))=(lW n (l.take k) || decide (n=l[k])):=by
 rw [List.take_succ_eq_append_getElem h,lW,lW,List.any_append];simp
theorem aUr {n:Nd} {l:List Nd} {k:Nat} (h:lW n (l.take k)=true):lW n l=true:=by
 rw [aIf] at h ⊢
 exact List.mem_of_mem_take h
set_option maxHeartbeats 1000000 in
theorem aUs (a:Option Addr) (cp:Nat) (l:List Nd) (s:ByteArray) (x:Int) (w:World) (h:bQ w a l) :
  Calls Tryz.prog 147 #[.slice a l.length cp,.agg #[.string s,.int .i64 x]] w fun e w'=>∃r:Int,e=.returned (.int .i64 r)∧decide (0≤r)=lW (s,x) l∧Below w.heap.size w w':=by
 have hfew:=h.few
 have hb0:Below w.heap.size w (w.alloc (.cells #[.string s,.int .i64 x] 28)):=(Below.refl _ _).alloc (Nat.le_refl _) _
 have hbx:=sC w (.string s) (.int .i64 x) 28
 have h1:=h.below hb0 (Nat.le_refl _)
 have HB0:=aA hb0
 have HBX:=aA hbx
 have H1:=aA h1
 clear h hb0 hbx h1
 go_enter Tryz.func147,Tryz.ntmps147
 go_wp2
 generalize hW:w.alloc (.cells #[.string s,.int .i64 x] 28)=W at *
 clear hW
 go_loopw [8] (fun i wr=>∃k:Nat,k≤l.length∧i=.int .i64 k∧(∃n,wr=W.drewN n)∧lW (s,x) (l.take k)=false) (fun i _=>l.length - (intOf i).toNat)
 case atStart=>exact ⟨0,Nat.zero_le _,rfl,⟨0,rfl⟩,rfl⟩
 case round=>
  obtain ⟨k,hk,rfl,⟨n,rfl⟩,ht⟩:=hrel
  by_cases hlt:k < l.length
  ·obtain ⟨b,o,rfl,e1,f1⟩:=H1.out.cell k hlt
   have hx0:=HBX.out.1
   have hx1:=HBX.out.2
   have hb:=qV (s,x) l[k]
   simp only at hb
   have g:=qU
   have q:=qW s l[k].1 x l[k].2
   have hmt:=aUq (s,x) l k hlt
   rw [ht,Bool.false_or] at hmt
   have HT:=aA ht
   clear ht
   by_cases he:(s,x)=l[k]
   ·rw [decide_eq_true he] at hb hmt
    have HM:=aA (aUr hmt)
    clear he hmt
    go_wp2
    go_quiet (fail)
    go_wp2
    go_ret
    refine ⟨_,rfl,?_,HB0.out.trans ((aN (by first | exact kG _ _ _ | exact ⟨_,rfl⟩)).mono HB0.out.size)⟩
    rw [HM.out]
    simp
   ·rw [decide_eq_false he] at hb hmt
    have HM:=aA hmt
    clear he hmt
    go_wp2
    go_quiet (fail)
    go_wp2
    go_roundw
    case rel=>exact ⟨k+1,by omega,by go_num,(by first | exact kG _ _ _ | exact ⟨_,rfl⟩),HM.out⟩
    case measure=>simp [intOf];omega
  ·have hk1:l.take k=l:=List.take_of_length_le (by omega)
   rw [hk1] at ht
   have HT:=aA ht
   clear hk1 ht
   go_wp2
   go_ret
   exact ⟨_,rfl,by rw [HT.out];rfl,HB0.out.trans ((aN (by first | exact kG _ _ _ | exact ⟨_,rfl⟩)).mono HB0.out.size)⟩
theorem aUt (a:Option Addr) (cp:Nat) (l:List Nd) (s:ByteArray) (x:Int) (w:World) (h:bQ w a l) :
  Calls Tryz.prog 139 #[.slice a l.length cp,.agg #[.string s,.int .i64 x]] w fun e w'=>e=.returned (.bool (lW (s,x) l))∧Below w.heap.size w w':=by
 have hb0:Below w.heap.size w (w.alloc (.cells #[.string s,.int .i64 x] 28)):=(Below.refl _ _).alloc (Nat.le_refl _) _
 have CI:=aA (aUs a cp l s x _ (h.below hb0 (Nat.le_refl _)))
 have HB0:=aA hb0
 clear hb0 h
 go_enter Tryz.func139,Tryz.ntmps139
 go_wp2_with (go_at_call 147;refine (aB CI).mono ?_;rintro e w1 ⟨r,rfl,hr,hb1⟩;have HR:=aA hr;have HB1:=aA (HB0.out.trans (hb1.mono (by simp)));clear hr hb1)
 go_ret
 exact ⟨cS (by first | exact HR.out | simpa using HR.out),HB1.out⟩
def eD (L:aW) (yl:List Nd) (n:Nd):Bool:=aG n && (look L n.2).isNone && lW n yl
theorem aIg (w:World) (a:Option Addr) (l c:Nat):(binOp .eql 22 (.slice a l c) (.slice none 0 0)).run Tryz.prog w=.ok (.bool a.isNone) w:=by
 simp only [binOp]
 simp [run_equal_slice_nil w 22 28 a l c Tryz.underlying22]
theorem sD {W X w1:World} (hX:∃n,X=W.drewN n) (h:Below X.heap.size X w1):Below W.heap.size W w1:=by
 obtain ⟨n,rfl⟩:=hX
 exact (aN ⟨n,rfl⟩).trans h
set_option maxHeartbeats 1000000 in
theorem aUu (B g mb bb:Nat) (dv:Value) (L:aW) (ya:Option Addr) (yc:Nat) (yl:List Nd) (s:ByteArray) (x:Int) (w:World) (hM:bN w B g dv L) (hY:eX w B ya yl) (hm:w.cell? ⟨mb,0,none⟩=some (.pointer (some ⟨g,0,none⟩))) (hb:w.cell? ⟨bb,1,none⟩=some (.slice ya yl.length yc)) (hok:dH (s,x)=true) :
  Calls Tryz.prog 138 #[.agg #[.string s,.int .i64 x],.pointer (some ⟨mb,0,none⟩),.pointer (some ⟨bb,0,none⟩)] w fun e w'=>e=.returned (.bool (eD L yl (s,x)))∧Below w.heap.size w w':=by
 have hb0:Below w.heap.size w (w.alloc (.cells #[.string s,.int .i64 x] 28)):=(Below.refl _ _).alloc (Nat.le_refl _) _
 have hbx:=sC w (.string s) (.int .i64 x) 28
 have hm1:=Below.at' hb0 (Nat.le_refl _) hm
 have hb1:=Below.at' hb0 (Nat.le_refl _) hb
 have CV:=aA (fun wx=>nK s x wx)
 by_cases hv:s.toList.isEmpty=true
 ·rw [hv] at CV
  have hx:=aEs hok hv
  obtain ⟨hx0,hx1⟩:=hx
  simp only at hx0 hx1
  obtain ⟨m,rfl⟩:=Int.eq_ofNat_of_zero_le hx0
  obtain ⟨v,hvc,hT⟩:=(hM.below hb0).term m (by omega)
  have CC:=aA (fun wx (hw:bQ wx ya yl)=>aUt ya yc yl s (m:Int) wx hw)
  have HB0:=aA hb0
  have HY:=aA (hY.fr (Fr.of_below hb0)).nodes
  obtain ⟨hbx0,hbx1⟩:=hbx
  cases hl:look L (m:Int) with
  | none=>
   rw [hl] at hT
   obtain rfl:v=.slice none 0 0:=hT
   have qn:=fun wx=>aIg wx none 0 0
   have HE:=aA (show eD L yl (s,(m:Int))=lW (s,(m:Int)) yl by simp [eD,aG,hv,hl])
   clear hM hY hm hb hb0 hok hv hl
   go_enter Tryz.func138,Tryz.ntmps138
   go_wp2_with fail
   generalize hW:w.alloc (.cells #[.string s,.int .i64 (m:Int)] 28)=W at *
   clear hW
   go_region_held3 (fun w'=>w'.cell? ⟨w.heap.size,0,none⟩=some (.string s)∧w'.cell? ⟨w.heap.size,1,none⟩=some (.int .i64 (m:Int))∧w'.cell? ⟨mb,0,none⟩=some (.pointer (some ⟨g,0,none⟩))∧w'.cell? ⟨bb,1,none⟩=some (.slice ya yl.length yc)∧w'.cell? ⟨g,1+m,none⟩=some (.slice none 0 0)) (go_keep)
    (first
     | (go_at_call 44;refine (aB CV _).mono ?_;rintro e w1 ⟨rfl,hd1⟩;replace hd1:=sD (W:=W) (by first | exact ⟨0,rfl⟩ | exact ⟨1,rfl⟩ | exact ⟨_,rfl⟩) hd1;have c0:=Below.at' hd1 (Nat.le_refl _) hbx0;have c1:=Below.at' hd1 (Nat.le_refl _) hbx1;have c2:=Below.at' hd1 (Nat.le_refl _) hm1;have c3:=Below.at' hd1 (Nat.le_refl _) hb1;have c4:=Below.at' hd1 (Nat.le_refl _) hvc;have HD1:=aA hd1;clear hd1)
     | (go_at_call 139;refine (aB CC _ (HY.out.below HD1.out (Nat.le_refl _))).mono ?_;rintro e w2 ⟨rfl,hd2⟩;have k0:=Below.at' hd2 (Nat.le_refl _) c0;have k1:=Below.at' hd2 (Nat.le_refl _) c1;have k2:=Below.at' hd2 (Nat.le_refl _) c2;have k3:=Below.at' hd2 (Nat.le_refl _) c3;have k4:=Below.at' hd2 (Nat.le_refl _) c4;have HD2:=aA (HD1.out.trans (hd2.mono HD1.out.size));clear hd2))
   go_wp2
   go_ret
   exact ⟨cS HE.out.symm,HB0.out.trans (HD2.out.mono HB0.out.size)⟩
  | some t=>
   rw [hl] at hT
   obtain ⟨ta,tc,rfl,-⟩:=hT
   have qn:=fun wx=>aIg wx (some ta) t.length tc
   have HE:=aA (show eD L yl (s,(m:Int))=false by simp [eD,hl])
   clear hM hY hm hb hb0 hok hv hl CC
   go_enter Tryz.func138,Tryz.ntmps138
   go_wp2_with fail
   generalize hW:w.alloc (.cells #[.string s,.int .i64 (m:Int)] 28)=W at *
   clear hW
   first | go_region_with (go_at_call 44;refine (aB CV _).mono ?_;rintro e w1 ⟨rfl,hd1⟩;replace hd1:=sD (W:=W) (by first | exact ⟨0,rfl⟩ | exact ⟨1,rfl⟩ | exact ⟨_,rfl⟩) hd1;have c0:=Below.at' hd1 (Nat.le_refl _) hbx0;have c1:=Below.at' hd1 (Nat.le_refl _) hbx1;have c2:=Below.at' hd1 (Nat.le_refl _) hm1;have c3:=Below.at' hd1 (Nat.le_refl _) hb1;have c4:=Below.at' hd1 (Nat.le_refl _) hvc;have HD1:=aA hd1;clear hd1) | fail
   all_goals
    go_wp2
    go_ret
    exact ⟨cS HE.out.symm,HB0.out.trans (HD1.out.mono HB0.out.size)⟩
 ·have hv':s.toList.isEmpty=false:=by simpa using hv
  rw [hv'] at CV
  have HE:=aA (show eD L yl (s,x)=false by simp [eD,aG,hv'])
  have HB0:=aA hb0
  obtain ⟨hbx0,hbx1⟩:=hbx
  clear hM hY hm hb hb0 hok hv hv'
  go_enter Tryz.func138,Tryz.ntmps138
  go_wp2_with fail
  generalize hW:w.alloc (.cells #[.string s,.int .i64 x] 28)=W at *
  clear hW
  first | go_region_with (go_at_call 44;refine (aB CV _).mono ?_;rintro e w1 ⟨rfl,hd1⟩;replace hd1:=sD (W:=W) (by first | exact ⟨0,rfl⟩ | exact ⟨1,rfl⟩ | exact ⟨_,rfl⟩) hd1;have c0:=Below.at' hd1 (Nat.le_refl _) hbx0;have c1:=Below.at' hd1 (Nat.le_refl _) hbx1;have c2:=Below.at' hd1 (Nat.le_refl _) hm1;have c3:=Below.at' hd1 (Nat.le_refl _) hb1;have HD1:=aA hd1;clear hd1) | fail
  all_goals
   go_wp2
   go_ret
   exact ⟨cS HE.out.symm,HB0.out.trans (HD1.out.mono HB0.out.size)⟩
theorem aUv {f:Nd→Bool} (l:List Nd) (k:Nat) (h:k < l.length):(l.take (k+1)).any f=((l.take k).any f || f l[k]):=by
 rw [List.take_succ_eq_append_getElem h,List.any_append];simp
theorem aUw {f:Nd→Bool} {l:List Nd} {k:Nat} (h:(l.take k).any f=true):l.any f=true:=by
 rw [List.any_eq_true] at h ⊢
 obtain ⟨x,hx,hf⟩:=h
 exact ⟨x,List.mem_of_mem_take hx,hf⟩
set_option maxHeartbeats 1000000 in
theorem aUx (a:Option Addr) (cap p1 p2:Nat) (f:Nd→Bool) (l:List Nd) (w:World) (h:bQ w a l)
  (hc:∀n∈l,∀wx,Below w.heap.size w wx→Calls Tryz.prog 138 #[.agg #[.string n.1,.int .i64 n.2],.pointer (some ⟨p1,0,none⟩),.pointer (some ⟨p2,0,none⟩)] wx fun e w'=>e=.returned (.bool (f n))∧Below wx.heap.size wx w') :
  Calls Tryz.prog 146 #[.slice a l.length cap,.func (Fn.func 138) #[] #[.pointer (some ⟨p1,0,none⟩),.pointer (some ⟨p2,0,none⟩)]] w fun e w'=>∃r:Int,e=.returned (.int .i64 r)∧decide (0≤r)=l.any f∧Below w.heap.size w w':=by
 have hfew:=h.few
 have HC:=aA hc
 clear hc
 go_enter Tryz.func146,Tryz.ntmps146
 go_wp2
 go_loopw [8] (fun i wr=>∃k:Nat,k≤l.length∧i=.int .i64 k∧(l.take k).any f=false∧Below w.heap.size w wr) (fun i _=>l.length - (intOf i).toNat)
 case atStart=>exact ⟨0,Nat.zero_le _,rfl,rfl,Below.refl _ _⟩
 case round=>
  obtain ⟨k,hk,rfl,hm,hb⟩:=hrel
  by_cases hlt:k < l.length
  ·obtain ⟨b,o,rfl,e1,f1⟩:=h.cell k hlt
   have e2:=Below.at' hb (Nat.le_refl _) e1
   have f2:=Below.at' hb (Nat.le_refl _) f1
   have hmt:=aUv (f:=f) l k hlt
   rw [hm,Bool.false_or] at hmt
   have hmx:=aUw (f:=f) (l:=l) (k:=k+1)
   rw [hmt] at hmx
   have CL:=aA (HC.out l[k] (List.getElem_mem _) wr hb)
   generalize l[k]=nd at *
   obtain ⟨s,x⟩:=nd
   simp only at e2 f2
   have HMT:=aA hmt
   have HMX:=aA hmx
   have HB:=aA hb
   have hbs:=hb.size
   clear hmt hmx hb hm e1 f1
   cases hl:f (s,x)
   ·rw [hl] at CL HMT
    clear hl
    go_wp2_with (go_at_call 138;refine (aB CL).mono ?_;rintro e w1 ⟨rfl,hb1⟩;have HB1:=aA (HB.out.trans (hb1.mono hbs));clear hb1)
    go_roundw
    case rel=>exact ⟨k+1,by omega,by go_num,HMT.out,HB1.out⟩
    case measure=>simp [intOf];omega
   ·rw [hl] at CL HMX
    clear hl
    go_wp2_with (go_at_call 138;refine (aB CL).mono ?_;rintro e w1 ⟨rfl,hb1⟩;have HB1:=aA (HB.out.trans (hb1.mono hbs));clear hb1)
    go_ret
    exact ⟨_,rfl,by rw [HMX.out (by first | rfl | trivial)];simp,HB1.out⟩
  ·have hk1:l.take k=l:=List.take_of_length_le (by omega)
   rw [hk1] at hm
   have HM:=aA hm
   have HB:=aA hb
   clear hk1 hb hm
   go_wp2
   go_ret
   exact ⟨_,rfl,by rw [HM.out];rfl,HB.out⟩
theorem aUy (a:Option Addr) (cap p1 p2:Nat) (f:Nd→Bool) (l:List Nd) (w:World) (h:bQ w a l)
  (hc:∀n∈l,∀wx,Below w.heap.size w wx→Calls Tryz.prog 138 #[.agg #[.string n.1,.int .i64 n.2],.pointer (some ⟨p1,0,none⟩),.pointer (some ⟨p2,0,none⟩)] wx fun e w'=>e=.returned (.bool (f n))∧Below wx.heap.size wx w') :
  Calls Tryz.prog 137 #[.slice a l.length cap,.func (Fn.func 138) #[] #[.pointer (some ⟨p1,0,none⟩),.pointer (some ⟨p2,0,none⟩)]] w fun e w'=>e=.returned (.bool (l.any f))∧Below w.heap.size w w':=by
 have CI:=aA (aUx a cap p1 p2 f l w h hc)
 clear hc h
 go_enter Tryz.func137,Tryz.ntmps137
 go_wp2_with (go_at_call 146;refine (aB CI).mono ?_;rintro e w1 ⟨r,rfl,hr,hb⟩;have HR:=aA hr;have HB:=aA hb;clear hr hb)
 go_ret
 exact ⟨cS (by first | exact HR.out | simpa using HR.out),HB.out⟩
theorem aUz (l:List Nd):∀q,aI l q=true→∀n∈l,dH n=true:=by
 induction l with
 | nil=>intro q _ n hn;simp at hn
 | cons m r ih=>
  intro q h n hn
  cases q with
  | zero=>simp [aI] at h
  | succ q=>
   rw [lJ,Bool.and_eq_true] at h
   rcases List.mem_cons.1 hn with rfl | hn
   ·exact h.1
   ·exact ih _ h.2 n hn
set_option maxHeartbeats 400000 in
theorem aV0 (B g:Nat) (dv:Value) (L:aW) (w:World) (xb yb:Bool) (xa ya:Option Addr) (xc yc:Nat) (xl yl:List Nd) (hM:bN w B g dv L) (hX:eX w B xa xl) (hY:eX w B ya yl) (tx:aI xl 1=true) :
  Calls Tryz.prog 123 #[.pointer (some ⟨g,0,none⟩),.agg #[.bool xb,.slice xa xl.length xc],.agg #[.bool yb,.slice ya yl.length yc]] w fun e w'=>e=.returned (.bool (xl.any (eD L yl)))∧Below w.heap.size w w':=by
 have hb0:Below w.heap.size w (((w.alloc (.cells #[.pointer (some ⟨g,0,none⟩)] 166)).alloc (.cells #[.bool xb,.slice xa xl.length xc] 66)).alloc (.cells #[.bool yb,.slice ya yl.length yc] 66)):=(((Below.refl _ _).alloc (Nat.le_refl _) _).alloc (by simp) _).alloc (by simp;omega) _
 have c1:(((w.alloc (.cells #[.pointer (some ⟨g,0,none⟩)] 166)).alloc (.cells #[.bool xb,.slice xa xl.length xc] 66)).alloc (.cells #[.bool yb,.slice ya yl.length yc] 66)).cell? ⟨w.heap.size,0,none⟩=some (.pointer (some ⟨g,0,none⟩)):=Below.at' ((Below.refl _ _).alloc (Nat.le_refl _) _) (Nat.le_refl _) (Below.at' ((Below.refl _ _).alloc (Nat.le_refl _) _) (Nat.le_refl _) (by simp))
 have c2:(((w.alloc (.cells #[.pointer (some ⟨g,0,none⟩)] 166)).alloc (.cells #[.bool xb,.slice xa xl.length xc] 66)).alloc (.cells #[.bool yb,.slice ya yl.length yc] 66)).cell? ⟨w.heap.size+2,1,none⟩=some (.slice ya yl.length yc):=by
  have:=(sC ((w.alloc (.cells #[.pointer (some ⟨g,0,none⟩)] 166)).alloc (.cells #[.bool xb,.slice xa xl.length xc] 66)) (.bool yb) (.slice ya yl.length yc) 66).2
  rwa [show ((w.alloc (.cells #[.pointer (some ⟨g,0,none⟩)] 166)).alloc (.cells #[.bool xb,.slice xa xl.length xc] 66)).heap.size=w.heap.size+2 by simp] at this
 have hok:=aUz xl 1 tx
 have CC:=aA (aUy xa xc w.heap.size (w.heap.size+2) (eD L yl) xl _ (hX.fr (Fr.of_below hb0)).nodes (fun n hn wx hbx=>aUu B g w.heap.size (w.heap.size+2) dv L ya yc yl n.1 n.2 wx ((hM.below hb0).below hbx) ((hY.fr (Fr.of_below hb0)).fr (Fr.of_below hbx)) (Below.at' hbx (Nat.le_refl _) c1) (Below.at' hbx (Nat.le_refl _) c2) (hok n hn)))
 have HB0:=aA hb0
 clear hb0 c1 c2 hok hM hX hY
 go_enter Tryz.func123,Tryz.ntmps123
 go_wp2_with (go_at_call 137;refine (aB CC).mono ?_;rintro e w1 ⟨rfl,hb1⟩;have HB1:=aA (HB0.out.trans (hb1.mono HB0.out.size));clear hb1)
 go_ret
 exact ⟨rfl,HB1.out⟩
theorem aV1 {L:aW} {x y:Lt} (h:x.2.any (eD L y.2)=false):∀n∈x.2,aG n=true→look L n.2=none→n∉y.2:=by
 intro n hn hv hl hm
 rw [List.any_eq_false] at h
 have:=h n hn
 simp [eD,hv,hl,(aIf n y.2).2 hm] at this
def oK (w:World) (B:Nat) (v:Value) (l:List Nd):Prop:=∃a cap,v=.slice a l.length cap∧l.length≤cap∧eX w B a l
def gQ (w:World) (B b0:Nat) (wr:World) (v:Value) (G:List Lt):Prop:=∃P:List (Lt×Value),P.map Prod.fst=G∧wr.ownsRow b0 66 2 v P.length (aU P)∧∀p∈P,oK w B p.2 p.1.2
theorem gQ.nil (w:World) (B b0:Nat) (wr:World):gQ w B b0 wr (.slice none 0 0) []:=⟨[],rfl,World.ownsRow_nil _ _ _ _,by simp⟩
theorem gQ.below {w wr wx:World} {B b0:Nat} {v:Value} {G:List Lt} (h:gQ w B b0 wr v G) (k:Below wr.heap.size wr wx):gQ w B b0 wx v G:=by
 obtain ⟨P,h1,h2,h3⟩:=h
 exact ⟨P,h1,aY h2 k (Nat.le_refl _),h3⟩
theorem gQ.kept {w wr wx:World} {B b0:Nat} {v:Value} {G:List Lt} {r:Option Nat} (h:gQ w B b0 wr v G) (k:wr.grownBy wx r) (hr:v.ownBlock=none∨v.ownBlock≠r):gQ w B b0 wx v G:=by
 obtain ⟨P,h1,h2,h3⟩:=h
 exact ⟨P,h1,h2.kept k hr,h3⟩
theorem gQ.lt {w wr:World} {B b0:Nat} {v:Value} {G:List Lt} (h:gQ w B b0 wr v G):∀k,v.ownBlock=some k→b0≤k∧k < wr.heap.size:=by
 obtain ⟨P,_,h2,_⟩:=h
 exact bU h2
theorem aV2 {w:World} {B B':Nat} {g n cap:Nat} {xs:List Value} (h:w.ownsRow B' 66 2 (.slice (some ⟨g,0,none⟩) n cap) n xs):kA w B g:=by
 obtain ⟨_,⟨h,_⟩ | ⟨g',cap',cur,hv,hb,hh,_⟩⟩:=h
 ·simp at h
 ·obtain ⟨rfl,-⟩ : g=g'∧cap=cap':=by simpa using hv
  refine Or.inr fun cs T fr hx=>?_
  rw [hh] at hx
  simp at hx
  rw [←hx.2.1]
  exact ⟨by decide,by decide⟩
theorem gQ.lits {w wr:World} {B b0:Nat} {v:Value} {G:List Lt} (h:gQ w B b0 wr v G) (k:Below w.heap.size w wr) (h8:G.length≤8):∃a cap,v=.slice a G.length cap∧G.length≤cap∧cK wr B a G∧∀p,a=some p→v.ownBlock=some p.block:=by
 obtain ⟨P,rfl,h2,h3⟩:=h
 have h2':=h2
 obtain ⟨_,⟨rfl,h0⟩ | ⟨g,cap,cur,rfl,hb,hh,hc,hm,hz,ht⟩⟩:=h2
 ·exact ⟨none,0,by simp [h0],by simp [h0],⟨h8,fun k hk=>by simp at hk;omega⟩,by simp⟩
 ·refine ⟨some ⟨g,0,none⟩,cap,by simp,by simpa using hc,⟨h8,fun j hj=>?_⟩,fun p hp=>by simp at hp;subst hp;rfl⟩
  have hj':j < P.length:=by simpa using hj
  obtain ⟨aa,ac,e1,e2,e3⟩:=h3 P[j] (List.getElem_mem _)
  refine ⟨g,0,aa,ac,rfl,aV2 h2',?_,?_,?_,?_⟩
  ·rw [Nat.zero_add,h2'.cellAt (j * 2) (by omega),(tP P j hj').1];simp
  ·rw [Nat.zero_add,h2'.cellAt (j * 2+1) (by omega),(tP P j hj').2,e1];simp
  ·simpa using e2
  ·have:=e3.fr (Fr.of_below k)
   simpa using this
def iA (w:World) (B b o:Nat) (c0:Lt) (wr:World) (v:Value) (gk:Option Nat) (G:List Lt):Prop:=
 (v=.slice (some ⟨b,o,none⟩) 1 1∧G=[c0]∧gk=none)∨(gQ w B w.heap.size wr v G∧gk=v.ownBlock∧0 < G.length)
theorem iA.below {w wr wx:World} {B b o:Nat} {c0:Lt} {v:Value} {gk:Option Nat} {G:List Lt} (h:iA w B b o c0 wr v gk G) (k:Below wr.heap.size wr wx):iA w B b o c0 wx v gk G:=by
 rcases h with h | ⟨h1,h2⟩
 ·exact Or.inl h
 ·exact Or.inr ⟨h1.below k,h2⟩
theorem iA.kept {w wr wx:World} {B b o:Nat} {c0:Lt} {v:Value} {gk r:Option Nat} {G:List Lt} (h:iA w B b o c0 wr v gk G) (k:wr.grownBy wx r) (hr:∀j,r=some j→gk≠some j):iA w B b o c0 wx v gk G:=by
 rcases h with h | ⟨h1,rfl,h3⟩
 ·exact Or.inl h
 ·refine Or.inr ⟨h1.kept k ?_,rfl,h3⟩
  cases hv:v.ownBlock with
  | none=>exact Or.inl rfl
  | some j=>
   right
   intro e
   exact hr j e.symm hv
theorem iA.lt {w wr:World} {B b o:Nat} {c0:Lt} {v:Value} {gk:Option Nat} {G:List Lt} (h:iA w B b o c0 wr v gk G):∀k,gk=some k→w.heap.size≤k∧k < wr.heap.size:=by
 rcases h with ⟨_,_,rfl⟩ | ⟨h1,rfl,_⟩
 ·intro k hk;simp at hk
 ·exact h1.lt
theorem iA.lits {w wr:World} {B b o:Nat} {c:List Lt} {v:Value} {gk:Option Nat} {G:List Lt} (h0:0 < c.length) (hC:cK w B (some ⟨b,o,none⟩) c) (h:iA w B b o c[0] wr v gk G) (k:Below w.heap.size w wr) (h8:G.length≤8):∃ga go cap,v=.slice (some ⟨ga,go,none⟩) G.length cap∧G.length≤cap∧cK wr B (some ⟨ga,go,none⟩) G:=by
 rcases h with ⟨rfl,rfl,rfl⟩ | ⟨h1,_,h3⟩
 ·refine ⟨b,o,1,rfl,Nat.le_refl _,⟨by simp,fun j hj=>?_⟩⟩
  have hj0:j=0:=by simpa using hj
  subst hj0
  obtain ⟨b',o',aa,ac,e,hs,h1,h2,h3,h4⟩:=(hC.fr (Fr.of_below k)).cell 0 h0
  obtain ⟨rfl,rfl⟩ : b=b'∧o=o':=by simpa using e
  exact ⟨b,o,aa,ac,rfl,hs,h1,h2,h3,h4⟩
 ·obtain ⟨a,cap,rfl,h4,h5,_⟩:=h1.lits k h8
  obtain ⟨b',o',_,_,rfl,_⟩:=h5.cell 0 h3
  exact ⟨b',o',cap,rfl,h4,h5⟩
theorem iA.more {w w1:World} {B b o:Nat} {c0:Lt} {v va:Value} {G:List Lt} {x:Lt} {P:List (Lt×Value)} (hP:P.map Prod.fst=G) (hA:∀p∈P,oK w B p.2 p.1.2) (hx:oK w B va x.2)
  (ho':w1.ownsRow w.heap.size 66 2 v (P.length+1) (aU P++[.bool x.1,va])):iA w B b o c0 w1 v v.ownBlock (G++[x]):=by
 refine Or.inr ⟨⟨P++[(x,va)],by simp [hP],by rw [vY,List.length_append];exact ho',fun p hp=>?_⟩,rfl,by simp⟩
 rcases List.mem_append.1 hp with hp | hp
 ·exact hA p hp
 ·simp at hp;subst hp;exact hx
theorem gQ.more {w w1:World} {B b0:Nat} {v va:Value} {G:List Lt} {x:Lt} {P:List (Lt×Value)} (hP:P.map Prod.fst=G) (hA:∀p∈P,oK w B p.2 p.1.2) (hx:oK w B va x.2)
  (ho':w1.ownsRow b0 66 2 v (P.length+1) (aU P++[.bool x.1,va])):gQ w B b0 w1 v (G++[x]):=by
 refine ⟨P++[(x,va)],by simp [hP],by rw [vY,List.length_append];exact ho',fun p hp=>?_⟩
 rcases List.mem_append.1 hp with hp | hp
 ·exact hA p hp
 ·simp at hp;subst hp;exact hx
structure jR (w wr:World) (B b o:Nat) (c0:Lt) (p:Lt→Bool) (gk:Option Nat) (G R:List Lt) (wi:World) (gv av:Value):Prop where
 grp:∃gk',iA w B b o c0 wi gv gk' (G++R.filter p)∧(∀k,av.ownBlock=some k→gk'≠some k)∧(gk'=gk∨∃k,gk'=some k∧wr.heap.size≤k)
 row:gQ w B wr.heap.size wi av (R.filter fun y=>!p y)
 rest:∀k,k < wr.heap.size→gk≠some k→wi.heap[k]?=wr.heap[k]?
 size:wr.heap.size≤wi.heap.size
 low:Below w.heap.size w wi
theorem jR.below {w wr wi wx:World} {B b o:Nat} {c0:Lt} {p:Lt→Bool} {gk:Option Nat} {G R:List Lt} {gv av:Value} (h:jR w wr B b o c0 p gk G R wi gv av) (k:Below wi.heap.size wi wx):jR w wr B b o c0 p gk G R wx gv av:=by
 obtain ⟨gk',h1,h2,h3⟩:=h.grp
 exact ⟨⟨gk',h1.below k,h2,h3⟩,h.row.below k,fun j hj hg=>by rw [k.block j (Nat.lt_of_lt_of_le hj h.size)];exact h.rest j hj hg,Nat.le_trans h.size k.size,h.low.trans (k.mono h.low.size)⟩
theorem jR.group {w wr wi w1:World} {B b o g' cap n:Nat} {c0 y:Lt} {p:Lt→Bool} {gk gk':Option Nat} {G R:List Lt} {gv av:Value} (h:jR w wr B b o c0 p gk G R wi gv av) (hy:p y=true)
  (h2:∀k,av.ownBlock=some k→gk'≠some k) (h3:gk'=gk∨∃k,gk'=some k∧wr.heap.size≤k)
  (hn:iA w B b o c0 w1 (.slice (some ⟨g',0,none⟩) n cap) (some g') (G++R.filter p++[y])) (hg:wi.grownBy w1 gk') (hat:gk'=some g'∨wi.heap.size≤g') (hlow:∀k,gk'=some k→w.heap.size≤k) :
  jR w wr B b o c0 p gk G (R++[y]) w1 (.slice (some ⟨g',0,none⟩) n cap) av:=by
 refine ⟨⟨some g',?_,fun k hk=>?_,?_⟩,?_,fun k hk hgk=>?_,Nat.le_trans h.size hg.size,h.low.grown hg h.low.size fun k e=>hlow k e⟩
 ·rw [List.filter_append,List.filter_cons_of_pos hy,List.filter_nil,←List.append_assoc];exact hn
 ·rcases hat with hat | hat
  ·rw [←hat];exact h2 k hk
  ·have:=(h.row.lt k hk).2
   simp
   omega
 ·rcases hat with hat | hat
  ·rw [←hat];exact h3
  ·exact Or.inr ⟨g',rfl,Nat.le_trans h.size hat⟩
 ·rw [List.filter_append,List.filter_cons_of_neg (by simp [hy]),List.filter_nil,List.append_nil]
  refine h.row.kept hg ?_
  cases hv:av.ownBlock with
  | none=>exact Or.inl rfl
  | some k=>exact Or.inr (fun e=>h2 k hv e.symm)
 ·rw [hg.block k (Nat.lt_of_lt_of_le hk h.size) (fun e=>?_)]
  ·exact h.rest k hk hgk
  ·rcases h3 with h3 | ⟨j,h3,hj⟩
   ·exact hgk (by rw [←h3];exact e.symm)
   ·rw [h3] at e;simp at e;omega
theorem jR.apart {w wr wi w1:World} {B b o g' cap n:Nat} {c0 y:Lt} {p:Lt→Bool} {gk:Option Nat} {G R:List Lt} {gv av:Value} (h:jR w wr B b o c0 p gk G R wi gv av) (hy:p y=false)
  (hn:gQ w B wr.heap.size w1 (.slice (some ⟨g',0,none⟩) n cap) ((R.filter fun y=>!p y)++[y])) (hg:wi.grownBy w1 av.ownBlock) (hat:av.ownBlock=some g'∨g'=wi.heap.size) (hw:w.heap.size≤wr.heap.size) :
  jR w wr B b o c0 p gk G (R++[y]) w1 gv (.slice (some ⟨g',0,none⟩) n cap):=by
 obtain ⟨gk',h1,h2,h3⟩:=h.grp
 refine ⟨⟨gk',?_,fun k hk=>?_,h3⟩,?_,fun k hk hgk=>?_,Nat.le_trans h.size hg.size,h.low.grown hg h.low.size fun k e=>Nat.le_trans hw (h.row.lt k e).1⟩
 ·rw [List.filter_append,List.filter_cons_of_neg (by simp [hy]),List.filter_nil,List.append_nil]
  exact h1.kept hg h2
 ·simp [Value.ownBlock] at hk
  subst hk
  rcases hat with hat | hat
  ·exact h2 _ hat
  ·intro e
   have:=(h1.lt _ e).2
   omega
 ·rw [List.filter_append,List.filter_cons_of_pos (by simp [hy]),List.filter_nil]
  exact hn
 ·rw [hg.block k (Nat.lt_of_lt_of_le hk h.size) (fun e=>?_)]
  ·exact h.rest k hk hgk
  ·have:=(h.row.lt k e.symm).1
   omega
theorem jR.start {w wr:World} {B b o:Nat} {c0:Lt} {p:Lt→Bool} {gk:Option Nat} {G:List Lt} {gv:Value} (h:iA w B b o c0 wr gv gk G) (hb:Below w.heap.size w wr):jR w wr B b o c0 p gk G [] wr gv (.slice none 0 0):=
 ⟨⟨gk,by simpa using h,by simp [Value.ownBlock],Or.inl rfl⟩,gQ.nil _ _ _ _,fun _ _ _=>rfl,Nat.le_refl _,hb⟩
theorem cK.move {wr wi:World} {B:Nat} {ra:Option Addr} {R:List Lt} {gk:Option Nat} (h:cK wr B ra R) (hr:∀k,k < wr.heap.size→gk≠some k→wi.heap[k]?=wr.heap[k]?) (hq:∀q,ra=some q→gk≠some q.block) (hg:∀k,gk=some k→B≤k):cK wi B ra R:=by
 refine ⟨h.few,fun k hk=>?_⟩
 obtain ⟨b,o,aa,cap,e,hs,h1,h2,h3,h4⟩:=h.cell k hk
 have hb:=hr b (World.block_lt_of_cell? wr _ h1) (hq _ e)
 refine ⟨b,o,aa,cap,e,?_,(World.cell?_of_block hb).trans h1,(World.cell?_of_block hb).trans h2,h3,⟨⟨h4.nodes.few,h4.nodes.short,fun j hj=>?_⟩,h4.low⟩⟩
 ·rcases hs with hs | hs
  ·exact Or.inl hs
  ·exact Or.inr fun cs T fr hx=>hs cs T fr (by rw [←hb];exact hx)
 ·obtain ⟨b2,o2,e2,h5,h6⟩:=h4.nodes.cell j hj
  have hl:=h4.low _ e2
  have hb2:=hr b2 (World.block_lt_of_cell? wr _ h5) (fun e=>by have:=hg _ e;simp at hl;omega)
  exact ⟨b2,o2,e2,(World.cell?_of_block hb2).trans h5,(World.cell?_of_block hb2).trans h6⟩
theorem cK.tail {w:World} {B b o:Nat} {c:List Lt} (h:cK w B (some ⟨b,o,none⟩) c):cK w B (some ⟨b,o+2,none⟩) c.tail:=by
 refine ⟨by have:=h.few;simp;omega,fun k hk=>?_⟩
 have hk':k+1 < c.length:=by simp at hk;omega
 obtain ⟨b',o',aa,cap,e,hs,h1,h2,h3,h4⟩:=h.cell (k+1) hk'
 obtain ⟨rfl,rfl⟩ : b=b'∧o=o':=by simpa using e
 have ht:c.tail[k]=c[k+1]:=by simp
 rw [ht]
 exact ⟨b,o+2,aa,cap,rfl,hs,by rw [show o+2+k * 2=o+(k+1) * 2 by omega];exact h1,by rw [show o+2+k * 2+1=o+(k+1) * 2+1 by omega];exact h2,h3,h4⟩
theorem aV3 {α:Type} (p:α→Bool) (G R c:List α) (h:∀l,l∈c↔l∈G∨l∈R):∀l,l∈c↔l∈G++R.filter p∨l∈R.filter fun y=>!p y:=by
 intro l
 rw [h l,List.mem_append,List.mem_filter,List.mem_filter]
 by_cases hp:p l=true
 ·simp [hp]
 ·simp [hp]
theorem aIh {α:Type} (p:α→Bool) (R:List α):(R.filter p).length+(R.filter fun y=>!p y).length=R.length:=by
 induction R with
 | nil=>rfl
 | cons x r ih=>
  by_cases hp:p x=true
  ·rw [List.filter_cons_of_pos hp,List.filter_cons_of_neg (by simp [hp])];simp;omega
  ·rw [List.filter_cons_of_neg hp,List.filter_cons_of_pos (by simp [hp])];simp;omega
end Go.Proofs.YthicbnejchpmgaaGreatDoor
