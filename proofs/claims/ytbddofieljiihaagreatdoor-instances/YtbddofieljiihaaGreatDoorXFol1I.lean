/- The program: all that follows from a clause and others, gone through by an iterator. -/
import Derived.Test.YtbddofieljiihaaGreatDoorXFacI
namespace Go.Proofs.YtbddofieljiihaaGreatDoor
open Go.RowKit Go.Shelf Go.WideMaps
set_option maxRecDepth 100000
attribute [local go_sem] Oper.semAt_some
noncomputable def jG (T:List (aG×Value)) (a:Nat) (os:List Nat):List (aG×Int):=qG (aK T a) a++os.flatMap fun b=>jF (aK T a) a (aK T b) b
def qH (B:Nat) (W:World) (bx:Nat) (x:aG) (ad:Option Addr) (cp:Nat):Prop:=W.heap[bx]?=some (.cells #[.int .i64 x.r,.int .i64 x.a,.int .i64 x.b,.int .i64 x.i,.int .i64 x.j,.slice ad x.c.length cp] 54 (0,0))∧bK B W (.slice ad x.c.length cp) x.c
theorem qH.kept {B:Nat} {W W':World} {bx:Nat} {x:aG} {ad:Option Addr} {cp:Nat} (h:qH B W bx x ad cp) (k:cG bM W W'):qH B W' bx x ad cp:=⟨k.kc _ _ _ h.1 (by decide),k.clause h.2 (by decide) (by decide)⟩
theorem qH.cells {B:Nat} {W:World} {bx:Nat} {x:aG} {ad:Option Addr} {cp:Nat} (h:qH B W bx x ad cp):W.cell? ⟨bx,0,none⟩=some (.int .i64 x.r)∧W.cell? ⟨bx,1,none⟩=some (.int .i64 x.a)∧W.cell? ⟨bx,2,none⟩=some (.int .i64 x.b)∧W.cell? ⟨bx,3,none⟩=some (.int .i64 x.i)∧W.cell? ⟨bx,4,none⟩=some (.int .i64 x.j)∧W.cell? ⟨bx,5,none⟩=some (.slice ad x.c.length cp):=by
 refine ⟨?_,?_,?_,?_,?_,?_⟩ <;> simp [World.cell?,h.1]
theorem aHg {ms:List Nat} {w3 X Y:World} {row:Option Nat} (hm3:∀D∈ms,w3.heap[D]?=some (.deferred (some []))) (hg:X.grownBy Y row) (hr:∀r,row=some r→w3.heap.size≤r∧∃o:Obj,X.heap[r]?=some o∧o.isCells=false) (h:∀D∈ms,X.heap[D]?=some (.deferred (some []))):∀D∈ms,Y.heap[D]?=some (.deferred (some [])):=fun D hD=>by
 refine (hg.block D (Array.getElem?_eq_some_iff.1 (h D hD)).1 (fun e=>?_)).trans (h D hD)
 have h1:=(hr D e.symm).1
 have h2:=(Array.getElem?_eq_some_iff.1 (hm3 D hD)).1
 omega
set_option maxHeartbeats 8000000 in
theorem aU6 (n bs ba bo B:Nat) (vs vo:Value) (T:List (aG×Value)) (a:Nat) (os:List Nat) (hn:6≤n) (hT:∀p∈T,jH p.1.c) (ha:a < T.length) (ho:∀b∈os,b < T.length) (hol:os.length≤1000000) (W:World) (hB:B≤W.heap.size) (hW:pE B W bs ba bo vs vo T a os) :
  rQ Fence.wide n Tryz.prog 91 #[.pointer (some ⟨bs,0,none⟩),.pointer (some ⟨ba,0,none⟩),.pointer (some ⟨bo,0,none⟩)] (rL B) bM (jG T a os) W:=by
 intro l J Jx hJ hJx hY h0
 have HY:=aA hY
 have HJ:=aA hJ
 have HT:=aA hT
 have HO:=aA ho
 clear hY hJ hT ho
 refine callsIn_of_wp_marks Tryz.func91 rfl trivial ?_ rfl
 simp only [Tryz.ntmps91,List.size_toArray,List.length_cons,List.length_nil,Nat.reduceAdd,Nat.reduceSub,Array.replicate_succ,Array.replicate_zero,List.push_toArray,List.append_toArray,List.nil_append,List.cons_append]
 obtain ⟨sa,sc,rfl⟩:=aR hW.st.row
 obtain ⟨oa,oc,rfl⟩:=aR hW.ot
 have e1:=hW.x1.cell
 have e2:=hW.x2.cell
 have e1a:=fun X=>Below.at' ((Below.refl W.heap.size W).alloc (Nat.le_refl _) X) (Nat.le_refl _) e1
 have e2a:=fun X=>Below.at' ((Below.refl W.heap.size W).alloc (Nat.le_refl _) X) (Nat.le_refl _) e2
 have HW:=aA hW
 clear hW e1 e2
 gi_wp2
 clear e1a e2a
 obtain ⟨W1,hW1,hb1,hy1,hs1⟩:=aBo W (.func (.yield l) #[] #[]) 139
 simp only [hW1] at *
 have hF1:=HW.out.kept (bO (S:=bM) hb1)
 refine ⟨trivial,fun _=>by omega,(callsIn_wide.2 (aU3 B _ T a _ hF1.st ha)).mono ?_⟩
 rintro e W3 ⟨bc,bf,v,rfl,hfac,hb3⟩
 have hbb:Below W.heap.size W W3:=hb1.trans (hb3.mono hb1.size)
 have hyb:Boxed W3 W.heap.size 139 (.func (.yield l) #[] #[]):=(bO (S:=bM) hb3).boxed hy1 (by decide)
 have hF3:=HW.out.kept (bO (S:=bM) hbb)
 have hJ3:=nM HJ.out h0 hbb
 clear hW1 hy1 hb1 hb3 h0 hF1
 gi_wp2
 have hna:jH (aK T a):=by rw [pD ha];exact HT.out _ (List.getElem_mem ha)
 refine xR rfl (by omega) (gf:=116) (lb:=#[.pointer (some ⟨bc,0,none⟩),.pointer (some ⟨bf,0,none⟩)]) rfl trivial (enters_of Tryz.func116 (by kernel_rfl) rfl)
  (Enc:=rL B) (S:=bM) (L:=qG (aK T a) a)
  (fun o o'=>aU1 (n - 1) bc bf B v (aK T a) a (by omega) hna _ (Nat.le_trans (Nat.le_trans hB hbb.size) (by simp;omega)) (hfac.kept (bO (((Below.refl _ W3).alloc (Nat.le_refl _) _).alloc (by simp) _))))
  (fun x args W h=>by obtain ⟨ad,cp,rfl,_⟩:=h;rfl)
  (fun k W'=>J k W'∧(pE B W' bs ba bo (.slice sa T.length sc) (.slice oa os.length oc) T a os∧Boxed W' W.heap.size 139 (.func (.yield l) #[] #[]))∧W3.heap.size≤W'.heap.size)
  (fun cd _ W'=>cd=.ret∧∃k,Jx k W') ?hI ?hIx ?h0
  (fun x a' W'=>∃bx ad cp,a' = {tmps:=#[.func (.yield l) #[] #[],.pointer (some ⟨bs,0,none⟩),.pointer (some ⟨ba,0,none⟩),.pointer (some ⟨bo,0,none⟩),.pointer (some ⟨W.heap.size,0,none⟩),.pointer (some ⟨bx,0,none⟩),.int .i64 x.2,undef,undef,undef,undef,.slice sa T.length sc,.int .i64 a,.func (.func 116) #[] #[.pointer (some ⟨bc,0,none⟩),.pointer (some ⟨bf,0,none⟩)],.agg #[.int .i64 x.1.r,.int .i64 x.1.a,.int .i64 x.1.b,.int .i64 x.1.i,.int .i64 x.1.j,.slice ad x.1.c.length cp],.int .i64 x.2,undef,undef,undef,undef,undef,undef,undef,undef,undef,undef,undef,undef,undef,undef,undef,undef,undef,undef,undef,undef,undef,undef,undef],defers:=[]}∧qH B W' bx x.1 ad cp) ?hAx ?assign ?body ?done ?stop
 case hI=>exact (qI HJ.out hbb.size).and ((rN (fun _ _ _ h k=>⟨h.1.kept k,k.boxed h.2 (by decide)⟩)).and (fun _ _ _ _ h hg _=>Nat.le_trans h hg.size))
 case hIx=>
  rintro cd s X Y row ⟨h1,k,h2⟩ hg hr
  exact ⟨h1,k,qI hJx hbb.size k X Y row h2 hg hr⟩
 case h0=>exact ⟨hJ3,⟨hF3,hyb⟩,Nat.le_refl _⟩
 case hAx=>
  intro x a'
  refine rN ?_
  rintro _ X Y ⟨bx,ad,cp,h1,h2⟩ k
  exact ⟨bx,ad,cp,h1,h2.kept k⟩
 case assign=>
  rintro l2 k x args Wr K hx ⟨hJk,⟨hF,hy⟩,hsz⟩ ⟨ad,cp,rfl,hcl⟩ hK
  have HC:=aA hcl
  clear hcl
  gi_wp2
  have hbA:Below Wr.heap.size Wr (Wr.alloc (.cells #[.int .i64 x.1.r,.int .i64 x.1.a,.int .i64 x.1.b,.int .i64 x.1.i,.int .i64 x.1.j,.slice ad x.1.c.length cp] 54)):=(Below.refl _ Wr).alloc (Nat.le_refl _) _
  exact hK _ _ (Mv.of_below (S:=[]) (B:=0) hbA).keepsFrom (bO hbA) ⟨nM HJ.out hJk hbA,⟨hF.kept (bO hbA),(bO (S:=bM) hbA).boxed hy (by decide)⟩,Nat.le_trans hsz hbA.size⟩ ⟨Wr.heap.size,ad,cp,rfl,World.alloc_heap_new Wr _,HC.out.below hbA⟩
 case body=>
  rintro l2 k x a' Wr hl2 hx ⟨hJk,⟨hF,hy⟩,hsz⟩ ⟨bx,ad,cp,rfl,hbx⟩
  obtain ⟨x0,x1,x2,x3,x4,x5⟩:=hbx.cells
  have z1:=hy.cell
  have hYY:=HY.out k x #[.agg #[.int .i64 x.1.r,.int .i64 x.1.a,.int .i64 x.1.b,.int .i64 x.1.i,.int .i64 x.1.j,.slice ad x.1.c.length cp],.int .i64 x.2] Wr (by unfold jG;rw [List.getElem?_append_left (List.getElem?_eq_some_iff.1 hx).1];exact hx) hJk ⟨ad,cp,rfl,hbx.2⟩
  obtain ⟨fn,tmps,assign,body,hyy,hR⟩:=hYY
  have HF:=aA hF
  have HYB:=aA hy
  have HSZ:=aA hsz
  clear hF hy hsz hbx hJk
  gi_wp2
  refine ⟨fun _=>by omega,(sQ hR).mono ?_⟩
  rintro e W4 (⟨rfl,hJ4,hk4⟩ | ⟨rfl,hJx4,hk4⟩)
  ·gi_wp2
   exact ⟨iQ hk4.2 hbb.size,hk4.1,hJ4,⟨HF.out.kept hk4.1,hk4.1.boxed HYB.out (by decide)⟩,Nat.le_trans HSZ.out hk4.1.size⟩
  ·gi_wp2
   exact ⟨iQ hk4 hbb.size,rfl,_,hJx4⟩
 case stop=>
  rintro cd k Wd ⟨rfl,k',hJd⟩ hK
  gi_wp2
  exact uY (N:=W.heap.size) (I:=fun W'=>∃k,Jx k W') rfl (fun _ X Y row ⟨k,h⟩ hg hr=>⟨k,hJx k X Y row h hg hr⟩) (fun v w h=>⟨⟨_,rfl⟩,.inr h⟩) [W3.heap.size] Wd ⟨k',hJd⟩ (fun D hD=>by simp at hD;subst hD;exact ⟨hbb.size,hK⟩) (by simp)
 case done=>
  rintro Wd ⟨hJd,⟨hFd,hyd⟩,hsd⟩ hK
  have z3:=hFd.x3.cell
  gi_wp2
  clear z3
  refine wpIn_loop (fun a' w'=>∃(t:Nat) (ms:List Nat) (u8 u24 u25 u26 u27 u28 u29 u30 u38:Value),a' = {tmps:=#[.func (.yield l) #[] #[],.pointer (some ⟨bs,0,none⟩),.pointer (some ⟨ba,0,none⟩),.pointer (some ⟨bo,0,none⟩),.pointer (some ⟨W.heap.size,0,none⟩),undef,undef,undef,u8,undef,undef,.slice sa T.length sc,.int .i64 a,.func (.func 116) #[] #[.pointer (some ⟨bc,0,none⟩),.pointer (some ⟨bf,0,none⟩)],undef,undef,undef,undef,undef,undef,undef,.slice oa os.length oc,.int .i64 os.length,.int .i64 t,u24,u25,u26,u27,u28,u29,u30,undef,undef,undef,undef,undef,undef,undef,u38],defers:=ms.map fun D=>{target:=.collected D,args:=#[]}}∧t≤os.length∧J (qG (aK T a) a++(os.take t).flatMap fun b=>jF (aK T a) a (aK T b) b).length w'∧
    (pE B w' bs ba bo (.slice sa T.length sc) (.slice oa os.length oc) T a os∧Boxed w' W.heap.size 139 (.func (.yield l) #[] #[]))∧W3.heap.size≤w'.heap.size∧(∀D∈ms,W.heap.size≤D∧w'.heap[D]?=some (.deferred (some [])))∧ms.Nodup)
   (fun a' _=>os.length - (intOf (a'.tmps.getD 23 undef)).toNat) ?start ?round
  case start=>exact ⟨0,[W3.heap.size],_,_,_,_,_,_,_,_,_,rfl,Nat.zero_le _,by simpa using hJd,⟨hFd,hyd⟩,hsd,fun D hD=>by simp at hD;subst hD;exact ⟨hbb.size,hK⟩,by simp⟩
  case round=>
   clear hJd hFd hyd hsd hK hF3 hJ3 hyb hfac
   rintro _ w' ⟨t,ms,u8,u24,u25,u26,u27,u28,u29,u30,u38,rfl,ht,hJt,⟨hF,hy⟩,hsz,hms,hnd⟩
   by_cases hlt:t < os.length
   ·have hlti:(t:Int) < (os.length:Int):=by omega
    obtain ⟨b,hbe⟩ : ∃b,os[t]=b:=⟨_,rfl⟩
    have hbT:b < T.length:=HO.out b (by rw [←hbe];exact List.getElem_mem hlt)
    obtain ⟨go,rfl,hoc⟩ : ∃go,oa=some ⟨go,0,none⟩∧w'.cell? ⟨go,t,none⟩=some (.int .i64 b):=by
     obtain ⟨_,⟨_,e⟩ | ⟨go,cap',cur,e,_⟩⟩:=hF.ot
     ·omega
     ·simp at e
      refine ⟨go,e.1,?_⟩
      have:=hF.ot
      rw [e.1] at this
      rw [this.cellAt t (by simpa using hlt)]
      simp [hlt,hbe]
    have z1:=hF.x1.cell
    have z2:=hF.x2.cell
    have hnb:jH (aK T b):=by rw [pD hbT];exact HT.out _ (List.getElem_mem hbT)
    have htk:(os.take (t+1)).flatMap (fun b=>jF (aK T a) a (aK T b) b)=(os.take t).flatMap (fun b=>jF (aK T a) a (aK T b) b)++jF (aK T a) a (aK T b) b:=by
     rw [oC (List.getElem?_eq_getElem hlt),hbe,List.flatMap_append]
     simp
    have hix:∀k x,(jF (aK T a) a (aK T b) b)[k]?=some x→(jG T a os)[(qG (aK T a) a++(os.take t).flatMap fun b=>jF (aK T a) a (aK T b) b).length+k]?=some x:=by
     intro k x hx
     have hos:os.flatMap (fun b=>jF (aK T a) a (aK T b) b)=(os.take t).flatMap (fun b=>jF (aK T a) a (aK T b) b)++(jF (aK T a) a (aK T b) b++(os.drop (t+1)).flatMap fun b=>jF (aK T a) a (aK T b) b):=by
      conv=>lhs;rw [←List.take_append_drop t os]
      rw [List.flatMap_append,List.drop_eq_getElem_cons hlt,hbe]
      simp
     unfold jG
     rw [hos,←List.append_assoc,List.getElem?_append_right (by omega),Nat.add_sub_cancel_left,List.getElem?_append_left (List.getElem?_eq_some_iff.1 hx).1]
     exact hx
    generalize hbase:(qG (aK T a) a++(os.take t).flatMap fun b=>jF (aK T a) a (aK T b) b).length=base at *
    have HTK:=aA htk
    have HIX:=aA hix
    have HBA:=aA hbase
    have HF:=aA hF
    have HYB:=aA hy
    have HMS:=aA hms
    have HJT:=aA hJt
    clear htk hix hbase hms hJt hF hy
    gi_wp2
    refine ⟨trivial,fun _=>by omega,(callsIn_wide.2 (aU4 B _ T a b _ HF.out.st ha hbT)).mono ?_⟩
    rintro e w3 ⟨bc',bd,ba',bb,v',u',rfl,hres,hb3⟩
    have hF3:=HF.out.kept (bO (S:=bM) hb3)
    have hy3:=(bO (S:=bM) hb3).boxed HYB.out (by decide)
    have hJ3:=nM HJ.out HJT.out hb3
    have hm3:∀D∈ms,w3.heap[D]?=some (.deferred (some [])):=fun D hD=>(hb3.block D (Array.getElem?_eq_some_iff.1 (HMS.out D hD).2).1).trans (HMS.out D hD).2
    have hs3:W3.heap.size≤w3.heap.size:=Nat.le_trans hsz hb3.size
    have hW3':W.heap.size≤w3.heap.size:=Nat.le_trans hbb.size hs3
    clear z1 z2 hoc
    gi_wp2
    refine xR rfl (by omega) (gf:=118) (lb:=#[.pointer (some ⟨bc',0,none⟩),.pointer (some ⟨bd,0,none⟩),.pointer (some ⟨ba',0,none⟩),.pointer (some ⟨bb,0,none⟩)]) rfl trivial (enters_of Tryz.func118 (by kernel_rfl) rfl)
     (Enc:=rL B) (S:=bM) (L:=jF (aK T a) a (aK T b) b)
     (fun o o'=>aU2 (n - 1) bc' bd ba' bb B v' u' (aK T a) (aK T b) a b (by omega) hna hnb _ (Nat.le_trans (Nat.le_trans hB hW3') (by simp;omega)) (hres.kept (bO (((Below.refl _ w3).alloc (Nat.le_refl _) _).alloc (by simp) _))))
     (fun x args W h=>by obtain ⟨ad,cp,rfl,_⟩:=h;rfl)
     (fun k W'=>J (base+k) W'∧(pE B W' bs ba bo (.slice sa T.length sc) (.slice (some ⟨go,0,none⟩) os.length oc) T a os∧Boxed W' W.heap.size 139 (.func (.yield l) #[] #[]))∧(w3.heap.size≤W'.heap.size∧∀D∈ms,W'.heap[D]?=some (.deferred (some []))))
     (fun cd _ W'=>cd=.ret∧(∃k,Jx k W')∧∀D∈ms,W'.heap[D]?=some (.deferred (some []))) ?hI2 ?hIx2 ?h02
     (fun x a' W'=>∃bx ad cp,a' = {tmps:=#[.func (.yield l) #[] #[],.pointer (some ⟨bs,0,none⟩),.pointer (some ⟨ba,0,none⟩),.pointer (some ⟨bo,0,none⟩),.pointer (some ⟨W.heap.size,0,none⟩),undef,undef,undef,.int .i64 b,.pointer (some ⟨bx,0,none⟩),.int .i64 x.2,.slice sa T.length sc,.int .i64 a,.func (.func 116) #[] #[.pointer (some ⟨bc,0,none⟩),.pointer (some ⟨bf,0,none⟩)],undef,undef,undef,undef,undef,undef,undef,.slice (some ⟨go,0,none⟩) os.length oc,.int .i64 os.length,.int .i64 t,.bool true,.pointer (some ⟨go,t,none⟩),.int .i64 b,.slice sa T.length sc,.int .i64 a,.int .i64 b,.func (.func 118) #[] #[.pointer (some ⟨bc',0,none⟩),.pointer (some ⟨bd,0,none⟩),.pointer (some ⟨ba',0,none⟩),.pointer (some ⟨bb,0,none⟩)],.agg #[.int .i64 x.1.r,.int .i64 x.1.a,.int .i64 x.1.b,.int .i64 x.1.i,.int .i64 x.1.j,.slice ad x.1.c.length cp],.int .i64 x.2,undef,undef,undef,undef,undef,u38],defers:=[]}∧qH B W' bx x.1 ad cp) ?hAx2 ?assign2 ?body2 ?done2 ?stop2
    case hI2=>
     refine (aBq HJ.out hW3' _).and ((rN (fun _ _ _ h k=>⟨h.1.kept k,k.boxed h.2 (by decide)⟩)).and ?_)
     rintro _ X Y row ⟨h1,h2⟩ hg hr
     exact ⟨Nat.le_trans h1 hg.size,aHg hm3 hg hr h2⟩
    case hIx2=>
     rintro cd s X Y row ⟨h1,⟨k,h2⟩,h3⟩ hg hr
     exact ⟨h1,⟨k,qI hJx hW3' k X Y row h2 hg hr⟩,aHg hm3 hg hr h3⟩
    case h02=>exact ⟨hJ3,⟨hF3,hy3⟩,Nat.le_refl _,hm3⟩
    case hAx2=>
     intro x a'
     refine rN ?_
     rintro _ X Y ⟨bx,ad,cp,h1,h2⟩ k
     exact ⟨bx,ad,cp,h1,h2.kept k⟩
    case assign2=>
     rintro l2 k x args Wr K hx ⟨hJk,⟨hF,hy⟩,hsz,hmk⟩ ⟨ad,cp,rfl,hcl⟩ hK
     have HC:=aA hcl
     clear hcl
     gi_wp2
     have hbA:Below Wr.heap.size Wr (Wr.alloc (.cells #[.int .i64 x.1.r,.int .i64 x.1.a,.int .i64 x.1.b,.int .i64 x.1.i,.int .i64 x.1.j,.slice ad x.1.c.length cp] 54)):=(Below.refl _ Wr).alloc (Nat.le_refl _) _
     exact hK _ _ (Mv.of_below (S:=[]) (B:=0) hbA).keepsFrom (bO hbA) ⟨nM HJ.out hJk hbA,⟨hF.kept (bO hbA),(bO (S:=bM) hbA).boxed hy (by decide)⟩,Nat.le_trans hsz hbA.size,fun D hD=>(hbA.block D (Array.getElem?_eq_some_iff.1 (hmk D hD)).1).trans (hmk D hD)⟩ ⟨Wr.heap.size,ad,cp,rfl,World.alloc_heap_new Wr _,HC.out.below hbA⟩
    case body2=>
     rintro l2 k x a' Wr hl2 hx ⟨hJk,⟨hF,hy⟩,hsz,hmk⟩ ⟨bx,ad,cp,rfl,hbx⟩
     obtain ⟨x0,x1,x2,x3,x4,x5⟩:=hbx.cells
     have z1:=hy.cell
     have hYY:=HY.out (base+k) x #[.agg #[.int .i64 x.1.r,.int .i64 x.1.a,.int .i64 x.1.b,.int .i64 x.1.i,.int .i64 x.1.j,.slice ad x.1.c.length cp],.int .i64 x.2] Wr (HIX.out k x hx) hJk ⟨ad,cp,rfl,hbx.2⟩
     obtain ⟨fn,tmps,assign,body,hyy,hR⟩:=hYY
     have HF:=aA hF
     have HYB:=aA hy
     have HSZ:=aA hsz
     have HMK:=aA hmk
     clear hF hy hsz hbx hJk hmk
     gi_wp2
     refine ⟨fun _=>by omega,(sQ hR).mono ?_⟩
     rintro e W4 (⟨rfl,hJ4,hk4⟩ | ⟨rfl,hJx4,hk4⟩)
     ·gi_wp2
      exact ⟨iQ hk4.2 hW3',hk4.1,hJ4,⟨HF.out.kept hk4.1,hk4.1.boxed HYB.out (by decide)⟩,Nat.le_trans HSZ.out hk4.1.size,fun D hD=>hk4.2.same D _ (HMS.out D hD).1 (HMK.out D hD) rfl⟩
     ·gi_wp2
      exact ⟨iQ hk4 hW3',rfl,⟨_,hJx4⟩,fun D hD=>hk4.same D _ (HMS.out D hD).1 (HMK.out D hD) rfl⟩
    case stop2=>
     rintro cd k Wd ⟨rfl,⟨k',hJd⟩,hmd⟩ hK
     gi_wp2
     refine uY (N:=W.heap.size) (I:=fun W'=>∃k,Jx k W') rfl (fun _ X Y row ⟨k,h⟩ hg hr=>⟨k,hJx k X Y row h hg hr⟩) (fun v w h=>⟨⟨_,rfl⟩,.inr h⟩) (w3.heap.size :: ms) Wd ⟨k',hJd⟩ (fun D hD=>?_) (List.nodup_cons.2 ⟨fun h=>?_,hnd⟩)
     ·rcases List.mem_cons.1 hD with rfl | hD
      ·exact ⟨hW3',hK⟩
      ·exact ⟨(HMS.out D hD).1,hmd D hD⟩
     ·have:=(Array.getElem?_eq_some_iff.1 (hm3 _ h)).1
      omega
    case done2=>
     rintro Wd ⟨hJd,⟨hFd,hyd⟩,hsd,hmd⟩ hK
     have hct:(t:Int)+1=((t+1:Nat):Int):=rfl
     have HCT:=aA hct
     clear hct
     gi_wp2
     rw [HCT.out]
     refine ⟨⟨t+1,w3.heap.size :: ms,.int .i64 b,.bool true,.pointer (some ⟨go,t,none⟩),.int .i64 b,.slice sa T.length sc,.int .i64 a,.int .i64 b,.func (.func 118) #[] #[.pointer (some ⟨bc',0,none⟩),.pointer (some ⟨bd,0,none⟩),.pointer (some ⟨ba',0,none⟩),.pointer (some ⟨bb,0,none⟩)],.int .i64 ((t+1:Nat):Int),rfl,by omega,?_,⟨hFd,hyd⟩,Nat.le_trans hs3 hsd,fun D hD=>?_,List.nodup_cons.2 ⟨fun h=>?_,hnd⟩⟩,?_⟩
     ·rw [HTK.out,←List.append_assoc,List.length_append,HBA.out]
      exact hJd
     ·rcases List.mem_cons.1 hD with rfl | hD
      ·exact ⟨hW3',hK⟩
      ·exact ⟨(HMS.out D hD).1,hmd D hD⟩
     ·have:=(Array.getElem?_eq_some_iff.1 (hm3 _ h)).1
      omega
     ·simp [intOf];omega
   ·have hlti:¬(t:Int) < (os.length:Int):=by omega
    have hte:t=os.length:=by omega
    gi_wp2
    refine uY (N:=W.heap.size) (I:=fun W'=>J (jG T a os).length W') rfl (fun _ X Y row h hg hr=>HJ.out _ X Y row h hg hr) (fun v w h=>⟨⟨_,rfl⟩,.inl h⟩) ms w' ?_ hms hnd
    rw [hte,List.take_length] at hJt
    exact hJt
end Go.Proofs.YtbddofieljiihaaGreatDoor
