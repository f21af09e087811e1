/- The program: the parts of a place, gone through by an iterator. -/
import Derived.Test.YtbddofieljiihaaGreatDoorONumI
import Derived.Shelf.RegionOpen
import Derived.OwnWalkIn
import Derived.TacticsInMore
import Derived.LoopNIn
import Derived.LoopIn
import Derived.Sort.QuietIn
namespace Go.Proofs.YtbddofieljiihaaGreatDoor
open Go.RowKit Go.Shelf Go.WideMaps
set_option maxRecDepth 100000
attribute [local go_sem] Oper.semAt_some
def eA (L:List Nd):Prop:=∀(i:Nat) (n:Nd),L[i]?=some n→dL (L.drop (i+1)) (aX n)
def gE (ks:List Nat) (W W':World):Prop:=∀k∈ks,W'.heap[k]?=W.heap[k]?
theorem gE.trans {ks:List Nat} {A B C:World} (h:gE ks A B) (k:gE ks B C):gE ks A C:=fun i hi=>(k i hi).trans (h i hi)
theorem gE.put {ks:List Nat} {w:World} (hk:∀k∈ks,k < w.heap.size) (W:World) (l:Nat) (o o':Obj) (hl:w.heap.size≤l) (_:W.heap[l]?=some o) (_:o.isCells=false) (_:o.isWalk=false):gE ks W (W.putObj l o'):=fun k hm=>World.putObj_heap_other (by have:=hk k hm;omega)
theorem gE.cell {ks:List Nat} {A B:World} (h:gE ks A B) {p:Addr} {v:Value} (hp:p.block∈ks) (hc:A.cell? p=some v):B.cell? p=some v:=(World.cell?_of_block (h _ hp)).trans hc
abbrev mK (C:List Nat):={x:Nat // x∈C}
structure jV (W:World) (ba bt tb ge:Nat) (L:List Nd) (a:Nat):Prop where
 ca:W.cell? ⟨ba,0,none⟩=some (.int .i64 a)
 ct:W.cell? ⟨bt,0,none⟩=some (.pointer (some ⟨tb,0,none⟩))
 ce:∃cap,W.cell? ⟨tb,1,none⟩=some (.slice (some ⟨ge,0,none⟩) L.length cap)
 en:∀p,p < L.length→W.cell? ⟨ge,p,none⟩=some (.int .i64 (p+aF (L.drop p) 1))
theorem jV.kept {W W':World} {ba bt tb ge:Nat} {L:List Nd} {a:Nat} (h:jV W ba bt tb ge L a) (k:gE [ba,bt,tb,ge] W W'):jV W' ba bt tb ge L a:=by
 obtain ⟨cap,hc⟩:=h.ce
 exact ⟨k.cell (by simp) h.ca,k.cell (by simp) h.ct,⟨cap,k.cell (by simp) hc⟩,fun p hp=>k.cell (by simp) (h.en p hp)⟩
theorem aG6 {α:Type} {N:Nat} {J:List α→World→Prop} (h:AbidesFrom N J) {s:List α} {w:World} (hJ:J s w) (d:Nat):J s (w.drewN d):=
 h s w _ none hJ ⟨rfl,rfl,rfl,Nat.le_refl _,fun _ _ _=>rfl⟩ (fun r e=>by cases e)
set_option maxHeartbeats 2000000 in
theorem aBc (n l ba bt tb ge:Nat) (L:List Nd) (a:Nat) (nd:Nd) (C:List Nat) (hC:(aE L).ch a=C) (hn:1≤n) (hL:eA L) (hf:L.length≤1000000) (ha:L[a]?=some nd) (J Jx:List (mK C)→World→Prop) (N:Nat) (hJ:AbidesFrom N J)
  (hY:∀pre x W,J pre W→pre.length < C.length→YieldAt Fence.wide (n - 1) Tryz.prog l #[.int .i64 (x.1:Nat)] W fun e W'=>
   (e=.returned (.bool true)∧J (pre++[x]) W'∧gE [ba,bt,tb,ge] W W')∨(e=.returned (.bool false)∧Jx (pre++[x]) W'))
  (W:World) (hW:jV W ba bt tb ge L a) (h0:J [] W) :
  CallsIn Fence.wide n Tryz.prog 149 #[.func (.yield l) #[] #[],.pointer (some ⟨ba,0,none⟩),.pointer (some ⟨bt,0,none⟩)] W fun e W'=>(∃v,e=.returned v)∧
   ((∃ys:List (mK C),ys.map (fun x=>x.1)=C∧J ys W')∨(∃pre:List (mK C),pre.map (fun x=>x.1) <+: C∧Jx pre W')):=by
 have hal:=(List.getElem?_eq_some_iff.1 ha).1
 have hch:=kE ha
 rw [hC] at hch
 have hfu:=hL a nd ha
 have hend:aF (L.drop a) 1=1+aF (L.drop (a+1)) (aX nd):=by
  rw [List.drop_eq_getElem_cons hal,(List.getElem?_eq_some_iff.1 ha).2]
  simp [aF]
 have hle:a+1+aF (L.drop (a+1)) (aX nd)≤L.length:=by
  have:=qA (L.drop (a+1)) (aX nd)
  simp at this
  omega
 have HCH:=aA hch
 generalize hE:aF (L.drop (a+1)) (aX nd)=E at *
 have HE:=aA hE
 have HY:=aA hY
 have HEND:=aA hend
 clear hch hE hY hC hend
 refine callsIn_of_wp Tryz.func149 rfl trivial ?_
 simp only [Tryz.ntmps149,List.size_toArray,List.length_cons,List.length_nil,Nat.reduceAdd,Nat.reduceSub,Array.replicate_succ,Array.replicate_zero,List.push_toArray,List.append_toArray,List.nil_append,List.cons_append]
 have ca:=hW.ca
 gi_wp2
 clear ca
 gi_loopw [4] (fun p wr=>∃(pre:List (mK C)) (q m:Nat),p=.int .i64 q∧C=pre.map (fun x=>x.1)++gK (L.drop q) m q∧q+aF (L.drop q) m=a+1+E∧dL (L.drop q) m∧jV wr ba bt tb ge L a∧J pre wr)
  (fun p _=>a+1+E - (intOf p).toNat)
 case atStart=>exact ⟨[],a+1,aX nd,by go_num,by rw [HCH.out];rfl,by rw [HE.out],hfu,hW,h0⟩
 case round=>
  obtain ⟨pre,q,m,rfl,hx,hq,hfq,hI,hJs⟩:=hrel
  have ca:=hI.ca
  have ct:=hI.ct
  obtain ⟨cap,ce⟩:=hI.ce
  have hea:=hI.en a hal
  rw [HEND.out] at hea
  have hai:(a:Int) < (L.length:Int):=by omega
  have HX:=aA hx
  cases m with
  | zero=>
   simp at hq
   have HQ:=aA hJs
   have hqe:¬((q:Int) < (a:Int)+((1+E:Nat):Int)):=by omega
   clear hx hq hI hJs hfq
   gi_wp2
   gi_quiet (fail)
   gi_wp2
   go_end0
   exact ⟨⟨_,rfl⟩,.inl ⟨pre,by have:=HX.out;simpa using this.symm,aG6 hJ HQ.out _⟩⟩
  | succ m=>
   have hfs:=(sC (L.drop q) 1 m).1 (by rw [Nat.add_comm];exact hfq)
   have hpos:=aA4 (q:=0) hfs.1
   rw [Nat.zero_add] at hpos
   have hadd:=qY (L.drop q) 1 m
   rw [Nat.add_comm 1 m,List.drop_drop] at hadd
   have hqi:(q:Int) < (a:Int)+((1+E:Nat):Int):=by omega
   have hql:(q:Int) < (L.length:Int):=by omega
   have hmem:q∈C:=by rw [hx];simp [lC]
   have hlen:pre.length < C.length:=by have:=congrArg List.length hx;simp [lC] at this;omega
   have hnext:=hI.en q (by omega)
   have HI:=aA hI
   have HADD:=aA hadd
   have HF2:=aA hfs.2
   have hY1:=fun (d:Nat)=>HY.out pre ⟨q,hmem⟩ (wr.drewN d) (aG6 hJ hJs d) hlen
   have HQ:=aA hq
   clear hx hI hfq hJs hq hfs hadd hnext
   gi_wp2
   gi_quiet (fail)
   obtain ⟨fn,tmps,assign,body,hy,hR⟩:=hY1 nq
   clear hY1
   gi_wp2
   refine hR.mono ?_
   rintro e W3 (⟨rfl,hJ3,hk3⟩ | ⟨rfl,hJx3⟩)
   ·have hI3:jV W3 ba bt tb ge L a:=jV.kept (W:=wr) HI.out hk3
    have ct3:=hI3.ct
    obtain ⟨cap3,ce3⟩:=hI3.ce
    have en3:=hI3.en q (by omega)
    generalize hst:aF (L.drop q) 1=st at *
    have HST:=aA hst
    have HI3:=aA hI3
    have HJ3:=aA hJ3
    clear hI3 hJ3 hk3 hst
    gi_wp2
    go_roundw
    case rel=>exact ⟨pre++[⟨q,hmem⟩],q+st,m,by go_num,by refine HX.out.trans ?_;rw [lC,HST.out,List.drop_drop];simp,by have h1:=HQ.out;have h2:=HADD.out;omega,by have:=HF2.out;rw [List.drop_drop] at this;exact this,HI3.out,HJ3.out⟩
    case measure=>simp [intOf];omega
   ·gi_wp2
    refine bodyPost_ret (results_none rfl _ _ _) rfl ?_
    exact ⟨⟨_,rfl⟩,.inr ⟨pre++[⟨q,hmem⟩],⟨gK (L.drop (q+aF (L.drop q) 1)) m (q+aF (L.drop q) 1),by refine Eq.trans ?_ HX.out.symm;rw [lC,List.drop_drop];simp⟩,hJx3⟩⟩
end Go.Proofs.YtbddofieljiihaaGreatDoor
