/- The search is started: each clause of the text comes to wait. The program: a matcher is made. Covers, of two clauses of one literal each whose signs are not alike, and of a longer clause than the other: it does not. Covers, of two clauses of one literal each whose signs are not alike, and of a longer clause than the other: it does not. The program: a matcher is made. -/
import Derived.Test.YthicbnejchpmgaaGreatDoorXSr3D
import Derived.Test.YthicbnejchpmgaaGreatDoorXSr5D
import Derived.Laws.Tables
import Derived.Test.YthicbnejchpmgaaGreatDoorCLinkedD
namespace Go.Proofs.YthicbnejchpmgaaGreatDoor
open Go.RowKit Go.Shelf Go.WideMaps
set_option maxRecDepth 100000
structure pU (B:Nat) (w:World) (v:Value) (P:List (List Lt×Value)):Prop where
 row:w.ownsRow B 52 1 v P.length (P.map Prod.snd)
 cl:∀p∈P,bK B w p.2 p.1
theorem pU.kps {S:List TypeId} {B:Nat} {w w':World} {v:Value} {P:List (List Lt×Value)} (h:pU B w v P) (k:cI S w w') (h1:52∉S) (h2:66∉S) (h3:28∉S):pU B w' v P:=
 ⟨k.row h.row h1,fun p hp=>k.clause (h.cl p hp) h2 h3⟩
theorem pU.cell {B:Nat} {w:World} {v:Value} {P:List (List Lt×Value)} (h:pU B w v P) {k:Nat} (hk:k < P.length):∃g cap ad cp,v=.slice (some ⟨g,0,none⟩) P.length cap∧P[k].2=.slice ad P[k].1.length cp∧w.cell? ⟨g,k,none⟩=some (.slice ad P[k].1.length cp)∧bK B w (.slice ad P[k].1.length cp) P[k].1:=by
 have hc:=h.cl P[k] (List.getElem_mem hk)
 obtain ⟨ad,cp,e⟩:=hc.shape
 obtain ⟨h1,⟨_,e1⟩ | ⟨g,cap,cur,rfl,hb,hh,hr⟩⟩:=h.row
 ·omega
 ·refine ⟨g,cap,ad,cp,rfl,e,?_,by rw [←e];exact hc⟩
  rw [h.row.cellAt k (by omega),List.getElem?_map,List.getElem?_eq_getElem hk,←e]
  rfl
def jU (P:List (List Lt)):List (aH×Int):=P.mapIdx fun a c=>(⟨1,a,0,0,0,c⟩,0)
theorem aVm (P:List (List Lt)) (k:Nat) (hk:k < P.length):(jU P).take (k+1)=(jU P).take k++[(⟨1,k,0,0,0,P[k]⟩,0)]:=by
 rw [List.take_add_one]
 simp [jU,hk]
def tK (B:Nat) (w0:World) (sb hp:Nat) (P:List (List Lt)) (k:Nat) (W:World):Prop:=
 ∃v' L' n',bC B W sb hp v' (.slice none 0 0) (.slice none 0 0) L' n' [] [] false∧bP ((jU P).take k) [] 0 false L' n' false∧Mv bM B w0 W
def aVn (B:Nat) (w0:World) (P:List (List Lt)) (e:Ending) (W:World):Prop:=
 ∃sb hp,e=.returned (.pointer (some ⟨sb,0,none⟩))∧tK B w0 sb hp P P.length W
set_option maxHeartbeats 4000000 in
theorem aVo (B:Nat) (v:Value) (P:List (List Lt×Value)) (w:World) (h:pU B w v P) (hi:∀p∈P,bV p.1=true) (hl:P.length≤1000) (hB:B≤w.heap.size) :
  Calls Tryz.prog 18 #[v] w fun e w'=>aVn B w (P.map Prod.fst) e w':=by
 obtain ⟨va,vc,rfl⟩:=aR h.row
 have CN:=aA (aVd B w hB)
 have HH:=aA h
 have HI:=aA hi
 clear h hi
 go_enter Tryz.func18,Tryz.ntmps18
 go_wp2_with (first
  | (go_at_call 34;refine (aB CN).mono ?_;rintro e w1 ⟨rfl,hp1,hb1⟩;have HP1:=aA hp1;have HB1:=aA hb1;clear hp1 hb1)
  | go_in)
 have hb2:Below w1.heap.size w1 (w1.alloc (.cells #[.pointer (some ⟨w.heap.size,0,none⟩),.int .i64 0,.slice none 0 0,.slice none 0 0,.bool false] 89)):=(Below.refl _ w1).alloc (Nat.le_refl _) _
 have hS0:bC B (w1.alloc (.cells #[.pointer (some ⟨w.heap.size,0,none⟩),.int .i64 0,.slice none 0 0,.slice none 0 0,.bool false] 89)) w1.heap.size w.heap.size (.slice none 0 0) (.slice none 0 0) (.slice none 0 0) [] 0 [] [] false:=
  ⟨World.alloc_heap_new w1 _,HP1.out.below hb2,⟨World.ownsRow_nil _ _ _ _,fun p hp=>by simp at hp⟩,World.ownsRow_nil _ _ _ _,fun x hx=>by simp at hx,Nat.le_trans hB HB1.out.size⟩
 have hm0:Mv bM B w (w1.alloc (.cells #[.pointer (some ⟨w.heap.size,0,none⟩),.int .i64 0,.slice none 0 0,.slice none 0 0,.bool false] 89)):=(Mv.of_below HB1.out).trans (Mv.of_below hb2)
 have H0:Hid (tK B w w1.heap.size w.heap.size (P.map Prod.fst) 0 (w1.alloc (.cells #[.pointer (some ⟨w.heap.size,0,none⟩),.int .i64 0,.slice none 0 0,.slice none 0 0,.bool false] 89))):=aA ⟨_,_,_,hS0,by simp [bP],hm0⟩
 clear hS0 hm0 hb2 CN HP1
 go_loopw [11] (fun i wr=>∃k:Nat,i=.int .i64 k∧k≤P.length∧tK B w w1.heap.size w.heap.size (P.map Prod.fst) k wr) (fun i _=>P.length - (intOf i).toNat)
 case atStart=>exact ⟨0,rfl,Nat.zero_le _,H0.out⟩
 case round=>
  obtain ⟨k,rfl,hk,v',L',n',hS,hTk,hM⟩:=hrel
  by_cases hlt:k < P.length
  ·obtain ⟨g,cap,ad,cp,hv,_,hcell,hcm⟩:=(HH.out.kps hM.kps (by decide) (by decide) (by decide)).cell hlt
   simp at hv
   obtain ⟨rfl,rfl⟩:=hv
   have hic:=HI.out _ (List.getElem_mem hlt)
   have hn:=kT hic
   have hfit:dV P[k].1=true:=by
    simp only [bV,Bool.and_eq_true] at hic
    exact hic.1.1
   have hll:=bP.len _ hTk
   have hkF:((jU (P.map Prod.fst)).take k).length≤k:=List.length_take_le _ _
   simp at hll
   have hki:(k:Int) < (P.length:Int):=by omega
   have hgt:=aVm (P.map Prod.fst) k (by simpa using hlt)
   simp only [List.getElem_map] at hgt
   have hBr:B≤wr.heap.size:=Nat.le_trans hB hM.size
   have HNX:Hid (∀v2 L2 n2 w2,bC B w2 w1.heap.size w.heap.size v2 (.slice none 0 0) (.slice none 0 0) L2 n2 [] [] false→bP [(⟨1,k,0,0,0,P[k].1⟩,0)] L' n' false L2 n2 false→Mv bM B wr w2→tK B w w1.heap.size w.heap.size (P.map Prod.fst) (k+1) w2):=aA fun v2 L2 n2 w2 x1 x2 x3=>⟨v2,L2,n2,x1,by rw [hgt];exact bP.snoc _ hTk x2,hM.trans x3⟩
   cases hid:oI P[k].1
   ·have CW:=aA (aHs B w1.heap.size w.heap.size v' _ _ L' n' [] [] false ⟨1,k,0,0,0,P[k].1⟩ ad cp wr hS hcm hn hid (by omega) (by omega) hBr)
    have HT:Hid (bP [(⟨1,k,0,0,0,P[k].1⟩,0)] L' n' false (gN L'.length (L'++[dL ⟨1,k,0,0,0,P[k].1⟩ ad cp n']) L'.length) (n'+1) false):=aA (by
     unfold bP
     rw [if_neg (by simp [hfit]),if_neg (by simp [hid])]
     exact ⟨ad,cp,rfl,rfl,rfl⟩)
    unfold nU at CW
    simp only at CW
    clear hS hcm hn hic hfit hll hkF hgt hM hTk H0
    generalize P[k].1.length=cl at *
    go_wp2_with (first
     | (go_at_call 36;refine (aB CW).mono ?_;rintro e w5 ⟨⟨u,rfl⟩,v5,hS5,hm5⟩;have G:=aA (HNX.out _ _ _ _ hS5 HT.out hm5);clear hS5 hm5)
     | go_in)
    go_roundw
    case rel=>exact ⟨k+1,by go_num,by omega,G.out⟩
    case measure=>simp [intOf];omega
   ·have CW:=aA (aHr B w1.heap.size ⟨1,k,0,0,0,P[k].1⟩ ad cp wr hcm hn hid)
    have HT:Hid (bP [(⟨1,k,0,0,0,P[k].1⟩,0)] L' n' false L' n' false):=aA (by
     unfold bP
     rw [if_neg (by simp [hfit]),if_pos hid]
     exact ⟨rfl,rfl,rfl⟩)
    have HS:=aA hS
    unfold nU at CW
    simp only at CW
    clear hS hcm hn hic hfit hll hkF hgt hM hTk H0
    generalize P[k].1.length=cl at *
    go_wp2_with (first
     | (go_at_call 36;refine (aB CW).mono ?_;rintro e w5 ⟨⟨u,rfl⟩,hb5⟩;have G:=aA (HNX.out _ _ _ _ (HS.out.below hb5) HT.out (Mv.of_below hb5));clear hb5)
     | go_in)
    go_roundw
    case rel=>exact ⟨k+1,by go_num,by omega,G.out⟩
    case measure=>simp [intOf];omega
  ·obtain rfl:k=P.length:=by omega
   have HF:Hid (tK B w w1.heap.size w.heap.size (P.map Prod.fst) P.length wr):=aA ⟨_,_,_,hS,hTk,hM⟩
   clear hS hTk hM
   go_wp2
   go_ret
   exact ⟨_,_,rfl,by simpa using HF.out⟩
end Go.Proofs.YthicbnejchpmgaaGreatDoor
namespace Go.Proofs.YthicbnejchpmgaaGreatDoor
open Go.RowKit
set_option maxRecDepth 100000
def gI (dv:Value):Array Value:=#[dv]++Array.replicate 61 (.slice none 0 0)
def tL:Array Value:=Array.replicate 62 (.slice none 0 0)
theorem aCa (dv:Value):(gI dv).size=62:=by simp [gI]
theorem aIo (dv:Value):(gI dv)[0]?=some dv:=by simp [gI]
theorem aCb (dv:Value) (j:Nat) (h:j < 61):(gI dv)[1+j]?=some (.slice none 0 0):=by
 unfold gI
 rw [Array.getElem?_append_right (by simp)]
 simp [h]
theorem aVp (a:Option Addr) (n c:Nat):Tryz.prog.built 149 [(0,.slice a n c)]=some (gI (.slice a n c)):=by kernel_rfl
theorem aIp:(Tryz.prog.info? 149).map (fun i=>(i.zero,i.size))=some (some (.agg tL),62):=by kernel_rfl
theorem aVq (w:World) (cs cs':Array Value) (t:TypeId):(w.alloc (.cells cs t)).setRow w.heap.size cs'=w.alloc (.cells cs' t):=by
 unfold World.setRow World.alloc
 congr 1
 apply Array.ext
 ·simp
 ·intro i h1 h2
  simp only [Array.getElem_modify]
  by_cases hi:i < w.heap.size
  ·rw [if_neg (by omega)]
   simp [Array.getElem_push_lt hi]
  ·have hi':i=w.heap.size:=by simp at h2;omega
   subst hi'
   simp
theorem aVr (w:World):(Instr.alloc 149 true (.tuple #[])).run Tryz.prog w=.ok (.pointer (some ⟨w.heap.size,0,none⟩)) (w.alloc (.cells tL 149)):=by
 have h:=aIp
 cases hi:Tryz.prog.info? 149 with
 | none=>rw [hi] at h;simp at h
 | some i=>
  rw [hi] at h
  simp at h
  have hc:(Value.agg tL).cells=tL:=rfl
  simp [Instr.alloc,zeroValue,typeInfo,hi,h.1,newVar,newRow,hc]
theorem aVs {ops:Array Oper} {rest:List Oper} {o1 o2 o3 o4:Oper} {a:Act} {w:World} {Q:Exit→Act→World→Prop} (g1:o1.guard=none) (g2:o2.guard=none) (g3:o3.guard=none) (g4:o4.guard=none) (s0 s x y:Operand)
  (h1:o1.op=.move s0) (h2:o2.op=.build 149 #[(0,s)]) (h3:o3.op=.alloc 149) (h4:o4.op=.store 149 x y) (va:Option Addr) (n c:Nat) (hs0:a.eval s0=.slice va n c) (hs:(a.put o1.dst (.slice va n c)).eval s=.slice va n c)
  (hx:(((a.put o1.dst (.slice va n c)).put o2.dst (.agg (gI (.slice va n c)))).put o3.dst (.pointer (some ⟨w.heap.size,0,none⟩))).eval x=.pointer (some ⟨w.heap.size,0,none⟩))
  (hy:(((a.put o1.dst (.slice va n c)).put o2.dst (.agg (gI (.slice va n c)))).put o3.dst (.pointer (some ⟨w.heap.size,0,none⟩))).eval y=.agg (gI (.slice va n c)))
  (h:wpList Tryz.prog ops Q rest ((((a.put o1.dst (.slice va n c)).put o2.dst (.agg (gI (.slice va n c)))).put o3.dst (.pointer (some ⟨w.heap.size,0,none⟩))).put o4.dst undef) (w.alloc (.cells (gI (.slice va n c)) 149))) :
  wpList Tryz.prog ops Q (o1 :: o2 :: o3 :: o4 :: rest) a w:=by
 refine wpList_plain g1 fun K hK=>?_
 have e1:o1.wp Tryz.prog a w K Q:=by
  unfold Oper.wp execOp
  simp only [h1,hs0,Sem.run_pure]
  refine hK _ _ ?_
  have hb:Tryz.prog.built 149 ((#[(0,s)]:Array (Nat×Operand)).map fun (i,x)=>(i,(a.put o1.dst (.slice va n c)).eval x)).toList=some (gI (.slice va n c)):=by
   simp only [List.map_toArray,List.map_cons,List.map_nil,hs]
   exact aVp va n c
  refine wpList_build g2 149 #[(0,s)] h2 (by rw [hb];rfl) ?_
  rw [hb]
  simp only [Option.getD_some]
  refine wpList_plain g3 fun K' hK'=>?_
  unfold Oper.wp execOp
  simp only [h3,Sem.run_bind,aVr,Sem.run_pure,Result.andThen_ok]
  refine hK' _ _ ?_
  refine wpList_store_row g4 149 x y h4 w.heap.size (gI (.slice va n c)) hx hy 149 tL (heap_alloc_new w _) ?_ ?_ ?_ ?_
  ·have h:=aIp
   cases hi:Tryz.prog.info? 149 with
   | none=>rw [hi] at h;simp at h
   | some i=>rw [hi] at h;simp at h;simp [h.2,aCa]
  ·simp [aCa,tL]
  ·have hall:(gI (.slice va n c)).all (fun v=>v.oneCell')=true:=by
    rw [Array.all_eq_true]
    intro i hi
    rcases Nat.eq_zero_or_pos i with rfl | hp
    ·have:=aIo (.slice va n c)
     rw [Array.getElem?_eq_getElem hi] at this
     simp at this
     rw [this]
     rfl
    ·have:=aCb (.slice va n c) (i - 1) (by rw [aCa] at hi;omega)
     rw [show 1+(i - 1)=i by omega,Array.getElem?_eq_getElem hi] at this
     simp at this
     rw [this]
     rfl
   exact hall
  ·rw [aVq]
   exact h
 exact e1
end Go.Proofs.YthicbnejchpmgaaGreatDoor
namespace Go.Proofs.YthicbnejchpmgaaGreatDoor
open Go.RowKit Go.Shelf
set_option maxRecDepth 100000
theorem bN.new (w:World) (dv:Value):bN (w.alloc (.cells (gI dv) 149)) w.heap.size w.heap.size dv []:=by
 have hh:(w.alloc (.cells (gI dv) 149)).heap[w.heap.size]?=some (.cells (gI dv) 149):=heap_alloc_new w _
 have hc:∀j,(w.alloc (.cells (gI dv) 149)).cell? ⟨w.heap.size,j,none⟩=(gI dv)[j]?:=fun j=>by unfold World.cell?;simp only [hh];rfl
 refine ⟨Nat.le_refl _,⟨_,hh⟩,by rw [hc];exact aIo dv,fun x hx=>⟨_,by rw [hc];exact aCb dv x (by omega),rfl⟩,⟨.slice none 0 0,by rw [hc];exact aCb dv 60 (by omega),World.ownsRow_nil _ _ _ _⟩,kL.nil⟩
end Go.Proofs.YthicbnejchpmgaaGreatDoor
