/- The program: the factors of a clause, gone through by an iterator. The program: the resolvents of two clauses, gone through by an iterator. Steps in memory; the makers of iterators. The search, in memory. -/
import Derived.Test.YtbddofieljiihaaGreatDoorVCon3I
import Derived.Test.YtbddofieljiihaaGreatDoorXHp1I
import Derived.Test.YtbddofieljiihaaGreatDoorXIntsI
namespace Go.Proofs.YtbddofieljiihaaGreatDoor
open Go.RowKit Go.Shelf Go.WideMaps
set_option maxRecDepth 100000
attribute [local go_sem] Oper.semAt_some
structure aG where
 r:Nat
 a:Nat
 b:Nat
 i:Nat
 j:Nat
 c:List Lt
noncomputable def rJ (c:List Lt) (i j:Nat):List Lt×Bool×Int:=Classical.epsilon fun x=>gR (aQ 0 (c.getD i default).2++aQ 0 (c.getD j default).2) 0 (c.getD i default).2.length (aW 0 [(c,j)]) x.1 x.2.1 x.2.2
noncomputable def rK (c:List Lt) (i:Nat) (d:List Lt) (j:Nat):List Lt×Bool×Int:=Classical.epsilon fun x=>gR (aQ 0 (c.getD i default).2++aQ 1 (d.getD j default).2) 0 (c.getD i default).2.length (aW 0 [(c,i),(d,j)]) x.1 x.2.1 x.2.2
def jE (c:List Lt) (i:Nat):Bool:=(c.getD i default).1
noncomputable def lN (c:List Lt) (a:Nat) (p:Nat×Nat):Option (aG×Int):=
 if p.1 < p.2∧jE c p.1=jE c p.2 then (if (rJ c p.1 p.2).2.1=true∨(rJ c p.1 p.2).2.2≠0 then some (⟨3,a,0,p.1,p.2,(rJ c p.1 p.2).1⟩,(rJ c p.1 p.2).2.2) else none) else none
noncomputable def qG (c:List Lt) (a:Nat):List (aG×Int):=(fR c c).filterMap (lN c a)
def rL (B:Nat) (x:aG×Int) (args:Array Value) (W:World):Prop:=∃ad cp,args=#[.agg #[.int .i64 x.1.r,.int .i64 x.1.a,.int .i64 x.1.b,.int .i64 x.1.i,.int .i64 x.1.j,.slice ad x.1.c.length cp],.int .i64 x.2]∧bK B W (.slice ad x.1.c.length cp) x.1.c
theorem bK.shape {B:Nat} {w:World} {v:Value} {c:List Lt} (h:bK B w v c):∃ad cp,v=.slice ad c.length cp:=by
 obtain ⟨Q,rfl,h2,_⟩:=h
 obtain ⟨a,cp,e⟩:=aR h2
 exact ⟨a,cp,by simpa using e⟩
theorem bK.low {B B':Nat} {w:World} {v:Value} {c:List Lt} (h:bK B w v c) (hB:B'≤B):bK B' w v c:=by
 obtain ⟨Q,q1,q2,q3,q4⟩:=h
 exact ⟨Q,q1,fS q2 hB,fun q hq=>fS (q3 q hq) hB,q4⟩
theorem bK.below {B:Nat} {w w':World} {v:Value} {c:List Lt} (h:bK B w v c) (hb:Below w.heap.size w w'):bK B w' v c:=(Mv.of_below (S:=[]) (B:=0) hb).clause h (by simp) (by simp)
theorem mP {c:List Lt} {i:Nat} (hi:i < c.length):c.getD i default=c[i]:=by simp [hi]
structure rM (B:Nat) (W:World) (bc ba:Nat) (v:Value) (c:List Lt) (a:Nat):Prop where
 x1:Boxed W bc 24 v
 x2:Boxed W ba 3 (.int .i64 a)
 m1:bK B W v c
theorem rM.kept {B:Nat} {W W':World} {bc ba:Nat} {v:Value} {c:List Lt} {a:Nat} (h:rM B W bc ba v c a) (k:cG bM W W'):rM B W' bc ba v c a:=
 ⟨k.boxed h.x1 (by decide),k.boxed h.x2 (by decide),k.clause h.m1 (by decide) (by decide)⟩
theorem bO {S:List TypeId} {W W':World} (h:Below W.heap.size W W'):cG S W W':=(Mv.of_below (S:=S) (B:=0) h).kps
theorem nM {J:Nat→World→Prop} {N:Nat} (h:OwnFrom N J) {s:Nat} {w w':World} (hJ:J s w) (hb:Below w.heap.size w w'):J s w':=
 h s w w' none hJ (fF hb) (fun r e=>by cases e)
theorem rN {β:Type} {N:Nat} {I:β→World→Prop} (h:∀s W W',I s W→cG bM W W'→I s W'):OwnFrom N I:=fun s W W' _ hs hg hr=>h s W W' hs (cG.grown hg (fun r e=>(hr r e).2))
theorem sQ {l l2 n m:Nat} {f:FuncId} {tmps:Array Value} {assign body:Code} {w:World} {R:Ending→World→Prop} (h:RoundIn Fence.wide n Tryz.prog l f tmps assign body w R):RoundIn (Fence.wide.inRound l2) m Tryz.prog l f tmps assign body w R:=
 ⟨h.1,fun c cs _=>h.2 c cs (fun d hd=>by cases hd)⟩
theorem aH9 (a1 a2:Option Addr) (n1 n2 c1 c2:Nat) (w:World):Calls Tryz.prog 117 #[.slice a1 n1 c1,.slice a2 n2 c2] w fun e w'=>e=.returned (.func (.func 131) #[] #[.pointer (some ⟨w.heap.size,0,none⟩),.pointer (some ⟨w.heap.size+1,0,none⟩)])∧w'=(w.alloc (.cells #[.slice a1 n1 c1] 24)).alloc (.cells #[.slice a2 n2 c2] 24):=by
 go_enter Tryz.func117,Tryz.ntmps117
 go_wp2
 go_ret
 exact ⟨rfl,rfl⟩
theorem uX (w:World) (v1 v2:Value) (T:TypeId):∃w3,(w.alloc (.cells #[v1] T)).alloc (.cells #[v2] T)=w3∧Below w.heap.size w w3∧Boxed w3 w.heap.size T v1∧Boxed w3 (w.heap.size+1) T v2∧w3.heap.size=w.heap.size+2:=by
 refine ⟨_,rfl,((Below.refl _ w).alloc (Nat.le_refl _) _).alloc (by simp) _,(Below.heap_alloc _ _ _ (by simp)).trans (World.alloc_heap_new w _),?_,by simp⟩
 have:=World.alloc_heap_new (w.alloc (.cells #[v1] T)) (.cells #[v2] T)
 rwa [World.size_alloc] at this
theorem aBo (w:World) (v:Value) (T:TypeId):∃w1,w.alloc (.cells #[v] T)=w1∧Below w.heap.size w w1∧Boxed w1 w.heap.size T v∧w1.heap.size=w.heap.size+1:=⟨_,rfl,(Below.refl _ w).alloc (Nat.le_refl _) _,World.alloc_heap_new w _,by simp⟩
theorem aBp {c d:List Lt} {k i j:Nat} (h:(fR c d)[k]?=some (i,j)):i < c.length∧j < d.length:=by
 have hm:=List.mem_of_getElem? h
 simp only [fR,lR,kP,List.mem_flatMap,List.mem_map,List.mem_filter,List.mem_range] at hm
 obtain ⟨x,hx,y,⟨hy,_⟩,e⟩:=hm
 cases e
 exact ⟨hx,hy⟩
theorem aHa {c:List Lt} {i j:Nat} (hi:i < c.length) (hj:j < c.length) {out:List Lt} {yes:Bool} {er:Int} (h:gR (aQ 0 c[i].2++aQ 0 c[j].2) 0 c[i].2.length (aW 0 [(c,j)]) out yes er):rJ c i j=(out,yes,er):=by
 have hx:∃x:List Lt×Bool×Int,gR (aQ 0 (c.getD i default).2++aQ 0 (c.getD j default).2) 0 (c.getD i default).2.length (aW 0 [(c,j)]) x.1 x.2.1 x.2.2:=⟨(out,yes,er),by rw [mP hi,mP hj];exact h⟩
 have h1:=Classical.epsilon_spec hx
 rw [←mP hi,←mP hj] at h
 obtain ⟨e1,e2,e3⟩:=aBk h1 h
 unfold rJ
 exact Prod.ext e1 (Prod.ext e2 e3)
theorem oC {α:Type} {L:List α} {k:Nat} {x:α} (h:L[k]?=some x):L.take (k+1)=L.take k++[x]:=by
 rw [List.take_add_one,h];rfl
theorem xO {α β:Type} {L:List α} {f:α→Option β} {k:Nat} {x:α} {y:β} (h:L[k]?=some x) (hf:f x=some y):(L.filterMap f)[((L.take k).filterMap f).length]?=some y:=by
 have hk:=(List.getElem?_eq_some_iff.1 h).1
 have:L.filterMap f=(L.take k).filterMap f++(L.drop k).filterMap f:=by rw [←List.filterMap_append,List.take_append_drop]
 rw [this,List.getElem?_append_right (Nat.le_refl _),Nat.sub_self,List.drop_eq_getElem_cons hk,(List.getElem?_eq_some_iff.1 h).2]
 simp [hf]
theorem aBq {J:Nat→World→Prop} {N N':Nat} (h:OwnFrom N J) (hN:N≤N') (g:Nat→Nat):OwnFrom N' (fun k W=>J (g k) W):=fun s X Y row hs hg hr=>qI h hN (g s) X Y row hs hg hr
set_option maxHeartbeats 4000000 in
theorem aU1 (n bc ba B:Nat) (v:Value) (c:List Lt) (a:Nat) (hn:3≤n) (nc:jH c) (W:World) (hB:B≤W.heap.size) (hW:rM B W bc ba v c a) :
  rQ Fence.wide n Tryz.prog 116 #[.pointer (some ⟨bc,0,none⟩),.pointer (some ⟨ba,0,none⟩)] (rL B) bM (qG c a) W:=by
 intro l J Jx hJ hJx hY h0
 have hc8:=nc.len
 have HY:=aA hY
 have HJ:=aA hJ
 clear hY hJ
 refine callsIn_of_wp_marks Tryz.func116 rfl trivial ?_ rfl
 simp only [Tryz.ntmps116,List.size_toArray,List.length_cons,List.length_nil,Nat.reduceAdd,Nat.reduceSub,Array.replicate_succ,Array.replicate_zero,List.push_toArray,List.append_toArray,List.nil_append,List.cons_append]
 obtain ⟨a1,c1,rfl,_,L1,_⟩:=hW.m1.lits nc
 have e1:=hW.x1.cell
 have e1a:=fun X=>Below.at' ((Below.refl W.heap.size W).alloc (Nat.le_refl _) X) (Nat.le_refl _) e1
 have HW:=aA hW
 clear hW L1 e1
 gi_wp2
 clear e1a
 refine ⟨trivial,fun _=>by omega,(callsIn_wide.2 (aH9 _ _ _ _ _ _ _)).mono ?_⟩
 rintro e w' ⟨rfl,rfl⟩
 gi_wp2
 obtain ⟨W1,hW1,hb1,hy1,hs1⟩:=aBo W (.func (.yield l) #[] #[]) 139
 simp only [hW1] at *
 obtain ⟨W3,hW3,hb3,hp1,hp2,hs3⟩:=uX W1 (.slice a1 c.length c1) (.slice a1 c.length c1) 24
 simp only [hW3] at *
 have hbb:Below W.heap.size W W3:=hb1.trans (hb3.mono hb1.size)
 have hyb:Boxed W3 W.heap.size 139 (.func (.yield l) #[] #[]):=(bO (S:=bM) hb3).boxed hy1 (by decide)
 have hF3:=HW.out.kept (bO (S:=bM) hbb)
 have hJ3:=nM HJ.out h0 hbb
 clear hW1 hW3 hy1 hb1 hb3 h0
 rw [hs1] at hp1 hp2
 refine aI4 rfl (by omega) (gf:=131) (lb:=#[.pointer (some ⟨W.heap.size+1,0,none⟩),.pointer (some ⟨W.heap.size+1+1,0,none⟩)]) rfl trivial (enters_of Tryz.func131 (by kernel_rfl) rfl)
  (Enc:=fun (x:Nat×Nat) args _=>args=#[.int .i64 x.1,.int .i64 x.2]) (S:=bM) (L:=fR c c)
  (fun o o'=>aId (n - 1) (W.heap.size+1) (W.heap.size+1+1) B (.slice a1 c.length c1) (.slice a1 c.length c1) c c (by omega) nc nc _ (nO.kept ⟨hp1,hp2,hF3.m1,hF3.m1⟩ (bO (((Below.refl _ W3).alloc (Nat.le_refl _) _).alloc (by simp) _))))
  (fun x args W h=>by rw [h];rfl)
  (fun k W'=>J (((fR c c).take k).filterMap (lN c a)).length W'∧(rM B W' bc ba (.slice a1 c.length c1) c a∧Boxed W' W.heap.size 139 (.func (.yield l) #[] #[]))∧W3.heap.size≤W'.heap.size)
  (fun cd _ W'=>cd=.ret∧∃k,Jx k W') ?hI ?hIx ?h0 ?A ?assign ?body ?done ?stop
 case hI=>exact (aBq HJ.out hbb.size _).and ((rN (fun _ _ _ h k=>⟨h.1.kept k,k.boxed h.2 (by decide)⟩)).and (fun _ _ _ _ h hg _=>Nat.le_trans h hg.size))
 case hIx=>
  rintro cd s X Y row ⟨h1,k,h2⟩ hg hr
  exact ⟨h1,k,qI hJx hbb.size k X Y row h2 hg hr⟩
 case h0=>exact ⟨by simpa using hJ3,⟨hF3,hyb⟩,Nat.le_refl _⟩
 case assign=>
  rintro l2 x args Wr K rfl hK
  gi_wp2
  exact hK
 case body=>
  rintro l2 k ⟨i,j⟩ Wr hl2 hx ⟨hJk,⟨hF,hy⟩,hsz⟩
  obtain ⟨hi,hj⟩:=aBp hx
  obtain ⟨a1',c1',ea,_,L1,_⟩:=hF.m1.lits nc
  cases ea
  obtain ⟨g1,o1,aa,ac,e,k1,k2,k3⟩:=L1.cell i hi
  obtain ⟨g2,o2,ba',bc',e',q1,q2,q3⟩:=L1.cell j hj
  rw [e] at e'
  cases e'
  subst e
  have hm1:=hF.x1.cell
  have hm2:=hF.x2.cell
  have hii:(i:Int) < (c.length:Int):=by omega
  have hjj:(j:Int) < (c.length:Int):=by omega
  have hsi:jE c i=c[i].1:=by unfold jE;rw [mP hi]
  have hsj:jE c j=c[j].1:=by unfold jE;rw [mP hj]
  have HF:=aA hF
  have HYB:=aA hy
  have HJK:=aA hJk
  have HSZ:=aA hsz
  have HX:=aA hx
  have hmix:Tryz.prog.follows .mixedOrders=true:=by kernel_rfl
  have hskip:lN c a (i,j)=none→∀nq d,xQ W3.heap.size bM (fun k W'=>J (((fR c c).take k).filterMap (lN c a)).length W'∧(rM B W' bc ba (.slice (some ⟨g1,o1,none⟩) c.length c1) c a∧Boxed W' W.heap.size 139 (.func (.yield l) #[] #[]))∧W3.heap.size≤W'.heap.size) (fun cd _ W'=>cd=.ret∧∃k,Jx k W') k Wr .normal d (Wr.drewN nq):=by
   intro hs nq d
   have hb:Below Wr.heap.size Wr (Wr.drewN nq):=aJ ⟨nq,rfl⟩
   refine ⟨(Mv.of_below (S:=[]) (B:=0) hb).keepsFrom,bO hb,?_,⟨HF.out.kept (bO hb),(bO (S:=bM) hb).boxed HYB.out (by decide)⟩,HSZ.out⟩
   rw [oC HX.out,List.filterMap_append]
   simp only [List.filterMap_cons,hs,List.filterMap_nil,List.append_nil]
   exact nM HJ.out HJK.out hb
  have HSK:=aA hskip
  clear hF hy hJk hsz hx hskip
  by_cases hij:i < j
  ·have hiji:¬(j:Int)≤(i:Int):=by omega
   have hdec:decide (j≤i)=false:=decide_eq_false (by omega)
   by_cases hsg:c[i].1=c[j].1
   ·have hne:(c[i].1 != c[j].1)=false:=by simp [hsg]
    obtain ⟨out0,yes0,er0,hfc⟩ : ∃o y e,rJ c i j=(o,y,e):=⟨_,_,_,rfl⟩
    have CF:=aA (fun (wx:World) (hb:Below Wr.heap.size Wr wx)=>(aTm (some ⟨g1,o1,none⟩) c1 c i j wx (L1.below hb (Nat.le_refl _)) nc.term hi hj nc.len).mono (R':=fun e w2=>∃ad cp,e=.returned (.tuple #[.slice ad out0.length cp,.bool yes0,.int .i64 er0])∧bK B w2 (.slice ad out0.length cp) out0∧Below wx.heap.size wx w2) (fun e w2 he=>by
     obtain ⟨v,yes,er,rfl,hco⟩:=he
     obtain ⟨out,h1,h2,_⟩:=hco.out
     have:=aHa hi hj h1
     rw [hfc] at this
     cases this
     obtain ⟨ad,cp,rfl⟩:=h2.shape
     exact ⟨ad,cp,rfl,h2.low (by have:=hb.size;have:=HSZ.out;have:=hbb.size;omega),hco.low⟩))
    rw [←hsg] at q1
    clear L1 k2 k3 q2 q3
    gi_wp2
    refine uW [_,_,_,_,_,_,_,_,_,_,_,_,_,_,_,_] rfl (by kernel_rfl) hmix (by kernel_rfl) (by kernel_rfl) ?_
    repeat (gi_big_quiet_step (fail))
    refine wpQuietIn_nil ?_
    rintro _ ⟨nq,rfl⟩
    gi_wp2
    refine ⟨trivial,fun _=>by omega,(CallsIn.inRound l2 (callsIn_wide.2 (aB CF (Wr.drewN nq) (aJ ⟨nq,rfl⟩)))).mono ?_⟩
    rintro e w2 ⟨ad,cp,rfl,hcl,hb2⟩
    have hbw:Below Wr.heap.size Wr w2:=(aJ ⟨nq,rfl⟩).trans hb2
    have hy2:=(bO (S:=bM) hbw).boxed HYB.out (by decide)
    have z1:=hy2.cell
    have z2:=(HF.out.kept (bO hbw)).x2.cell
    have HY2:=aA hy2
    have HBW:=aA hbw
    have HCL:=aA hcl
    have HJ2:=aA (nM HJ.out HJK.out hbw)
    clear hy2 hbw hcl hb2 CF
    cases yes0 with
    | true=>
     have hfs:lN c a (i,j)=some (⟨3,a,0,i,j,out0⟩,er0):=by
      unfold lN
      rw [if_pos ⟨hij,by rw [hsi,hsj];exact hsg⟩,hfc]
      simp
     have hYY:=HY.out _ (⟨3,a,0,i,j,out0⟩,er0) #[.agg #[.int .i64 3,.int .i64 a,.int .i64 0,.int .i64 i,.int .i64 j,.slice ad out0.length cp],.int .i64 er0] w2 (xO HX.out hfs) HJ2.out ⟨ad,cp,rfl,HCL.out⟩
     obtain ⟨fn,tmps,assign,body,hy,hR⟩:=hYY
     gi_wp2
     refine ⟨fun _=>by omega,(sQ hR).mono ?_⟩
     rintro e W4 (⟨rfl,hJ4,hk4⟩ | ⟨rfl,hJx4,hk4⟩)
     ·gi_wp2
      refine ⟨kO (Mv.of_below (S:=[]) (B:=0) HBW.out).keepsFrom (iQ hk4.2 hbb.size),(bO HBW.out).trans hk4.1,?_,⟨(HF.out.kept (bO HBW.out)).kept hk4.1,hk4.1.boxed HY2.out (by decide)⟩,Nat.le_trans (Nat.le_trans HSZ.out HBW.out.size) hk4.1.size⟩
      rw [oC HX.out,List.filterMap_append,List.length_append]
      simp only [List.filterMap_cons,hfs,List.filterMap_nil]
      exact hJ4
     ·gi_wp2
      exact ⟨kO (Mv.of_below (S:=[]) (B:=0) HBW.out).keepsFrom (iQ hk4 hbb.size),rfl,_,hJx4⟩
    | false=>
     by_cases her:er0=0
     ·have hfs:lN c a (i,j)=none:=by
       unfold lN
       rw [if_pos ⟨hij,by rw [hsi,hsj];exact hsg⟩,hfc]
       simp [her]
      subst her
      gi_wp2
      refine ⟨fun _ h=>(by cases h),?_⟩
      gi_wp2
      refine ⟨(Mv.of_below (S:=[]) (B:=0) HBW.out).keepsFrom,bO HBW.out,?_,⟨HF.out.kept (bO HBW.out),HY2.out⟩,Nat.le_trans HSZ.out HBW.out.size⟩
      rw [oC HX.out,List.filterMap_append]
      simp only [List.filterMap_cons,hfs,List.filterMap_nil,List.append_nil]
      exact HJ2.out
     ·have hern:(er0 != 0)=true:=by simp [her]
      have hfs:lN c a (i,j)=some (⟨3,a,0,i,j,out0⟩,er0):=by
       unfold lN
       rw [if_pos ⟨hij,by rw [hsi,hsj];exact hsg⟩,hfc]
       simp [her]
      have hYY:=HY.out _ (⟨3,a,0,i,j,out0⟩,er0) #[.agg #[.int .i64 3,.int .i64 a,.int .i64 0,.int .i64 i,.int .i64 j,.slice ad out0.length cp],.int .i64 er0] w2 (xO HX.out hfs) HJ2.out ⟨ad,cp,rfl,HCL.out⟩
      obtain ⟨fn,tmps,assign,body,hy,hR⟩:=hYY
      gi_wp2
      refine ⟨fun _=>by omega,(sQ hR).mono ?_⟩
      rintro e W4 (⟨rfl,hJ4,hk4⟩ | ⟨rfl,hJx4,hk4⟩)
      ·gi_wp2
       refine ⟨kO (Mv.of_below (S:=[]) (B:=0) HBW.out).keepsFrom (iQ hk4.2 hbb.size),(bO HBW.out).trans hk4.1,?_,⟨(HF.out.kept (bO HBW.out)).kept hk4.1,hk4.1.boxed HY2.out (by decide)⟩,Nat.le_trans (Nat.le_trans HSZ.out HBW.out.size) hk4.1.size⟩
       rw [oC HX.out,List.filterMap_append,List.length_append]
       simp only [List.filterMap_cons,hfs,List.filterMap_nil]
       exact hJ4
      ·gi_wp2
       exact ⟨kO (Mv.of_below (S:=[]) (B:=0) HBW.out).keepsFrom (iQ hk4 hbb.size),rfl,_,hJx4⟩
   ·have hne2:(c[i].1 == c[j].1)=false:=by simp [hsg]
    have hne:(c[i].1 != c[j].1)=true:=by simp [hsg]
    clear L1 k2 k3 q2 q3
    gi_wp2
    refine uW [_,_,_,_,_,_,_,_,_,_,_,_,_,_,_,_] rfl (by kernel_rfl) hmix (by kernel_rfl) (by kernel_rfl) ?_
    repeat (gi_big_quiet_step (fail))
    refine wpQuietIn_nil ?_
    rintro _ ⟨nq,rfl⟩
    gi_wp2
    exact HSK.out (by unfold lN;rw [if_neg (by rw [hsi,hsj];exact fun h=>hsg h.2)]) _ _
  ·have hiji:(j:Int)≤(i:Int):=by omega
   clear L1 k2 k3 q2 q3
   gi_wp2
   refine uW [_,_,_,_,_,_,_,_,_,_,_,_,_,_,_,_] rfl (by kernel_rfl) hmix (by kernel_rfl) (by kernel_rfl) ?_
   repeat (gi_big_quiet_step (fail))
   refine wpQuietIn_nil ?_
   rintro _ ⟨nq,rfl⟩
   gi_wp2
   exact HSK.out (by unfold lN;rw [if_neg (by omega)]) _ _
 case done=>
  rintro Wd ⟨hJd,_,_⟩ hK
  gi_wp2
  refine ⟨by simp,.inl ⟨_,_,rfl,run_takeDeferred hK,?_⟩⟩
  refine ⟨_,results_none rfl _ _ _,⟨_,rfl⟩,.inl ?_⟩
  rw [List.take_length] at hJd
  exact HJ.out.putObj _ hJd hbb.size hK rfl
 case stop=>
  rintro cd k Wd ⟨rfl,k',hJd⟩ hK
  gi_wp2
  refine ⟨by simp,.inl ⟨_,_,rfl,run_takeDeferred hK,?_⟩⟩
  refine ⟨_,results_none rfl _ _ _,⟨_,rfl⟩,.inr ⟨k',?_⟩⟩
  exact hJx.putObj _ hJd hbb.size hK rfl
end Go.Proofs.YtbddofieljiihaaGreatDoor
namespace Go.Proofs.YtbddofieljiihaaGreatDoor
open Go.RowKit Go.Shelf Go.WideMaps
set_option maxRecDepth 100000
attribute [local go_sem] Oper.semAt_some
noncomputable def mQ (c:List Lt) (a:Nat) (d:List Lt) (b:Nat) (p:Nat×Nat):Option (aG×Int):=
 if jE c p.1≠jE d p.2 then (if (rK c p.1 d p.2).2.1=true∨(rK c p.1 d p.2).2.2≠0 then some (⟨2,a,b,p.1,p.2,(rK c p.1 d p.2).1⟩,(rK c p.1 d p.2).2.2) else none) else none
noncomputable def jF (c:List Lt) (a:Nat) (d:List Lt) (b:Nat):List (aG×Int):=(fR c d).filterMap (mQ c a d b)
structure rO (B:Nat) (W:World) (bc bd ba bb:Nat) (v u:Value) (c d:List Lt) (a b:Nat):Prop where
 x1:Boxed W bc 24 v
 x2:Boxed W bd 24 u
 x3:Boxed W ba 3 (.int .i64 a)
 x4:Boxed W bb 3 (.int .i64 b)
 m1:bK B W v c
 m2:bK B W u d
theorem rO.kept {B:Nat} {W W':World} {bc bd ba bb:Nat} {v u:Value} {c d:List Lt} {a b:Nat} (h:rO B W bc bd ba bb v u c d a b) (k:cG bM W W'):rO B W' bc bd ba bb v u c d a b:=
 ⟨k.boxed h.x1 (by decide),k.boxed h.x2 (by decide),k.boxed h.x3 (by decide),k.boxed h.x4 (by decide),k.clause h.m1 (by decide) (by decide),k.clause h.m2 (by decide) (by decide)⟩
theorem aHb {c d:List Lt} {i j:Nat} (hi:i < c.length) (hj:j < d.length) {out:List Lt} {yes:Bool} {er:Int} (h:gR (aQ 0 c[i].2++aQ 1 d[j].2) 0 c[i].2.length (aW 0 [(c,i),(d,j)]) out yes er):rK c i d j=(out,yes,er):=by
 have hx:∃x:List Lt×Bool×Int,gR (aQ 0 (c.getD i default).2++aQ 1 (d.getD j default).2) 0 (c.getD i default).2.length (aW 0 [(c,i),(d,j)]) x.1 x.2.1 x.2.2:=⟨(out,yes,er),by rw [mP hi,mP hj];exact h⟩
 have h1:=Classical.epsilon_spec hx
 rw [←mP hi,←mP hj] at h
 obtain ⟨e1,e2,e3⟩:=aBk h1 h
 unfold rK
 exact Prod.ext e1 (Prod.ext e2 e3)
set_option maxHeartbeats 4000000 in
theorem aU2 (n bc bd ba bb B:Nat) (v u:Value) (c d:List Lt) (a b:Nat) (hn:3≤n) (nc:jH c) (nd:jH d) (W:World) (hB:B≤W.heap.size) (hW:rO B W bc bd ba bb v u c d a b) :
  rQ Fence.wide n Tryz.prog 118 #[.pointer (some ⟨bc,0,none⟩),.pointer (some ⟨bd,0,none⟩),.pointer (some ⟨ba,0,none⟩),.pointer (some ⟨bb,0,none⟩)] (rL B) bM (jF c a d b) W:=by
 intro l J Jx hJ hJx hY h0
 have hc8:=nc.len
 have hd8:=nd.len
 have HY:=aA hY
 have HJ:=aA hJ
 clear hY hJ
 refine callsIn_of_wp_marks Tryz.func118 rfl trivial ?_ rfl
 simp only [Tryz.ntmps118,List.size_toArray,List.length_cons,List.length_nil,Nat.reduceAdd,Nat.reduceSub,Array.replicate_succ,Array.replicate_zero,List.push_toArray,List.append_toArray,List.nil_append,List.cons_append]
 obtain ⟨a1,c1,rfl,_,L1,_⟩:=hW.m1.lits nc
 obtain ⟨a2,c2,rfl,_,L2,_⟩:=hW.m2.lits nd
 have e1:=hW.x1.cell
 have e2:=hW.x2.cell
 have e1a:=fun X=>Below.at' ((Below.refl W.heap.size W).alloc (Nat.le_refl _) X) (Nat.le_refl _) e1
 have e2a:=fun X=>Below.at' ((Below.refl W.heap.size W).alloc (Nat.le_refl _) X) (Nat.le_refl _) e2
 have HW:=aA hW
 clear hW L1 L2 e1 e2
 gi_wp2
 clear e1a e2a
 refine ⟨trivial,fun _=>by omega,(callsIn_wide.2 (aH9 _ _ _ _ _ _ _)).mono ?_⟩
 rintro e w' ⟨rfl,rfl⟩
 gi_wp2
 obtain ⟨W1,hW1,hb1,hy1,hs1⟩:=aBo W (.func (.yield l) #[] #[]) 139
 simp only [hW1] at *
 obtain ⟨W3,hW3,hb3,hp1,hp2,hs3⟩:=uX W1 (.slice a1 c.length c1) (.slice a2 d.length c2) 24
 simp only [hW3] at *
 have hbb:Below W.heap.size W W3:=hb1.trans (hb3.mono hb1.size)
 have hyb:Boxed W3 W.heap.size 139 (.func (.yield l) #[] #[]):=(bO (S:=bM) hb3).boxed hy1 (by decide)
 have hF3:=HW.out.kept (bO (S:=bM) hbb)
 have hJ3:=nM HJ.out h0 hbb
 clear hW1 hW3 hy1 hb1 hb3 h0
 rw [hs1] at hp1 hp2
 refine aI4 rfl (by omega) (gf:=131) (lb:=#[.pointer (some ⟨W.heap.size+1,0,none⟩),.pointer (some ⟨W.heap.size+1+1,0,none⟩)]) rfl trivial (enters_of Tryz.func131 (by kernel_rfl) rfl)
  (Enc:=fun (x:Nat×Nat) args _=>args=#[.int .i64 x.1,.int .i64 x.2]) (S:=bM) (L:=fR c d)
  (fun o o'=>aId (n - 1) (W.heap.size+1) (W.heap.size+1+1) B (.slice a1 c.length c1) (.slice a2 d.length c2) c d (by omega) nc nd _ (nO.kept ⟨hp1,hp2,hF3.m1,hF3.m2⟩ (bO (((Below.refl _ W3).alloc (Nat.le_refl _) _).alloc (by simp) _))))
  (fun x args W h=>by rw [h];rfl)
  (fun k W'=>J (((fR c d).take k).filterMap (mQ c a d b)).length W'∧(rO B W' bc bd ba bb (.slice a1 c.length c1) (.slice a2 d.length c2) c d a b∧Boxed W' W.heap.size 139 (.func (.yield l) #[] #[]))∧W3.heap.size≤W'.heap.size)
  (fun cd _ W'=>cd=.ret∧∃k,Jx k W') ?hI ?hIx ?h0 ?A ?assign ?body ?done ?stop
 case hI=>exact (aBq HJ.out hbb.size _).and ((rN (fun _ _ _ h k=>⟨h.1.kept k,k.boxed h.2 (by decide)⟩)).and (fun _ _ _ _ h hg _=>Nat.le_trans h hg.size))
 case hIx=>
  rintro cd s X Y row ⟨h1,k,h2⟩ hg hr
  exact ⟨h1,k,qI hJx hbb.size k X Y row h2 hg hr⟩
 case h0=>exact ⟨by simpa using hJ3,⟨hF3,hyb⟩,Nat.le_refl _⟩
 case assign=>
  rintro l2 x args Wr K rfl hK
  gi_wp2
  exact hK
 case body=>
  rintro l2 k ⟨i,j⟩ Wr hl2 hx ⟨hJk,⟨hF,hy⟩,hsz⟩
  obtain ⟨hi,hj⟩:=aBp hx
  obtain ⟨a1',c1',ea,_,L1,_⟩:=hF.m1.lits nc
  cases ea
  obtain ⟨a2',c2',eb,_,L2,_⟩:=hF.m2.lits nd
  cases eb
  obtain ⟨g1,o1,aa,ac,rfl,k1,k2,k3⟩:=L1.cell i hi
  obtain ⟨g2,o2,ba',bc',rfl,q1,q2,q3⟩:=L2.cell j hj
  have hm1:=hF.x1.cell
  have hm2:=hF.x2.cell
  have hm3:=hF.x3.cell
  have hm4:=hF.x4.cell
  have hii:(i:Int) < (c.length:Int):=by omega
  have hjj:(j:Int) < (d.length:Int):=by omega
  have hsi:jE c i=c[i].1:=by unfold jE;rw [mP hi]
  have hsj:jE d j=d[j].1:=by unfold jE;rw [mP hj]
  have HF:=aA hF
  have HYB:=aA hy
  have HJK:=aA hJk
  have HSZ:=aA hsz
  have HX:=aA hx
  have hmix:Tryz.prog.follows .mixedOrders=true:=by kernel_rfl
  have hskip:mQ c a d b (i,j)=none→∀nq dd,xQ W3.heap.size bM (fun k W'=>J (((fR c d).take k).filterMap (mQ c a d b)).length W'∧(rO B W' bc bd ba bb (.slice (some ⟨g1,o1,none⟩) c.length c1) (.slice (some ⟨g2,o2,none⟩) d.length c2) c d a b∧Boxed W' W.heap.size 139 (.func (.yield l) #[] #[]))∧W3.heap.size≤W'.heap.size) (fun cd _ W'=>cd=.ret∧∃k,Jx k W') k Wr .normal dd (Wr.drewN nq):=by
   intro hs nq dd
   have hb:Below Wr.heap.size Wr (Wr.drewN nq):=aJ ⟨nq,rfl⟩
   refine ⟨(Mv.of_below (S:=[]) (B:=0) hb).keepsFrom,bO hb,?_,⟨HF.out.kept (bO hb),(bO (S:=bM) hb).boxed HYB.out (by decide)⟩,HSZ.out⟩
   rw [oC HX.out,List.filterMap_append]
   simp only [List.filterMap_cons,hs,List.filterMap_nil,List.append_nil]
   exact nM HJ.out HJK.out hb
  have HSK:=aA hskip
  clear hF hy hJk hsz hx hskip
  by_cases hsg:c[i].1≠d[j].1
  ·have hne2:(c[i].1 == d[j].1)=false:=by simp [hsg]
   obtain ⟨out0,yes0,er0,hfc⟩ : ∃o y e,rK c i d j=(o,y,e):=⟨_,_,_,rfl⟩
   have CF:=aA (fun (wx:World) (hb:Below Wr.heap.size Wr wx)=>(aGy (some ⟨g1,o1,none⟩) (some ⟨g2,o2,none⟩) c1 c2 c d i j wx (L1.below hb (Nat.le_refl _)) (L2.below hb (Nat.le_refl _)) nc.term nd.term hi hj nc.len nd.len).mono (R':=fun e w2=>∃ad cp,e=.returned (.tuple #[.slice ad out0.length cp,.bool yes0,.int .i64 er0])∧bK B w2 (.slice ad out0.length cp) out0∧Below wx.heap.size wx w2) (fun e w2 he=>by
    obtain ⟨v,yes,er,rfl,hco⟩:=he
    obtain ⟨out,h1,h2,_⟩:=hco.out
    have:=aHb hi hj h1
    rw [hfc] at this
    cases this
    obtain ⟨ad,cp,rfl⟩:=h2.shape
    exact ⟨ad,cp,rfl,h2.low (by have:=hb.size;have:=HSZ.out;have:=hbb.size;omega),hco.low⟩))
   clear L1 L2 k2 k3 q2 q3
   gi_wp2
   refine uW [_,_,_,_,_,_,_,_,_,_,_] rfl (by kernel_rfl) hmix (by kernel_rfl) (by kernel_rfl) ?_
   repeat (gi_big_quiet_step (fail))
   refine wpQuietIn_nil ?_
   rintro _ ⟨nq,rfl⟩
   gi_wp2
   refine ⟨trivial,fun _=>by omega,(CallsIn.inRound l2 (callsIn_wide.2 (aB CF (Wr.drewN nq) (aJ ⟨nq,rfl⟩)))).mono ?_⟩
   rintro e w2 ⟨ad,cp,rfl,hcl,hb2⟩
   have hbw:Below Wr.heap.size Wr w2:=(aJ ⟨nq,rfl⟩).trans hb2
   have hy2:=(bO (S:=bM) hbw).boxed HYB.out (by decide)
   have z1:=hy2.cell
   have z2:=(HF.out.kept (bO hbw)).x3.cell
   have z3:=(HF.out.kept (bO hbw)).x4.cell
   have HY2:=aA hy2
   have HBW:=aA hbw
   have HCL:=aA hcl
   have HJ2:=aA (nM HJ.out HJK.out hbw)
   clear hy2 hbw hcl hb2 CF
   cases yes0 with
   | true=>
    have hfs:mQ c a d b (i,j)=some (⟨2,a,b,i,j,out0⟩,er0):=by
     unfold mQ
     rw [if_pos (by rw [hsi,hsj];exact hsg),hfc]
     simp
    have hYY:=HY.out _ (⟨2,a,b,i,j,out0⟩,er0) #[.agg #[.int .i64 2,.int .i64 a,.int .i64 b,.int .i64 i,.int .i64 j,.slice ad out0.length cp],.int .i64 er0] w2 (xO HX.out hfs) HJ2.out ⟨ad,cp,rfl,HCL.out⟩
    obtain ⟨fn,tmps,assign,body,hy,hR⟩:=hYY
    gi_wp2
    refine ⟨fun _=>by omega,(sQ hR).mono ?_⟩
    rintro e W4 (⟨rfl,hJ4,hk4⟩ | ⟨rfl,hJx4,hk4⟩)
    ·gi_wp2
     refine ⟨kO (Mv.of_below (S:=[]) (B:=0) HBW.out).keepsFrom (iQ hk4.2 hbb.size),(bO HBW.out).trans hk4.1,?_,⟨(HF.out.kept (bO HBW.out)).kept hk4.1,hk4.1.boxed HY2.out (by decide)⟩,Nat.le_trans (Nat.le_trans HSZ.out HBW.out.size) hk4.1.size⟩
     rw [oC HX.out,List.filterMap_append,List.length_append]
     simp only [List.filterMap_cons,hfs,List.filterMap_nil]
     exact hJ4
    ·gi_wp2
     exact ⟨kO (Mv.of_below (S:=[]) (B:=0) HBW.out).keepsFrom (iQ hk4 hbb.size),rfl,_,hJx4⟩
   | false=>
    by_cases her:er0=0
    ·have hfs:mQ c a d b (i,j)=none:=by
      unfold mQ
      rw [if_pos (by rw [hsi,hsj];exact hsg),hfc]
      simp [her]
     subst her
     gi_wp2
     refine ⟨fun _ h=>(by cases h),?_⟩
     gi_wp2
     refine ⟨(Mv.of_below (S:=[]) (B:=0) HBW.out).keepsFrom,bO HBW.out,?_,⟨HF.out.kept (bO HBW.out),HY2.out⟩,Nat.le_trans HSZ.out HBW.out.size⟩
     rw [oC HX.out,List.filterMap_append]
     simp only [List.filterMap_cons,hfs,List.filterMap_nil,List.append_nil]
     exact HJ2.out
    ·have hern:(er0 != 0)=true:=by simp [her]
     have hfs:mQ c a d b (i,j)=some (⟨2,a,b,i,j,out0⟩,er0):=by
      unfold mQ
      rw [if_pos (by rw [hsi,hsj];exact hsg),hfc]
      simp [her]
     have hYY:=HY.out _ (⟨2,a,b,i,j,out0⟩,er0) #[.agg #[.int .i64 2,.int .i64 a,.int .i64 b,.int .i64 i,.int .i64 j,.slice ad out0.length cp],.int .i64 er0] w2 (xO HX.out hfs) HJ2.out ⟨ad,cp,rfl,HCL.out⟩
     obtain ⟨fn,tmps,assign,body,hy,hR⟩:=hYY
     gi_wp2
     refine ⟨fun _=>by omega,(sQ hR).mono ?_⟩
     rintro e W4 (⟨rfl,hJ4,hk4⟩ | ⟨rfl,hJx4,hk4⟩)
     ·gi_wp2
      refine ⟨kO (Mv.of_below (S:=[]) (B:=0) HBW.out).keepsFrom (iQ hk4.2 hbb.size),(bO HBW.out).trans hk4.1,?_,⟨(HF.out.kept (bO HBW.out)).kept hk4.1,hk4.1.boxed HY2.out (by decide)⟩,Nat.le_trans (Nat.le_trans HSZ.out HBW.out.size) hk4.1.size⟩
      rw [oC HX.out,List.filterMap_append,List.length_append]
      simp only [List.filterMap_cons,hfs,List.filterMap_nil]
      exact hJ4
     ·gi_wp2
      exact ⟨kO (Mv.of_below (S:=[]) (B:=0) HBW.out).keepsFrom (iQ hk4 hbb.size),rfl,_,hJx4⟩
  ·have hse:c[i].1=d[j].1:=by simpa using hsg
   rw [←hse] at q1
   clear L1 L2 k2 k3 q2 q3
   gi_wp2
   refine uW [_,_,_,_,_,_,_,_,_,_,_] rfl (by kernel_rfl) hmix (by kernel_rfl) (by kernel_rfl) ?_
   repeat (gi_big_quiet_step (fail))
   refine wpQuietIn_nil ?_
   rintro _ ⟨nq,rfl⟩
   gi_wp2
   exact HSK.out (by unfold mQ;rw [if_neg (by rw [hsi,hsj];exact hsg)]) _ _
 case done=>
  rintro Wd ⟨hJd,_,_⟩ hK
  gi_wp2
  refine ⟨by simp,.inl ⟨_,_,rfl,run_takeDeferred hK,?_⟩⟩
  refine ⟨_,results_none rfl _ _ _,⟨_,rfl⟩,.inl ?_⟩
  rw [List.take_length] at hJd
  exact HJ.out.putObj _ hJd hbb.size hK rfl
 case stop=>
  rintro cd k Wd ⟨rfl,k',hJd⟩ hK
  gi_wp2
  refine ⟨by simp,.inl ⟨_,_,rfl,run_takeDeferred hK,?_⟩⟩
  refine ⟨_,results_none rfl _ _ _,⟨_,rfl⟩,.inr ⟨k',?_⟩⟩
  exact hJx.putObj _ hJd hbb.size hK rfl
end Go.Proofs.YtbddofieljiihaaGreatDoor
namespace Go.Proofs.YtbddofieljiihaaGreatDoor
open Go.RowKit Go.Shelf Go.WideMaps
set_option maxRecDepth 100000
def fI (p:aG×Value):List Value:=[.int .i64 p.1.r,.int .i64 p.1.a,.int .i64 p.1.b,.int .i64 p.1.i,.int .i64 p.1.j,p.2]
def fP (T:List (aG×Value)):List Value:=T.flatMap fI
theorem aHc (T:List (aG×Value)):(fP T).length=T.length * 6:=by
 induction T with
 | nil=>rfl
 | cons x r ih=>simp [fP,fI] at ih ⊢;omega
theorem aHd:∀(T:List (aG×Value)) (k:Nat) (h:k < T.length),(fP T)[k * 6+5]?=some T[k].2
 | [],k,h=>by simp at h
 | x :: T,0,_=>by simp [fP,fI]
 | x :: T,k+1,h=>by
  have:=aHd T k (by simpa using h)
  rw [show fP (x :: T)=fI x++fP T from rfl,List.getElem?_append_right (by simp [fI];omega),show (k+1) * 6+5 - (fI x).length=k * 6+5 by simp [fI];omega,this]
  simp
structure fZ (B:Nat) (W:World) (vs:Value) (T:List (aG×Value)):Prop where
 row:W.ownsRow B 54 6 vs T.length (fP T)
 cl:∀p∈T,bK B W p.2 p.1.c
theorem fZ.kept {B:Nat} {W W':World} {vs:Value} {T:List (aG×Value)} {S:List TypeId} (h:fZ B W vs T) (k:cG S W W') (h1:54∉S) (h2:74∉S) (h3:106∉S):fZ B W' vs T:=
 ⟨k.row h.row h1,fun p hp=>k.clause (h.cl p hp) h2 h3⟩
theorem fZ.cell {B:Nat} {W:World} {vs:Value} {T:List (aG×Value)} (h:fZ B W vs T) {k:Nat} (hk:k < T.length):∃g cap ad cp,vs=.slice (some ⟨g,0,none⟩) T.length cap∧T[k].2=.slice ad T[k].1.c.length cp∧W.cell? ⟨g,k * 6+5,none⟩=some (.slice ad T[k].1.c.length cp)∧bK B W (.slice ad T[k].1.c.length cp) T[k].1.c:=by
 have hc:=h.cl T[k] (List.getElem_mem hk)
 obtain ⟨ad,cp,e⟩:=hc.shape
 obtain ⟨h1,⟨_,e1⟩ | ⟨g,cap,cur,rfl,hb,hh,hr⟩⟩:=h.row
 ·omega
 ·have hl:=aHc T
  refine ⟨g,cap,ad,cp,rfl,e,?_,by rw [←e];exact hc⟩
  rw [h.row.cellAt (k * 6+5) (by omega),aHd T k hk,e]
def aK (T:List (aG×Value)) (k:Nat):List Lt:=((T[k]?).map fun p=>p.1.c).getD []
theorem pD {T:List (aG×Value)} {k:Nat} (hk:k < T.length):aK T k=T[k].1.c:=by simp [aK,hk]
theorem aU3 (B:Nat) (vs:Value) (T:List (aG×Value)) (a:Nat) (w:World) (h:fZ B w vs T) (ha:a < T.length) :
  Calls Tryz.prog 92 #[vs,.int .i64 a] w fun e w'=>∃bc ba v,e=.returned (.func (.func 116) #[] #[.pointer (some ⟨bc,0,none⟩),.pointer (some ⟨ba,0,none⟩)])∧rM B w' bc ba v (aK T a) a∧Below w.heap.size w w':=by
 obtain ⟨g,cap,ad,cp,rfl,_,hc,hm⟩:=h.cell ha
 rw [←pD ha] at hc hm
 have hai:(a:Int) < (T.length:Int):=by omega
 have e1:=fun X=>Below.at' ((Below.refl w.heap.size w).alloc (Nat.le_refl _) X) (Nat.le_refl _) hc
 clear hc
 go_enter Tryz.func92,Tryz.ntmps92
 go_wp2
 go_ret
 have hb1:Below w.heap.size w (w.alloc (.cells #[.int .i64 a] 3)):=(Below.refl _ w).alloc (Nat.le_refl _) _
 have hb2:Below w.heap.size w ((w.alloc (.cells #[.int .i64 a] 3)).alloc (.cells #[.slice ad (aK T a).length cp] 24)):=hb1.alloc (by simp) _
 refine ⟨w.heap.size+1,w.heap.size,.slice ad (aK T a).length cp,rfl,⟨?_,?_,hm.below hb2⟩,hb2⟩
 ·have:=World.alloc_heap_new (w.alloc (.cells #[.int .i64 a] 3)) (.cells #[.slice ad (aK T a).length cp] 24)
  rwa [World.size_alloc] at this
 ·exact (Below.heap_alloc _ _ _ (by simp)).trans (World.alloc_heap_new w _)
theorem aU4 (B:Nat) (vs:Value) (T:List (aG×Value)) (a b:Nat) (w:World) (h:fZ B w vs T) (ha:a < T.length) (hb:b < T.length) :
  Calls Tryz.prog 93 #[vs,.int .i64 a,.int .i64 b] w fun e w'=>∃bc bd ba bb v u,e=.returned (.func (.func 118) #[] #[.pointer (some ⟨bc,0,none⟩),.pointer (some ⟨bd,0,none⟩),.pointer (some ⟨ba,0,none⟩),.pointer (some ⟨bb,0,none⟩)])∧rO B w' bc bd ba bb v u (aK T a) (aK T b) a b∧Below w.heap.size w w':=by
 obtain ⟨g,cap,ad,cp,rfl,_,hc,hm⟩:=h.cell ha
 obtain ⟨g',cap',ad',cp',e,_,hc',hm'⟩:=h.cell hb
 cases e
 rw [←pD ha] at hc hm
 rw [←pD hb] at hc' hm'
 have hai:(a:Int) < (T.length:Int):=by omega
 have hbi:(b:Int) < (T.length:Int):=by omega
 go_enter Tryz.func93,Tryz.ntmps93
 have hmix:Tryz.prog.follows .mixedOrders=true:=by kernel_rfl
 go_wp2
 obtain ⟨w2,hw2,hb2,x1,x2,hs2⟩:=uX w (.int .i64 a) (.int .i64 b) 3
 simp only [hw2]
 clear hw2
 have f0:=Below.at' hb2 (Nat.le_refl _) hc
 have f1:=Below.at' hb2 (Nat.le_refl _) hc'
 have f2:=x1.cell
 have f3:=x2.cell
 have e0:=fun X=>Below.at' ((Below.refl w2.heap.size w2).alloc (Nat.le_refl _) X) (Nat.le_refl _) f0
 have e1:=fun X=>Below.at' ((Below.refl w2.heap.size w2).alloc (Nat.le_refl _) X) (Nat.le_refl _) f1
 have e2:=fun X=>Below.at' ((Below.refl w2.heap.size w2).alloc (Nat.le_refl _) X) (Nat.le_refl _) f2
 have e3:=fun X=>Below.at' ((Below.refl w2.heap.size w2).alloc (Nat.le_refl _) X) (Nat.le_refl _) f3
 have d0:=fun X Y=>Below.at' (((Below.refl w2.heap.size w2).alloc (Nat.le_refl _) X).alloc (by simp) Y) (Nat.le_refl _) f0
 have d1:=fun X Y=>Below.at' (((Below.refl w2.heap.size w2).alloc (Nat.le_refl _) X).alloc (by simp) Y) (Nat.le_refl _) f1
 have d2:=fun X Y=>Below.at' (((Below.refl w2.heap.size w2).alloc (Nat.le_refl _) X).alloc (by simp) Y) (Nat.le_refl _) f2
 have d3:=fun X Y=>Below.at' (((Below.refl w2.heap.size w2).alloc (Nat.le_refl _) X).alloc (by simp) Y) (Nat.le_refl _) f3
 clear hc hc'
 go_region
 ·go_wp2
  go_ret
  obtain ⟨w3,hw3,hb3,y1,y2,_⟩:=uX w2 (.slice ad (aK T a).length cp) (.slice ad' (aK T b).length cp') 24
  rw [hw3]
  rw [hs2] at y1 y2
  have hb4:Below w2.heap.size w2 w3.drew:=hb3.trans ((aJ ⟨1,rfl⟩).mono hb3.size)
  have hk:cG bM w3 w3.drew:=bO (aJ ⟨1,rfl⟩)
  have hb5:Below w.heap.size w w3.drew:=hb2.trans (hb4.mono hb2.size)
  exact ⟨w.heap.size+2,w.heap.size+2+1,w.heap.size,w.heap.size+1,_,_,rfl,⟨hk.boxed y1 (by decide),hk.boxed y2 (by decide),(bO (S:=bM) hb4).boxed x1 (by decide),(bO (S:=bM) hb4).boxed x2 (by decide),hm.below hb5,hm'.below hb5⟩,hb5⟩
 ·go_wp2
  go_ret
  obtain ⟨w3,hw3,hb3,y1,y2,_⟩:=uX w2 (.slice ad' (aK T b).length cp') (.slice ad (aK T a).length cp) 24
  rw [hw3]
  rw [hs2] at y1 y2
  have hb4:Below w2.heap.size w2 w3.drew:=hb3.trans ((aJ ⟨1,rfl⟩).mono hb3.size)
  have hk:cG bM w3 w3.drew:=bO (aJ ⟨1,rfl⟩)
  have hb5:Below w.heap.size w w3.drew:=hb2.trans (hb4.mono hb2.size)
  exact ⟨w.heap.size+2+1,w.heap.size+2,w.heap.size,w.heap.size+1,_,_,rfl,⟨hk.boxed y2 (by decide),hk.boxed y1 (by decide),(bO (S:=bM) hb4).boxed x1 (by decide),(bO (S:=bM) hb4).boxed x2 (by decide),hm.below hb5,hm'.below hb5⟩,hb5⟩
structure pE (B:Nat) (W:World) (bs ba bo:Nat) (vs vo:Value) (T:List (aG×Value)) (a:Nat) (os:List Nat):Prop where
 x1:Boxed W bs 30 vs
 x2:Boxed W ba 3 (.int .i64 a)
 x3:Boxed W bo 31 vo
 st:fZ B W vs T
 ot:W.ownsRow B 3 1 vo os.length (os.map fun k=>Value.int .i64 (k:Nat))
theorem pE.kept {B:Nat} {W W':World} {bs ba bo:Nat} {vs vo:Value} {T:List (aG×Value)} {a:Nat} {os:List Nat} (h:pE B W bs ba bo vs vo T a os) (k:cG bM W W'):pE B W' bs ba bo vs vo T a os:=
 ⟨k.boxed h.x1 (by decide),k.boxed h.x2 (by decide),k.boxed h.x3 (by decide),h.st.kept k (by decide) (by decide) (by decide),k.row h.ot (by decide)⟩
theorem aU5 (B:Nat) (a1 a2:Option Addr) (n1 n2 c1 c2:Nat) (T:List (aG×Value)) (a:Nat) (os:List Nat) (w:World) (h:fZ B w (.slice a1 n1 c1) T) (ho:w.ownsRow B 3 1 (.slice a2 n2 c2) os.length (os.map fun k=>Value.int .i64 (k:Nat))) :
  Calls Tryz.prog 58 #[.slice a1 n1 c1,.int .i64 a,.slice a2 n2 c2] w fun e w'=>∃bs ba bo,e=.returned (.func (.func 91) #[] #[.pointer (some ⟨bs,0,none⟩),.pointer (some ⟨ba,0,none⟩),.pointer (some ⟨bo,0,none⟩)])∧pE B w' bs ba bo (.slice a1 n1 c1) (.slice a2 n2 c2) T a os∧Below w.heap.size w w':=by
 go_enter Tryz.func58,Tryz.ntmps58
 go_wp2
 go_ret
 have hb1:Below w.heap.size w (w.alloc (.cells #[.slice a1 n1 c1] 30)):=(Below.refl _ w).alloc (Nat.le_refl _) _
 have hb2:Below w.heap.size w ((w.alloc (.cells #[.slice a1 n1 c1] 30)).alloc (.cells #[.int .i64 a] 3)):=hb1.alloc (by simp) _
 have hb3:Below w.heap.size w (((w.alloc (.cells #[.slice a1 n1 c1] 30)).alloc (.cells #[.int .i64 a] 3)).alloc (.cells #[.slice a2 n2 c2] 31)):=hb2.alloc (by simp;omega) _
 refine ⟨w.heap.size,w.heap.size+1,w.heap.size+1+1,rfl,⟨?_,?_,?_,h.kept (S:=[]) (bO hb3) (by simp) (by simp) (by simp),aZ ho hb3 (Nat.le_refl _)⟩,hb3⟩
 ·exact (Below.heap_alloc _ _ _ (by simp;omega)).trans ((Below.heap_alloc _ _ _ (by simp)).trans (World.alloc_heap_new w _))
 ·refine (Below.heap_alloc _ _ _ (by simp)).trans ?_
  have:=World.alloc_heap_new (w.alloc (.cells #[.slice a1 n1 c1] 30)) (.cells #[.int .i64 a] 3)
  rwa [World.size_alloc] at this
 ·have:=World.alloc_heap_new ((w.alloc (.cells #[.slice a1 n1 c1] 30)).alloc (.cells #[.int .i64 a] 3)) (.cells #[.slice a2 n2 c2] 31)
  rwa [World.size_alloc,World.size_alloc] at this
theorem uY {F:Fence} {n:Nat} {P:Program} {fn:Func} {tmps:Array Value} {R:Ending→World→Prop} {N:Nat} {I:World→Prop} (hres:fn.results=#[]) (hI:OwnFrom N (fun (_:Unit) W=>I W)) (hR:∀v w,I w→R (.returned v) w) :
  ∀(ms:List Nat) (w:World),I w→(∀D∈ms,N≤D∧w.heap[D]?=some (.deferred (some [])))→ms.Nodup→LeavesInM F n P fn tmps R (ms.map fun D=>{target:=.collected D,args:=#[]}) .returning w
 | [],w,h,_,_=>⟨_,results_none hres _ _ _,hR _ w h⟩
 | D :: ms,w,h,hd,hn=>by
  obtain ⟨h1,h2⟩:=hd D (by simp)
  refine ⟨by simp,.inl ⟨D,_,rfl,run_takeDeferred h2,?_⟩⟩
  refine uY hres hI hR ms _ (hI.putObj (s:=()) _ h h1 h2 rfl) (fun D' hD'=>?_) (List.nodup_cons.1 hn).2
  have hne:D'≠D:=fun e=>(List.nodup_cons.1 hn).1 (by rw [←e];exact hD')
  obtain ⟨h3,h4⟩:=hd D' (by simp [hD'])
  exact ⟨h3,(World.putObj_heap_other hne).trans h4⟩
structure bC (B:Nat) (W:World) (sb hp:Nat) (v vs vk:Value) (L:List Cd) (n:Nat) (T:List (aG×Value)) (ks:List Nat) (big:Bool):Prop where
 box:W.heap[sb]?=some (.cells #[.pointer (some ⟨hp,0,none⟩),.int .i64 (n:Nat),vs,vk,.bool big] 85 (0,0))
 heap:bT B W hp v L
 st:fZ B W vs T
 kp:cZ B W vk ks
 cl:∀x∈L,bK B W (.slice x.ad x.ln x.cp) x.c∧x.ln=x.c.length
 base:B≤sb
theorem bC.cells {B:Nat} {W:World} {sb hp:Nat} {v vs vk:Value} {L:List Cd} {n:Nat} {T:List (aG×Value)} {ks:List Nat} {big:Bool} (h:bC B W sb hp v vs vk L n T ks big) :
  W.cell? ⟨sb,0,none⟩=some (.pointer (some ⟨hp,0,none⟩))∧W.cell? ⟨sb,1,none⟩=some (.int .i64 (n:Nat))∧W.cell? ⟨sb,2,none⟩=some vs∧W.cell? ⟨sb,3,none⟩=some vk∧W.cell? ⟨sb,4,none⟩=some (.bool big):=by
 refine ⟨?_,?_,?_,?_,?_⟩ <;> simp [World.cell?,h.box]
theorem bC.frz {B:Nat} {W:World} {sb hp:Nat} {v vs vk:Value} {L:List Cd} {n:Nat} {T:List (aG×Value)} {ks:List Nat} {big:Bool} (h:bC B W sb hp v vs vk L n T ks big) (k:Nat):W.frozen? ⟨sb,k,none⟩=false:=by simp [World.frozen?,h.box]
theorem bC.below {B:Nat} {W W':World} {sb hp:Nat} {v vs vk:Value} {L:List Cd} {n:Nat} {T:List (aG×Value)} {ks:List Nat} {big:Bool} (h:bC B W sb hp v vs vk L n T ks big) (hb:Below W.heap.size W W'):bC B W' sb hp v vs vk L n T ks big:=
 ⟨(hb.block _ (Array.getElem?_eq_some_iff.1 h.box).1).trans h.box,h.heap.below hb,h.st.kept (S:=[]) (bO hb) (by simp) (by simp) (by simp),aZ h.kp hb (Nat.le_refl _),fun x hx=>⟨(h.cl x hx).1.below hb,(h.cl x hx).2⟩,h.base⟩
def nN (s:aG) (ad:Option Addr) (cp:Nat):Value:=.agg #[.int .i64 s.r,.int .i64 s.a,.int .i64 s.b,.int .i64 s.i,.int .i64 s.j,.slice ad s.c.length cp]
def dP (s:aG) (ad:Option Addr) (cp n:Nat):Cd:=⟨s.r,s.a,s.b,s.i,s.j,ad,s.c.length,cp,(aN s.c+s.c.length:Nat),(n:Nat),s.c⟩
theorem bK.rows {B:Nat} {w:World} {ad:Option Addr} {n cp:Nat} {c:List Lt} (h:bK B w (.slice ad n cp) c) (hn:jH c):∃P:List (Lt×Value),P.map Prod.fst=c∧n=P.length∧P.length≤cp∧(∀k (h:k < P.length),∃g',ad=some ⟨g',0,none⟩∧w.cell? ⟨g',k * 2,none⟩=some (.bool P[k].1.1)∧w.cell? ⟨g',k * 2+1,none⟩=some P[k].2)∧∀p∈P,jN w p.2 p.1.2:=by
 obtain ⟨Q,q1,q2,q3,_⟩:=h
 obtain ⟨a',cap',e,hc⟩:=rT q2
 simp at e
 obtain ⟨rfl,rfl,rfl⟩:=e
 refine ⟨Q,q1,rfl,?_,hc,fun q hq=>?_⟩
 ·obtain ⟨_,⟨e,e'⟩ | ⟨g,cap',cur,e,_,_,hh,_⟩⟩:=q2
  ·omega
  ·simp at e
   omega
 ·obtain ⟨h1,h2,h3⟩:=hn.nodes (x:=q.1) (by rw [←q1];simp;exact ⟨_,hq⟩)
  obtain ⟨aa,cpp,e,hx⟩:=tD (q3 q hq) (by omega) (fun k hk=>by have:=h3 k hk;omega)
  exact ⟨aa,cpp,e,hx⟩
set_option maxHeartbeats 4000000 in
theorem aHe (B sb:Nat) (s:aG) (ad:Option Addr) (cp:Nat) (w:World) (hc:bK B w (.slice ad s.c.length cp) s.c) (hn:jH s.c) (hi:oE s.c=true) :
  Calls Tryz.prog 35 #[.pointer (some ⟨sb,0,none⟩),nN s ad cp] w fun e w'=>(∃u,e=.returned u)∧Below w.heap.size w w':=by
 have hb1:Below w.heap.size w (w.alloc (.cells #[.int .i64 s.r,.int .i64 s.a,.int .i64 s.b,.int .i64 s.i,.int .i64 s.j,.slice ad s.c.length cp] 54)):=(Below.refl _ w).alloc (Nat.le_refl _) _
 obtain ⟨P,p1,p2,p3,p4,p5⟩:=(hc.below hb1).rows hn
 have CI:=aA (aIe ad cp P _ (by have:=hn.len;have:=congrArg List.length p1;simp at this;omega) p3 p4 p5)
 rw [←p2,p1,hi] at CI
 have HB1:=aA hb1
 clear hc hn hi p1 p2 p3 p4 p5 hb1
 unfold nN
 go_enter Tryz.func35,Tryz.ntmps35
 go_wp2_with (first
  | (go_at_call 54;refine (aB CI).mono ?_;rintro e w2 ⟨rfl,hb2⟩;have HB2:=aA (HB1.out.trans (hb2.mono (by simp)));clear hb2)
  | go_in)
 refine bodyPost_ret (results_none rfl _ _ _) rfl ?_
 exact ⟨⟨_,rfl⟩,HB2.out⟩
def uZ (sb hp n r:Nat) (s:aG) (ad:Option Addr) (cl cp:Nat) (w':World):Prop:=w'.cell? ⟨sb,0,none⟩=some (.pointer (some ⟨hp,0,none⟩))∧w'.cell? ⟨sb,1,none⟩=some (.int .i64 n)∧w'.cell? ⟨r,0,none⟩=some (.int .i64 s.r)∧w'.cell? ⟨r,1,none⟩=some (.int .i64 s.a)∧w'.cell? ⟨r,2,none⟩=some (.int .i64 s.b)∧w'.cell? ⟨r,3,none⟩=some (.int .i64 s.i)∧w'.cell? ⟨r,4,none⟩=some (.int .i64 s.j)∧w'.cell? ⟨r,5,none⟩=some (.slice ad cl cp)
theorem uZ.of {B:Nat} {w:World} {sb hp r:Nat} {v vs vk:Value} {L:List Cd} {n:Nat} {T:List (aG×Value)} {ks:List Nat} {big:Bool} {s:aG} {ad:Option Addr} {cl cp:Nat} (h:bC B w sb hp v vs vk L n T ks big) (hr:w.heap[r]?=some (.cells #[.int .i64 s.r,.int .i64 s.a,.int .i64 s.b,.int .i64 s.i,.int .i64 s.j,.slice ad cl cp] 54 (0,0))):uZ sb hp n r s ad cl cp w:=by
 obtain ⟨c0,c1,_⟩:=h.cells
 refine ⟨c0,c1,?_,?_,?_,?_,?_,?_⟩ <;> simp [World.cell?,hr]
theorem bC.pushed {B:Nat} {w w':World} {sb hp:Nat} {v v' vs vk:Value} {L:List Cd} {n:Nat} {T:List (aG×Value)} {ks:List Nat} {big:Bool} (h:bC B w sb hp v vs vk L n T ks big) (hm:Mv [82,112] B w w') {L':List Cd} (hI:bT B w' hp v' L') (hcl:∀x∈L',bK B w (.slice x.ad x.ln x.cp) x.c∧x.ln=x.c.length):bC B w' sb hp v' vs vk L' n T ks big:=
 ⟨hm.cells h.box (by decide),hI,h.st.kept hm.kps (by decide) (by decide) (by decide),hm.row h.kp (by decide),fun x hx=>⟨hm.clause (hcl x hx).1 (by decide) (by decide),(hcl x hx).2⟩,h.base⟩
theorem bC.counted {B:Nat} {w:World} {sb hp:Nat} {v vs vk:Value} {L:List Cd} {n m:Nat} {T:List (aG×Value)} {ks:List Nat} {big:Bool} (h:bC B w sb hp v vs vk L n T ks big):bC B (w.setCell ⟨sb,1,none⟩ (.int .i64 (m:Nat))) sb hp v vs vk L m T ks big∧Mv [85] B w (w.setCell ⟨sb,1,none⟩ (.int .i64 (m:Nat))):=by
 have hlt:=(Array.getElem?_eq_some_iff.1 h.box).1
 have hm:Mv [85] B w (w.setCell ⟨sb,1,none⟩ (.int .i64 (m:Nat))):=Mv.of_grown (cB w ⟨sb,1,none⟩ _) (fun k hk=>by cases hk;exact ⟨h.base,_,_,h.box,by simp⟩)
 refine ⟨⟨?_,⟨hm.cells h.heap.box (by decide),hm.row h.heap.row (by decide),h.heap.base⟩,h.st.kept hm.kps (by decide) (by decide) (by decide),hm.row h.kp (by decide),fun x hx=>⟨hm.clause (h.cl x hx).1 (by decide) (by decide),(h.cl x hx).2⟩,h.base⟩,hm⟩
 show (w.heap.modify sb _)[sb]?=_
 rw [Array.getElem?_eq_getElem (by rw [Array.size_modify];exact hlt),Array.getElem_modify_self,(Array.getElem?_eq_some_iff.1 h.box).2]
 rfl
theorem aBr:∀(f:Nat) (L:List Cd) (k:Nat) (x:Cd),x∈gF f L k→x∈L
 | 0,_,_,_,h=>h
 | f+1,L,k,x,h=>by
  unfold gF at h
  split at h
  ·split at h
   ·have:=aBr f _ _ x h
    unfold mT at this
    rcases List.mem_or_eq_of_mem_set this with h1 | rfl
    ·rcases List.mem_or_eq_of_mem_set h1 with h2 | rfl
     ·exact h2
     ·exact List.getElem_mem _
    ·exact List.getElem_mem _
   ·exact h
  ·exact h
set_option maxHeartbeats 8000000 in
theorem aHf (B sb hp:Nat) (v vs vk:Value) (L:List Cd) (n:Nat) (T:List (aG×Value)) (ks:List Nat) (big:Bool) (s:aG) (ad:Option Addr) (cp:Nat) (w:World) (h:bC B w sb hp v vs vk L n T ks big) (hc:bK B w (.slice ad s.c.length cp) s.c) (hn:jH s.c) (hi:oE s.c=false) (hL:L.length≤1000000) (hnn:n≤1000000) (hB:B≤w.heap.size) :
  Calls Tryz.prog 35 #[.pointer (some ⟨sb,0,none⟩),nN s ad cp] w fun e w'=>(∃u,e=.returned u)∧∃v',bC B w' sb hp v' vs vk (gF L.length (L++[dP s ad cp n]) L.length) (n+1) T ks big∧Mv bM B w w':=by
 have hb1:Below w.heap.size w (w.alloc (.cells #[.int .i64 s.r,.int .i64 s.a,.int .i64 s.b,.int .i64 s.i,.int .i64 s.j,.slice ad s.c.length cp] 54)):=(Below.refl _ w).alloc (Nat.le_refl _) _
 have hr1:(w.alloc (.cells #[.int .i64 s.r,.int .i64 s.a,.int .i64 s.b,.int .i64 s.i,.int .i64 s.j,.slice ad s.c.length cp] 54)).heap[w.heap.size]?=some (.cells #[.int .i64 s.r,.int .i64 s.a,.int .i64 s.b,.int .i64 s.i,.int .i64 s.j,.slice ad s.c.length cp] 54 (0,0)):=World.alloc_heap_new w _
 obtain ⟨P,p1,p2,p3,p4,p5⟩:=(hc.below hb1).rows hn
 have CI:=aA (aIe ad cp P _ (by have:=hn.len;have:=congrArg List.length p1;simp at this;omega) p3 p4 p5)
 rw [←p2,p1,hi] at CI
 clear p1 p2 p3 p4 p5
 have h1:=h.below hb1
 have hc1:=hc.below hb1
 have hcn:aN s.c≤100000:=by
  have:=uT (m:=60) (fun x hx=>(hn.term x hx).2)
  have:=hn.len
  omega
 have hcl:=hn.len
 have HN:=aA hn
 have HB1:=aA hb1
 have H1:=aA h1
 have HC1:=aA hc1
 have HR1:=aA hr1
 have HC:=aA hc
 clear h hc hi h1 hc1 hn
 unfold nN
 go_enter Tryz.func35,Tryz.ntmps35
 go_upto_region 2 with (first
  | (go_at_call 54;refine (aB CI).mono ?_;rintro e w2 ⟨rfl,hb2⟩;have HB2:=aA hb2;clear hb2)
  | go_in)
 have hr2:w2.heap[w.heap.size]?=some (.cells #[.int .i64 s.r,.int .i64 s.a,.int .i64 s.b,.int .i64 s.i,.int .i64 s.j,.slice ad s.c.length cp] 54 (0,0)):=(HB2.out.block _ (by simp)).trans HR1.out
 have h2:=H1.out.below HB2.out
 have hc2:=HC1.out.below HB2.out
 have hbw:=HB1.out.trans (HB2.out.mono HB1.out.size)
 obtain ⟨a2,cap2,ea,_,L2,_⟩:=hc2.lits HN.out
 cases ea
 have HBW:=aA hbw
 have H2:=aA h2
 have HC2:=aA hc2
 have HR2:=aA hr2
 have q5:w2.cell? ⟨w.heap.size,5,none⟩=some (.slice ad s.c.length cp):=by simp [World.cell?,hr2]
 have CN:=aA (fun (wx:World) (hwx:∃d,wx=w2.drewN d)=>(aAa ad cp s.c wx (by obtain ⟨d,rfl⟩:=hwx;exact L2.drewN d) (by omega)).mono (R':=fun e w3=>e=.returned (.int .i64 (aN s.c))∧Below w2.heap.size w2 w3) (fun e w3 he=>by
  obtain ⟨d,rfl⟩:=hwx
  exact ⟨he.1,(aJ ⟨d,rfl⟩).trans he.2⟩))
 clear hbw h2 hc2 hr2 L2 CI HB2 H1 HC1 HR1 hr1 hb1
 generalize hcc:aN s.c=cc at *
 generalize hll:s.c.length=cl at *
 have HCC:=aA hcc
 have HLL:=aA hll
 clear hcc hll
 have hww:IntKind.i64.wrap ((cc:Int)+(cl:Int))=((cc+cl:Nat):Int):=by rw [IntKind.wrap_i64];omega
 go_region_held3 (fun w'=>w'.cell? ⟨w.heap.size,5,none⟩=some (.slice ad cl cp)) (go_keep)
  (first
   | (go_at_call 47;refine (aB CN _ (by first | exact ⟨0,rfl⟩ | exact ⟨1,rfl⟩ | exact ⟨_,rfl⟩)).mono ?_;rintro e w3 ⟨rfl,hb3⟩;have q6:=Below.at' hb3 (Nat.le_refl _) q5;have HB3:=aA hb3;clear hb3)
   | go_in)
 have h3:=H2.out.below HB3.out
 have hr3:=(HB3.out.block w.heap.size (Array.getElem?_eq_some_iff.1 HR2.out).1).trans HR2.out
 have hS:=uZ.of h3 hr3
 have hS1:=hS
 obtain ⟨s0,s1,s2,s3,s4,s5,s6,s7⟩:=hS
 have hx:(dP s ad cp n).agg=.agg #[.int .i64 s.r,.int .i64 s.a,.int .i64 s.b,.int .i64 s.i,.int .i64 s.j,.slice ad cl cp,.int .i64 ((cc+cl:Nat):Int),.int .i64 (n:Nat)]:=by
  unfold dP Cd.agg
  rw [HCC.out,HLL.out]
 have hbw3:=HBW.out.trans (HB3.out.mono HBW.out.size)
 have CP:=aA (fun (wx:World) (hwx:∃d,wx=w3.drewN d)=>(aUc B hp v L (dP s ad cp n) wx (by obtain ⟨d,rfl⟩:=hwx;exact h3.heap.below (aJ ⟨d,rfl⟩)) hL (by obtain ⟨d,rfl⟩:=hwx;exact Nat.le_trans hB hbw3.size)).mono (R':=fun e w4=>(∃u,e=.returned u)∧∃v',bC B w4 sb hp v' vs vk (gF L.length (L++[dP s ad cp n]) L.length) n T ks big∧Mv bM B w w4∧uZ sb hp n w.heap.size s ad cl cp w4) (fun e w4 he=>by
  obtain ⟨d,rfl⟩:=hwx
  obtain ⟨hu,v',hI4,hm4⟩:=he
  have hd:Below w3.heap.size w3 (w3.drewN d):=aJ ⟨d,rfl⟩
  have hS4:bC B w4 sb hp v' vs vk (gF L.length (L++[dP s ad cp n]) L.length) n T ks big:=(h3.below hd).pushed hm4 hI4 (fun x hx=>by
   rcases List.mem_append.1 (aBr _ _ _ _ hx) with hx | hx
   ·exact ⟨((h3.below hd).cl x hx).1,((h3.below hd).cl x hx).2⟩
   ·simp at hx
    subst hx
    refine ⟨?_,rfl⟩
    show bK B _ (.slice ad s.c.length cp) s.c
    rw [HLL.out]
    exact (HC.out.below hbw3).below hd)
  have hr4:=hm4.cells ((hd.block w.heap.size (Array.getElem?_eq_some_iff.1 hr3).1).trans hr3) (by decide)
  have hW:=uZ.of hS4 hr4
  exact ⟨hu,v',hS4,(Mv.of_below hbw3).trans ((Mv.of_below hd).trans (hm4.mono (by decide) (Nat.le_refl _))),hW⟩))
 rw [hx] at CP
 have hwn:wrap64 ((n:Int)+1)=((n+1:Nat):Int):=by unfold wrap64;omega
 have HWN:=aA hwn
 clear hx h3 hr3 hS1 hbw3 q6 q5 CN HB3 H2 HR2 HBW HC2 HN hww hwn
 go_wp2
 go_region_held3 (fun w'=>w'.cell? ⟨sb,0,none⟩=some (.pointer (some ⟨hp,0,none⟩))∧w'.cell? ⟨sb,1,none⟩=some (.int .i64 n)∧w'.cell? ⟨w.heap.size,0,none⟩=some (.int .i64 s.r)∧w'.cell? ⟨w.heap.size,1,none⟩=some (.int .i64 s.a)∧w'.cell? ⟨w.heap.size,2,none⟩=some (.int .i64 s.b)∧w'.cell? ⟨w.heap.size,3,none⟩=some (.int .i64 s.i)∧w'.cell? ⟨w.heap.size,4,none⟩=some (.int .i64 s.j)∧w'.cell? ⟨w.heap.size,5,none⟩=some (.slice ad cl cp)) (go_keep)
  (first
   | (go_at_call 55;refine (aB CP _ (by first | exact ⟨0,rfl⟩ | exact ⟨1,rfl⟩ | exact ⟨_,rfl⟩)).mono ?_;rintro e w4 ⟨⟨u,rfl⟩,v',hS4,hm4,hW4⟩;obtain ⟨k0,k1,k2,k3,k4,k5,k6,k7⟩:=hW4;have HS4:=aA hS4;have HM4:=aA hm4;clear hS4 hm4)
   | go_in)
 have fz:=HS4.out.frz
 go_wp2
 go_end0
 have hfin:=HS4.out.counted (m:=n+1)
 exact ⟨⟨_,rfl⟩,v',hfin.1,HM4.out.trans (hfin.2.mono (by decide) (Nat.le_refl _))⟩
end Go.Proofs.YtbddofieljiihaaGreatDoor
