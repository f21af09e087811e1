import Derived.Test.YtcldkjcpofjmhaaGreatDoorXSr0F
import Derived.Test.YtcldkjcpofjmhaaGreatDoorGTextF
open Array renaming getElem?_eq_some_iff→zx,getElem?_eq_getElem→zw,replicate→zt
open Nat renaming le_refl→zz
namespace Go.Proofs.YtcldkjcpofjmhaaGreatDoor
open _root_.Go.Proofs.Tryz renaming prog→zy,underlying22→zv
set_option maxHeartbeats 2000000
set_option maxRecDepth 100000
variable{c d:List Lt}{dv:Value}{w w':World}
section
open Go.RowKit
def gO(dv:Value):Array Value:=#[dv]++zt 61 (.slice none 0 0)
def uS:Array Value:=zt 62 (.slice none 0 0)
theorem aBb(dv:Value):(gO dv).size=62:=by simp [gO]
theorem aF6(dv:Value):(gO dv)[0]?=some dv:=by simp [gO]
theorem aF7(dv:Value)(j:Nat)(h:j<61):(gO dv)[1+j]?=some (.slice none 0 0):=by unfold gO;rw [Array.getElem?_append_right (by simp)];simp [h]
theorem aMx(a:Option Addr)(n c:Nat):zy.built 177 [(0,.slice a n c)]=some (gO (.slice a n c)):=by kernel_rfl
theorem aF8:(zy.info? 177).map (λi=>(i.zero,i.size))=some (some (.agg uS),62):=by kernel_rfl
theorem aMy(w:World)(cs cs':Array Value)(t:TypeId):(w.alloc (.cells cs t)).setRow w.heap.size cs'=w.alloc (.cells cs' t):=by
 unfold World.setRow World.alloc;congr 1
 apply Array.ext
 ·simp
 ·intro i h1 h2;simp only [Array.getElem_modify];by_cases hi:i<w.heap.size
  ·rw [if_neg (by omega)];simp [Array.getElem_push_lt hi]
  ·have hi':i=w.heap.size:=by simp at h2;omega
   subst hi';simp
theorem aMz(w:World):(Instr.alloc 177 true (.tuple #[])).run zy w=.ok (.pointer (some ⟨w.heap.size,0,none⟩)) (w.alloc (.cells uS 177)):=by
 have h:=aF8;cases hi:zy.info? 177 with
 | none=>rw [hi] at h;simp at h
 | some i=>
  rw [hi] at h;simp at h;have hc:(Value.agg uS).cells=uS:=rfl;simp [Instr.alloc,zeroValue,typeInfo,hi,h.1,newVar,newRow,hc]
theorem aF9{ops:Array Oper}{rest:List Oper}{o1 o2 o3 o4:Oper}{a:Act}{Q:Exit->Act->World->Prop}(g1:o1.guard=none)(g2:o2.guard=none)(g3:o3.guard=none)(g4:o4.guard=none)(s0 s x y:Operand)
  (h1:o1.op=.move s0) (h2:o2.op=.build 177 #[(0,s)]) (h3:o3.op=.alloc 177) (h4:o4.op=.store 177 x y) (va:Option Addr) (n c:Nat) (hs0:a.eval s0=.slice va n c) (hs:(a.put o1.dst (.slice va n c)).eval s=.slice va n c)
  (hx:(((a.put o1.dst (.slice va n c)).put o2.dst (.agg (gO (.slice va n c)))).put o3.dst (.pointer (some ⟨w.heap.size,0,none⟩))).eval x=.pointer (some ⟨w.heap.size,0,none⟩))
  (hy:(((a.put o1.dst (.slice va n c)).put o2.dst (.agg (gO (.slice va n c)))).put o3.dst (.pointer (some ⟨w.heap.size,0,none⟩))).eval y=.agg (gO (.slice va n c)))
  (h:wpList zy ops Q rest ((((a.put o1.dst (.slice va n c)).put o2.dst (.agg (gO (.slice va n c)))).put o3.dst (.pointer (some ⟨w.heap.size,0,none⟩))).put o4.dst undef) (w.alloc (.cells (gO (.slice va n c)) 177))) :
  wpList zy ops Q (o1 :: o2 :: o3 :: o4 :: rest) a w:=by
 refine wpList_plain g1 λK hK=>?_
 have e1:o1.wp zy a w K Q:=by
  unfold Oper.wp execOp;simp only [h1,hs0,Sem.run_pure];refine hK _ _ ?_;have hb:zy.built 177 ((#[(0,s)]:Array (Nat×Operand)).map λ(i,x)=>(i,(a.put o1.dst (.slice va n c)).eval x)).toList=some (gO (.slice va n c)):=by simp only [List.map_toArray,List.map_cons,List.map_nil,hs];exact aMx va n c
  refine wpList_build g2 177 #[(0,s)] h2 (by rw [hb];rfl) ?_;rw [hb];simp only [Option.getD_some];refine wpList_plain g3 λK' hK'=>?_
  unfold Oper.wp execOp;simp only [h3,Sem.run_bind,aMz,Sem.run_pure,Result.andThen_ok];refine hK' _ _ ?_;refine wpList_store_row g4 177 x y h4 w.heap.size (gO (.slice va n c)) hx hy 177 uS (heap_alloc_new w _) ?_ ?_ ?_ ?_
  ·have h:=aF8;cases hi:zy.info? 177 with
   | none=>rw [hi] at h;simp at h
   | some i=>rw [hi] at h;simp at h;simp [h.2,aBb]
  ·simp [aBb,uS]
  ·have hall:(gO (.slice va n c)).all (λv=>v.oneCell')=true:=by
    rw [Array.all_eq_true];intro i hi;rcases Nat.eq_zero_or_pos i with rfl | hp
    ·have:=aF6 (.slice va n c);rw [zw hi] at this;simp at this;rw [this];rfl
    ·have:=aF7 (.slice va n c) (i-1) (by rw [aBb] at hi;omega);rw [show 1+(i-1)=i by omega,zw hi] at this;simp at this;rw [this];rfl
   exact hall
  ·rw [aMy];exact h
 exact e1
end
section
open Go.RowKit Go.Shelf Go.WideMaps
structure kN(w:World)(g:Nat)(dv:Value):Prop where
 blk:∃cs,w.heap[g]?=some (.cells cs 177 (0,0))
 among:w.cell? ⟨g,0,none⟩=some dv
 bound:w.cell? ⟨g,61,none⟩=some (.slice none 0 0)
theorem kN.below{g:Nat}(h:kN w g dv)(hb:Below w.heap.size w w'):kN w' g dv:=by obtain ⟨cs,h1⟩:=h.blk;exact ⟨⟨cs,(hb.block g (zx.1 h1).1).trans h1⟩,Below.at' hb (zz _) h.among,Below.at' hb (zz _) h.bound⟩
theorem kN.frz{g:Nat}(h:kN w g dv)(k:Nat):w.frozen? ⟨g,k,none⟩=false:=by obtain ⟨cs,h1⟩:=h.blk;simp [World.frozen?,h1]
theorem kN.reset{g:Nat}(h:kN w g dv):Below w.heap.size w (w.setCell ⟨g,61,none⟩ (.slice none 0 0)):=by
 obtain ⟨cs,h1⟩:=h.blk;have hc:cs[61]?=some (.slice none 0 0):=by have:=h.bound;unfold World.cell? at this;rw [h1] at this;exact this
 have hlt:=(zx.1 h1).1;have hg:=bR w ⟨g,61,none⟩ (.slice none 0 0);refine ⟨hg.os,hg.tape,hg.output,hg.size,λk hk=>?_⟩;by_cases e:k=g
 ·subst e;rw [h1];show (w.heap.modify k _)[k]?=_;rw [zw (by rw [Array.size_modify];exact hlt),Array.getElem_modify_self,(zx.1 h1).2];show some (Obj.cells (cs.setIfInBounds 61 (.slice none 0 0)) 177 (0,0))=_;have hs:cs.setIfInBounds 61 (.slice none 0 0)=cs:=by
   apply Array.ext
   ·simp
   ·intro j hj1 hj2;rw [Array.getElem_setIfInBounds (by simpa using hj1)];split
    ·rename_i e;subst e;exact ((zx.1 hc).2).symm
    ·rfl
  rw [hs]
 ·exact hg.block k hk (by simpa using e)
theorem aFa(g:Nat)(x y:Bool)(s1 s2:Option Addr)(n1 n2 c1 c2:Nat)(w:World)(hne:x≠y):Calls zy 153 #[.pointer (some ⟨g,0,none⟩),.agg #[.bool x,.slice s1 n1 c1],.agg #[.bool y,.slice s2 n2 c2]] w λe w'=>e=.returned (.bool false)/\Below w.heap.size w w':=by
 cases x <;> cases y <;> first | exact absurd rfl hne | clear hne
 all_goals
  go_enter Tryz.func153,Tryz.ntmps153;go_wp2;go_ret;exact ⟨rfl,((Below.refl _ w).alloc (zz _) _).alloc (by simp) _⟩
theorem aFb(g:Nat)(dv:Value)(w:World)(h:kN w g dv):Calls zy 154 #[.pointer (some ⟨g,0,none⟩),.int .i64 0] w λe w'=>(∃u,e=.returned u)/\Below w.heap.size w w':=by
 have hb:=h.bound;have hf:=h.frz 61;have HR:=aA h.reset;clear h;go_enter Tryz.func154,Tryz.ntmps154;go_wp2;go_loopw [13] (λi wr=>i=.int .i64 0/\wr=w) (λ_ _=>0);case atStart=>exact ⟨rfl,rfl⟩
 case round=>
  obtain ⟨rfl,rfl⟩:=hrel;go_wp2;go_end0;exact ⟨⟨_,rfl⟩,HR.out⟩
structure lU(w:World)(b o:Nat)(x:Bool)(s:Option Addr)(n c:Nat):Prop where
 c0:w.cell? ⟨b,o,none⟩=some (.bool x)
 c1:w.cell? ⟨b,o+1,none⟩=some (.slice s n c)
theorem lU.below{b o:Nat}{x:Bool}{s:Option Addr}{n c:Nat}(h:lU w b o x s n c)(hb:Below w.heap.size w w'):lU w' b o x s n c:=⟨Below.at' hb (zz _) h.c0,Below.at' hb (zz _) h.c1⟩
theorem aN0(g b o dc:Nat)(x y:Bool)(s1 s2:Option Addr)(n1 n2 c1 c2:Nat)(w:World)(h:kN w g (.slice (some ⟨b,o,none⟩) 1 dc))(hd:lU w b o y s2 n2 c2)(hne:x≠y):Calls zy 161 #[.pointer (some ⟨g,0,none⟩),.agg #[.bool x,.slice s1 n1 c1]] w λe w'=>e=.returned (.int .i64 0)/\Below w.heap.size w w':=by
 have hb0:∀X,Below w.heap.size w (w.alloc X):=λX=>(Below.refl _ w).alloc (zz _) X
 have a0:=λX=>(h.below (hb0 X)).among
 have HB0:=aA (hb0 (.cells #[.bool x,.slice s1 n1 c1] 39));have HX:Hid (∀wr,Below (w.alloc (.cells #[.bool x,.slice s1 n1 c1] 39)).heap.size (w.alloc (.cells #[.bool x,.slice s1 n1 c1] 39)) wr->lU wr w.heap.size 0 x s1 n1 c1):=aA λwr hb=>lU.below ⟨by simp,by simp⟩ hb
 have HH:=aA h;have HD:=aA hd;clear h hd hb0;go_enter Tryz.func161,Tryz.ntmps161;go_wp2;go_loopw [5,14] (λcn i wr=>cn=.int .i64 0/\∃k:Nat,k<=1/\i=.int .i64 k/\Below (w.alloc (.cells #[.bool x,.slice s1 n1 c1] 39)).heap.size (w.alloc (.cells #[.bool x,.slice s1 n1 c1] 39)) wr) (λ_ i _=>1-(intOf i).toNat);case atStart=>exact ⟨rfl,0,by omega,rfl,Below.refl _ _⟩
 case round=>
  obtain ⟨rfl,k,hk,rfl,hb⟩:=hrel;have hbw:=HB0.out.trans (hb.mono (by simp));clear a0;rcases (by omega:k=0\/k=1) with rfl | rfl
  ·have hM:=HH.out.below hbw;have hL:=HD.out.below hbw;have hX:=HX.out wr hb;obtain ⟨e0,e1⟩:=hL;obtain ⟨f0,f1⟩:=hX;have hal:∀X,Below wr.heap.size wr (wr.alloc X):=λX=>(Below.refl _ wr).alloc (zz _) X
   have bd:=λX=>(hM.below (hal X)).bound
   have f0a:=λX=>Below.at' (hal X) (zz _) f0
   have f1a:=λX=>Below.at' (hal X) (zz _) f1
   have CM:=aA (λwx=>aFa g x y s1 s2 n1 n2 c1 c2 wx hne);have HM:=aA hM;have HBW:=aA hb;go_wp2_with (first
    | (go_at_call 153;refine (aB CM _).mono ?_;rintro e w3 ⟨rfl,hb3⟩;have HB3:=aA hb3;have CF:=aA (aFb g _ w3 (HM.out.below ((hal (.cells #[.bool y,.slice s2 n2 c2] 39)).trans (hb3.mono (by simp)))));clear hb3)
    | (go_at_call 154;refine (aB CF).mono ?_;rintro e w4 ⟨⟨u,rfl⟩,hb4⟩;have HB4:=aA hb4;clear hb4)
    | go_in)
   exact ⟨⟨rfl,1,by omega,rfl,HBW.out.trans ((((hal (.cells #[.bool y,.slice s2 n2 c2] 39)).trans (HB3.out.mono (by simp))).trans (HB4.out.mono (by have:=HB3.out.size;simp at this;omega))).mono HBW.out.size)⟩,by simp [intOf]⟩
  ·go_wp2;go_ret;exact ⟨rfl,hbw⟩
theorem aN1(g b o dc b1 o1 lc:Nat)(x y:Bool)(s1 s2:Option Addr)(n1 n2 c1 c2:Nat)(w:World)(h:kN w g (.slice (some ⟨b,o,none⟩) 1 dc))(hd:lU w b o y s2 n2 c2)(hl:lU w b1 o1 x s1 n1 c1)(hne:x≠y):Calls zy 151 #[.pointer (some ⟨g,0,none⟩),.slice (some ⟨b1,o1,none⟩) 1 lc] w λe w'=>e=.returned (.int .i64 0)/\Below w.heap.size w w':=by
 have a0:=h.among;have HH:=aA h;have HD:=aA hd;have HL:=aA hl;clear h hd hl;go_enter Tryz.func151,Tryz.ntmps151;go_wp2;go_quiet (fail);go_wp2;go_loopw [5,6,18] (λbs fw i wr=>bs=.int .i64 0/\∃k f:Nat,k<=1/\i=.int .i64 k/\fw=.int .i64 f/\(k=0->f=2)/\Below w.heap.size w wr) (λ_ _ i _=>1-(intOf i).toNat);case atStart=>exact ⟨rfl,0,2,by omega,rfl,rfl,λ_=>rfl,aI ⟨_,rfl⟩⟩
 case round=>
  obtain ⟨rfl,k,f,hk,rfl,rfl,hf,hb⟩:=hrel;clear a0;rcases (by omega:k=0\/k=1) with rfl | rfl
  ·obtain rfl:=hf rfl;have hM:=HH.out.below hb;have hD:=HD.out.below hb;obtain ⟨f0,f1⟩:=HL.out.below hb;have hal:∀X,Below wr.heap.size wr (wr.alloc X):=λX=>(Below.refl _ wr).alloc (zz _) X
   have CW:=aA (λX=>aN0 g b o dc x y s1 s2 n1 n2 c1 c2 (wr.alloc X) (hM.below (hal X)) (hD.below (hal X)) hne);have HB:=aA hb;clear hM hD hb hf;go_wp2_with (first
    | (go_at_call 161;refine (aB CW _).mono ?_;rintro e w3 ⟨rfl,hb3⟩;have HB3:=aA hb3;clear hb3)
    | go_in)
   exact ⟨⟨rfl,1,0,by omega,rfl,rfl,λh=>absurd h (by omega),HB.out.trans (((hal (.cells #[.bool x,.slice s1 n1 c1] 39)).trans (HB3.out.mono (by simp))).mono HB.out.size)⟩,by simp [intOf]⟩
  ·have HB:=aA hb;go_wp2;go_ret;exact ⟨rfl,HB.out⟩
theorem aN2(g b1 o1 lc:Nat)(w:World)(hc:1<=lc):Calls zy 138 #[.pointer (some ⟨g,0,none⟩),.slice (some ⟨b1,o1,none⟩) 1 lc] w λe w'=>e=.returned (.tuple #[.slice (some ⟨b1,o1,none⟩) 1 1,.slice none 0 0])/\Below w.heap.size w w':=by
 have hci:(1:Int)<=(lc:Int):=by omega
 go_enter Tryz.func138,Tryz.ntmps138;go_wp2;go_quiet (fail);go_wp2;all_goals
  go_loopw [4,5,6] (λgr rs i wr=>gr=.slice (some ⟨b1,o1,none⟩) 1 1/\∃(k:Nat) (ra:Option Addr) (rc:Nat),k<=1/\i=.int .i64 k/\rs=.slice ra 0 rc/\(k=1->rs=.slice none 0 0)/\Below w.heap.size w wr) (λ_ _ i _=>1-(intOf i).toNat);case atStart=>exact ⟨rfl,0,_,_,by omega,rfl,rfl,λh=>absurd h (by omega),aI ⟨_,rfl⟩⟩
  case round=>
   obtain ⟨rfl,k,ra,rc,hk,rfl,rfl,hn,hb⟩:=hrel;rcases (by omega:k=0\/k=1) with rfl | rfl
   ·have HB:=aA hb;clear hb hn;go_wp2;go_loopw [4,7,22] (λgr ap i w2=>gr=.slice (some ⟨b1,o1,none⟩) 1 1/\ap=.slice none 0 0/\i=.int .i64 0/\Below w.heap.size w w2) (λ_ _ _ _=>0);case atStart=>exact ⟨rfl,rfl,rfl,HB.out⟩
    case round=>
     obtain ⟨rfl,rfl,rfl,hb2⟩:=hrel;have HB2:=aA hb2;clear hb2;go_wp2;exact ⟨⟨rfl,1,none,0,by omega,rfl,rfl,λ_=>rfl,HB2.out⟩,by simp [intOf]⟩
   ·obtain ⟨rfl,-,rfl⟩ : ra=none/\0=0/\rc=0:=by simpa using hn rfl
    have HB:=aA hb;go_wp2;go_returns;exact ⟨rfl,HB.out⟩
theorem aFc(h:w.grownBy w' none):Below w.heap.size w w':=⟨h.os,h.tape,h.output,h.size,λk hk=>h.block k hk (by simp)⟩
theorem aN3(w:World):Calls zy 162 #[.slice none 0 0,.int .i64 0] w λe w'=>e=.returned (.slice none 0 0)/\w'=w:=by go_enter Tryz.func162,Tryz.ntmps162;go_wp2;go_ret;exact ⟨rfl,rfl⟩
theorem aN4(q n1 n2:Nat)(e1 e2:Addr)(w:World)(k0:w.cell? ⟨q,0,none⟩=some (.slice (some e1) 0 n1))(k1:w.cell? ⟨q,1,none⟩=some (.slice (some e2) 0 n2)) :
  Calls zy 152 #[.slice (some ⟨q,0,none⟩) 2 2] w λe w'=>e=.returned (.slice none 0 0)/\Below w.heap.size w w':=by
 obtain ⟨iL,hL,hL0,hL1,hL2⟩:=info_parts sF;have CG:=aA (λwx=>aN3 wx);go_enter Tryz.func152,Tryz.ntmps152;go_wp2;go_loop [3,11] (λt i=>∃k:Nat,k<=2/\i=.int .i64 k/\t=.int .i64 0) (λ_ i=>2-(intOf i).toNat);case atStart=>exact ⟨0,by omega,rfl,rfl⟩
 case round=>
  obtain ⟨k,hk,rfl,rfl⟩:=hrel;rcases (by omega:k=0\/k=1\/k=2) with rfl | rfl | rfl
  ·go_wp2;go_round;case rel=>exact ⟨1,by omega,rfl,rfl⟩
   case measure=>simp [intOf]
  ·go_wp2;go_round;case rel=>exact ⟨2,by omega,rfl,rfl⟩
   case measure=>simp [intOf]
  ·go_wp2_with (first
    | (go_at_call 162;refine (aB CG _).mono ?_;rintro e wx ⟨rfl,hwx⟩;rw [hwx];clear hwx wx)
    | go_in)
   go_loopw [6,27] (λnw i wr=>nw=.slice none 0 0/\∃k:Nat,k<=2/\i=.int .i64 k/\Below w.heap.size w wr) (λ_ i _=>2-(intOf i).toNat);case atStart=>exact ⟨rfl,0,by omega,rfl,Below.refl _ _⟩
   case round=>
    obtain ⟨rfl,k,hk,rfl,hb⟩:=hrel;have d0:=Below.at' hb (zz _) k0;have d1:=Below.at' hb (zz _) k1;have HBK:=aA hb;clear k0 k1 hb;rcases (by omega:k=0\/k=1\/k=2) with rfl | rfl | rfl
    ·go_wp2_with (first
      | (at_builtin;refine wpList_append_own _ rfl (.tmp 31) (.tmp 32) 22 rfl 0 39 iL (.agg #[.bool false,.slice none 0 0]) 2 32 zv hL hL0 hL1 hL2 rfl (by decide) _ 0 [] rfl (World.ownsRow_nil _ _ _ _) e1 0 n1 [] rfl rfl (λj u hj=>by simp at hj) (λu hu=>by simp at hu) (by unfold maxLen;omega) (by omega) (Nat.zero_le _) ?_;intro v4 w4 ho4 hg4 hv4;have hv5:=hv4.2 ⟨rfl,rfl⟩;subst hv5;have HB4:=aA (HBK.out.trans ((aFc hg4).mono HBK.out.size));clear ho4 hg4 hv4)
      | go_in)
     exact ⟨⟨rfl,1,by omega,rfl,HB4.out⟩,by simp [intOf]⟩
    ·go_wp2_with (first
      | (at_builtin;refine wpList_append_own _ rfl (.tmp 31) (.tmp 32) 22 rfl 0 39 iL (.agg #[.bool false,.slice none 0 0]) 2 32 zv hL hL0 hL1 hL2 rfl (by decide) _ 0 [] rfl (World.ownsRow_nil _ _ _ _) e2 0 n2 [] rfl rfl (λj u hj=>by simp at hj) (λu hu=>by simp at hu) (by unfold maxLen;omega) (by omega) (Nat.zero_le _) ?_;intro v4 w4 ho4 hg4 hv4;have hv5:=hv4.2 ⟨rfl,rfl⟩;subst hv5;have HB4:=aA (HBK.out.trans ((aFc hg4).mono HBK.out.size));clear ho4 hg4 hv4)
      | go_in)
     exact ⟨⟨rfl,2,by omega,rfl,HB4.out⟩,by simp [intOf]⟩
    ·go_wp2;go_ret;exact ⟨rfl,HBK.out⟩
theorem aN5(g b o dc b1 o1:Nat)(x y:Bool)(s1 s2:Option Addr)(n1 n2 c1 c2:Nat)(w:World)(h:kN w g (.slice (some ⟨b,o,none⟩) 1 dc))(hd:lU w b o y s2 n2 c2)(hl:lU w b1 o1 x s1 n1 c1)(hne:x≠y):Calls zy 139 #[.pointer (some ⟨g,0,none⟩),.slice (some ⟨b1,o1,none⟩) 1 1] w λe w'=>e=.returned (.bool false)/\Below w.heap.size w w':=by
 have CT:=aA (aN1 g b o dc b1 o1 1 x y s1 s2 n1 n2 c1 c2 w h hd hl hne);have HH:=aA h;have HD:=aA hd;have HL:=aA hl;clear h hd hl;go_enter Tryz.func139,Tryz.ntmps139;go_upto_region 2 with (first
  | (go_at_call 151;refine (aB CT).mono ?_;rintro e w1 ⟨rfl,hb1⟩;have HB1:=aA hb1;clear hb1)
  | go_in)
 have hw1:IntKind.i64.wrap ((0:Int)+1)=1:=by rfl
 have hw2:IntKind.i64.wrap 1=1:=by rfl
 have hc0:(w1.alloc (.cells #[.slice (some ⟨b1,o1,none⟩) 0 1,.slice (some ⟨b1,o1,none⟩) 0 0] 22)).cell? ⟨w1.heap.size,0,none⟩=some (.slice (some ⟨b1,o1,none⟩) 0 1):=by simp
 have hc1:(w1.alloc (.cells #[.slice (some ⟨b1,o1,none⟩) 0 1,.slice (some ⟨b1,o1,none⟩) 0 0] 22)).cell? ⟨w1.heap.size,1,none⟩=some (.slice (some ⟨b1,o1,none⟩) 0 0):=by simp
 have CC:=aA (λ(wx:World) (hx:∃m,wx=(w1.alloc (.cells #[.slice (some ⟨b1,o1,none⟩) 0 1,.slice (some ⟨b1,o1,none⟩) 0 0] 22)).drewN m)=>(aN4 w1.heap.size 1 0 ⟨b1,o1,none⟩ ⟨b1,o1,none⟩ wx (by obtain ⟨m,rfl⟩:=hx;exact hc0) (by obtain ⟨m,rfl⟩:=hx;exact hc1)).mono (R':=λe w2=>e=.returned (.slice none 0 0)/\Below w1.heap.size w1 w2) (λe w2 he=>by
  obtain ⟨m,rfl⟩:=hx;have hal:Below w1.heap.size w1 (w1.alloc (.cells #[.slice (some ⟨b1,o1,none⟩) 0 1,.slice (some ⟨b1,o1,none⟩) 0 0] 22)):=(Below.refl _ w1).alloc (zz _) _;exact ⟨he.1,hal.trans (((aI ⟨m,rfl⟩).trans he.2).mono (by simp))⟩))
 go_region_held3 (λ_=>True) (trivial) (first
  | (go_at_call 152;refine (aB CC _ (by first | exact ⟨0,rfl⟩ | exact ⟨1,rfl⟩ | exact ⟨_,rfl⟩)).mono ?_;rintro e w2 ⟨rfl,hb2⟩;have HB2:=aA (HB1.out.trans (hb2.mono HB1.out.size));clear hb2)
  | go_in)
 have a2:=(HH.out.below HB2.out).among;clear hc0 hc1 CC CT hw1 hw2;go_wp2;clear a2;go_loopw [27] (λi wr=>∃k:Nat,k<=1/\i=.int .i64 k/\Below w.heap.size w wr) (λi _=>1-(intOf i).toNat);case atStart=>exact ⟨0,by omega,rfl,HB2.out⟩
 case round=>
  obtain ⟨k,hk,rfl,hb⟩:=hrel;rcases (by omega:k=0\/k=1) with rfl | rfl
  ·have hM:=HH.out.below hb;obtain ⟨e0,e1⟩:=HD.out.below hb;have hL:=HL.out.below hb;have hal:∀X,Below wr.heap.size wr (wr.alloc X):=λX=>(Below.refl _ wr).alloc (zz _) X
   have bd:=λX=>(hM.below (hal X)).bound
   have HB:=aA hb;have HM:=aA hM;have HL2:=aA hL;clear hb hM hL;go_upto_region 7 with (fail);obtain ⟨wi,hwi,hbi,f0,f1⟩ : ∃wi,wr.alloc (.cells #[.bool y,.slice s2 n2 c2] 39)=wi/\Below wr.heap.size wr wi/\wi.cell? ⟨wr.heap.size,0,none⟩=some (.bool y)/\wi.cell? ⟨wr.heap.size,1,none⟩=some (.slice s2 n2 c2):=⟨_,rfl,hal _,by simp,by simp⟩;simp only [hwi];obtain ⟨l0,l1⟩:=HL2.out.below hbi;have HWI:=aA (HB.out.trans (hbi.mono HB.out.size));have HMI:=aA (HM.out.below hbi);have CM:=aA (λ(wx:World) (hx:∃m,wx=wi.drewN m)=>(aFa g x y s1 s2 n1 n2 c1 c2 wx hne).mono (R':=λe w3=>e=.returned (.bool false)/\Below wi.heap.size wi w3) (λe w3 he=>by
    obtain ⟨m,rfl⟩:=hx;exact ⟨he.1,(aI ⟨m,rfl⟩).trans he.2⟩))
   clear hwi bd hbi hal e0 e1;first | go_region_with (go_at_call 153;refine (aB CM _ (by first | exact ⟨0,rfl⟩ | exact ⟨1,rfl⟩ | exact ⟨_,rfl⟩)).mono ?_;rintro e w3 ⟨rfl,hb3⟩;have q0:=Below.at' hb3 (zz _) f0;have q1:=Below.at' hb3 (zz _) f1;have q2:=Below.at' hb3 (zz _) l0;have q3:=Below.at' hb3 (zz _) l1;have CF:=aA (aFb g _ w3 (HMI.out.below hb3));have HB3:=aA (HWI.out.trans (hb3.mono HWI.out.size));clear hb3) | fail
   all_goals
    go_wp2_with (first
     | (go_at_call 154;refine (aB CF).mono ?_;rintro e w4 ⟨⟨u,rfl⟩,hb4⟩;have HB4:=aA (HB3.out.trans (hb4.mono HB3.out.size));clear hb4)
     | go_in)
    exact ⟨⟨1,by omega,rfl,HB4.out⟩,by simp [intOf]⟩
  ·have HB:=aA hb;go_wp2;go_ret;exact ⟨rfl,HB.out⟩
theorem aBc(h:d.length<c.length):cD c d=false:=
 (aLj (r:=false) ⟨λh=>(by cases h),λh'=>by omega⟩).symm
theorem aBd{l:Lt}(hl:l∈c)(hd:∀m∈d,m.1≠l.1):cD c d=false:=
 (aLj (r:=false) ⟨λh=>(by cases h),λ⟨_,σ,_,_,h⟩=>absurd rfl (hd (l.1,subst σ l.2) (h l hl))⟩).symm
theorem aN6(g b o dc b1 o1 lc:Nat)(x y:Bool)(s1 s2:Option Addr)(n1 n2 c1 c2:Nat)(w:World)(h:kN w g (.slice (some ⟨b,o,none⟩) 1 dc))(hd:lU w b o y s2 n2 c2)(hl:lU w b1 o1 x s1 n1 c1)(hne:x≠y)(hlc:1<=lc):Calls zy 126 #[.pointer (some ⟨g,0,none⟩),.slice (some ⟨b1,o1,none⟩) 1 lc] w λe w'=>e=.returned (.bool false)/\Below w.heap.size w w':=by
 have CL:=aA (aN2 g b1 o1 lc w hlc);have CG:=aA (λ(wx:World) (hb:Below w.heap.size w wx)=>aN5 g b o dc b1 o1 x y s1 s2 n1 n2 c1 c2 wx (h.below hb) (hd.below hb) (hl.below hb) hne);clear h hd hl;go_enter Tryz.func126,Tryz.ntmps126;go_wp2;go_loopw [1] (λl wr=>l=.slice (some ⟨b1,o1,none⟩) 1 lc/\wr=w) (λ_ _=>0);case atStart=>exact ⟨rfl,rfl⟩
 case round=>
  obtain ⟨rfl,hwr⟩:=hrel;subst hwr;go_wp2_with (first
   | (go_at_call 139;refine (aB CG _ HB1.out).mono ?_;rintro e w2 ⟨rfl,hb2⟩;have HB2:=aA (HB1.out.trans (hb2.mono HB1.out.size));clear hb2)
   | (go_at_call 138;refine (aB CL).mono ?_;rintro e w1 ⟨rfl,hb1⟩;have HB1:=aA hb1;clear hb1)
   | go_in)
  go_ret;exact ⟨rfl,HB2.out⟩
theorem kN.new(w:World)(dv:Value):kN (w.alloc (.cells (gO dv) 177)) w.heap.size dv:=by
 have hh:(w.alloc (.cells (gO dv) 177)).heap[w.heap.size]?=some (.cells (gO dv) 177 (0,0)):=World.alloc_heap_new w _;have hc:∀j,(w.alloc (.cells (gO dv) 177)).cell? ⟨w.heap.size,j,none⟩=(gO dv)[j]?:=λj=>by unfold World.cell?;simp only [hh];rfl
 exact ⟨⟨_,hh⟩,by rw [hc];exact aF6 dv,by rw [hc];exact aF7 dv 60 (by omega)⟩
theorem bM.oneL{B:Nat}{ad:Option Addr}{cp:Nat}{l:Lt}(h:bM B w (.slice ad [l].length cp) [l]):∃b s n c,ad=some ⟨b,0,none⟩/\1<=cp/\lU w b 0 l.1 s n c:=by
 obtain ⟨Q,q1,q2,q3,_⟩:=h;obtain ⟨q,rfl⟩ : ∃q,Q=[q]:=by
  match Q,q1 with
  | [q],_=>exact ⟨q,rfl⟩
 simp at q1;subst q1;obtain ⟨a',cap',e,hc⟩:=qR q2;obtain ⟨g,e1,e2,e3⟩:=hc 0 (by simp);obtain ⟨aa,cc,e4⟩:=aS (q3 q (by simp));simp at e e1 e2 e3;obtain ⟨rfl,rfl⟩:=e;subst e1;refine ⟨g,aa,_,cc,rfl,?_,⟨by simpa using e2,by rw [<-e4];simpa using e3⟩⟩;obtain ⟨_,⟨e,_⟩ | ⟨g',cap',cur,e,_,_,hh,_⟩⟩:=q2
 ·cases e
 ·simp at e hh;omega
theorem aFd{l m:Lt}(hne:l.1≠m.1):lA [l] [m]:=by intro B a1 a2 c1 c2 w h1 h2;have hcov:cD [l] [m]=false:=aBd (l:=l) (by simp) (by intro x hx;simp at hx;subst hx;exact λe=>hne e.symm);rw [hcov];obtain ⟨b1,s1,n1,k1,rfl,hc1,o1⟩:=h1.oneL;obtain ⟨b2,s2,n2,k2,rfl,_,o2⟩:=h2.oneL;have hbm:Below w.heap.size w (w.alloc (.cells (gO (.slice (some ⟨b2,0,none⟩) 1 c2)) 177)):=(Below.refl _ _).alloc (zz _) _;have CA:=aA (aN6 w.heap.size b2 0 c2 b1 0 c1 l.1 m.1 s1 s2 n1 n2 k1 k2 _ (kN.new w (.slice (some ⟨b2,0,none⟩) 1 c2)) (o2.below hbm) (o1.below hbm) hne hc1);have HB:=aA hbm;clear h1 h2 hcov o1 o2 hbm;simp only [List.length_cons,List.length_nil,Nat.zero_add];go_enter Tryz.func100,Tryz.ntmps100;go_upto_region 1 with (fail);apply wp_region_lit;refine aF9 rfl rfl rfl rfl _ _ _ _ rfl rfl rfl rfl (some ⟨b2,0,none⟩) 1 c2 rfl (by rfl) (by rfl) (by rfl) ?_;go_wp2_with (go_at_call 126;refine (aB CA).mono ?_;rintro e w4 ⟨rfl,hb4⟩;have HB4:=aA (HB.out.trans (hb4.mono HB.out.size));clear hb4);go_ret;exact ⟨rfl,HB4.out⟩
theorem aN7(h:d.length<c.length):lA c d:=by
 intro B a1 a2 c1 c2 w _ _;rw [aBc h];have HB3:=aA ((Below.refl w.heap.size w).alloc (zz _) (.cells (gO (.slice a2 d.length c2)) 177));have hlei:decide ((c.length:Int)<=(d.length:Int))=false:=by rw [decide_eq_false_iff_not];omega
 have hlt:(d.length:Int)<(c.length:Int):=by omega
 go_enter Tryz.func100,Tryz.ntmps100;go_upto_region 1 with (fail);apply wp_region_lit;refine aF9 rfl rfl rfl rfl _ _ _ _ rfl rfl rfl rfl a2 d.length c2 rfl (by rfl) (by rfl) (by rfl) ?_;go_wp2;go_ret;exact ⟨rfl,HB3.out⟩
end
section
open Go.RowKit Go.WideMaps
theorem aN8(s:ByteArray)(w:World)(hs0:s.size<=140737488355328):Calls zy 9 #[.string s] w λe w'=>RdQ s w e w':=by
 have CS:=aA (aGn s w hs0);go_enter Tryz.func9,Tryz.ntmps9;go_wp2_with (first
  | (go_at_call 21;refine (aB CS).mono ?_;rintro e w1 ⟨v,QV,at1,er1,rfl,h1,h2,h3⟩;have H1:=aA h1;have H2:=aA h2;have H3:=aA h3;clear h1 h2 h3)
  | go_in)
 go_returns;exact ⟨_,QV,at1,er1,rfl,H1.out,H2.out,H3.out⟩
end
end Go.Proofs.YtcldkjcpofjmhaaGreatDoor
