/- The program: nodes, sizes, literals that are the same. The program: literals, each once. -/
import Derived.Test.YtbddofieljiihaaGreatDoorBase0I
import Derived.Shelf.Abstract
namespace Go.Proofs.YtbddofieljiihaaGreatDoor
open Go.RowKit Go.Shelf
set_option maxRecDepth 100000
theorem nE (s:ByteArray) (x:Int) (w:World) :
  Calls Tryz.prog 49 #[.agg #[.string s,.int .i64 x]] w fun e w'=>e=.returned (.bool s.toList.isEmpty)∧Below w.heap.size w w':=by
 go_enter Tryz.func49,Tryz.ntmps49
 go_wp2
 go_ret
 exact ⟨rfl,(Below.refl _ _).alloc (Nat.le_refl _) _⟩
theorem gD {w w1:World} {s x:Value} {t:TypeId} (hb:Below (w.alloc (.cells #[s,x] t)).heap.size (w.alloc (.cells #[s,x] t)) w1) :
  w1.cell? ⟨w.heap.size,0,none⟩=some s∧w1.cell? ⟨w.heap.size,1,none⟩=some x∧Below w.heap.size w w1:=
 ⟨Below.at' hb (Nat.le_refl _) (by simp),Below.at' hb (Nat.le_refl _) (by simp),((Below.refl _ _).alloc (Nat.le_refl _) _).trans (hb.mono (by simp))⟩
set_option maxHeartbeats 400000 in
theorem aAa (a:Option Addr) (cp:Nat) (c:List Lt) (w:World) (h:bP w a c) (h8:c.length≤100000) :
  Calls Tryz.prog 47 #[.slice a c.length cp] w fun e w'=>e=.returned (.int .i64 (aN c))∧Below w.heap.size w w':=by
 have hc:aN c≤100000 * 5864062014805:=Nat.le_trans (aIv c fun k hk=>by obtain ⟨_,_,_,_,_,_,_,g⟩:=h.cell k hk;exact g.few) (Nat.mul_le_mul_right _ h8)
 go_enter Tryz.func47,Tryz.ntmps47
 go_wp2
 go_loopw [3,8] (fun s i wr=>∃k:Nat,k≤c.length∧i=.int .i64 k∧s=.int .i64 (aN (c.take k))∧Below w.heap.size w wr) (fun _ i _=>c.length - (intOf i).toNat)
 case atStart=>exact ⟨0,Nat.zero_le _,rfl,rfl,Below.refl _ _⟩
 case round=>
  obtain ⟨k,hk,rfl,rfl,hb⟩:=hrel
  have hct:=tF c k
  by_cases hlt:k < c.length
  ·obtain ⟨p1,o1,aa1,cp1,rfl,e1,f1,g1⟩:=h.cell k hlt
   have hg:=g1.few
   have HS:Hid (aN (c.take (k+1))=aN (c.take k)+c[k].2.length):=by
    rw [List.take_succ_eq_append_getElem hlt,oI]
    exact rfl
   have e2:=Below.at' hb (Nat.le_refl _) e1
   have f2:=Below.at' hb (Nat.le_refl _) f1
   have HB:=aA hb
   clear h g1 e1 f1 hb
   go_wp2
   go_roundw
   case rel=>exact ⟨k+1,by omega,by go_num,by rw [HS.out];go_num,HB.out.alloc HB.out.size _⟩
   case measure=>simp [intOf];omega
  ·have HB:=aA hb
   clear hb
   go_wp2
   go_ret
   have hk1:c.take k=c:=List.take_of_length_le (by omega)
   rw [hk1]
   exact ⟨rfl,HB.out⟩
theorem wO (a:Option Addr) (cp:Nat) (c:List Lt) (w:World) (h:bP w a c) (h8:c.length≤8) :
 Calls Tryz.prog 47 #[.slice a c.length cp] w fun e w'=>e=.returned (.int .i64 (aN c))∧Below w.heap.size w w':=aAa a cp c w h (by omega)
set_option maxHeartbeats 400000 in
theorem tY (a:Option Addr) (cp:Nat) (c:List Lt) (w:World) (h:bP w a c) :
  Calls Tryz.prog 29 #[.slice a c.length cp] w fun e w'=>e=.returned (.bool (dQ c))∧Below w.heap.size w w':=by
 have b:=h.few
 by_cases h8:c.length≤8
 ·have CC:=aA (wO a cp c w h h8)
  have HF:=aA (show dQ c=decide ((aN c:Int)≤60) by simp [dQ,h8];omega)
  clear h
  go_enter Tryz.func29,Tryz.ntmps29
  go_wp2_with (go_at_call 47;refine (aB CC).mono ?_;rintro e w' ⟨rfl,hb⟩;have HB:=aA hb;clear hb)
  go_ret
  exact ⟨cO HF.out.symm,HB.out⟩
 ·have hf:dQ c=false:=by simp [dQ,h8]
  rw [hf]
  clear hf h
  go_enter Tryz.func29,Tryz.ntmps29
  go_wp2
  go_ret
  exact ⟨rfl,Below.refl _ _⟩
set_option maxHeartbeats 400000 in
theorem aEw (a1 a2:Option Addr) (c1 c2:Nat) (l1 l2:List (ByteArray×Int)) (w:World) (h1:dB w a1 l1) (h2:dB w a2 l2) :
  Calls Tryz.prog 64 #[.slice a1 l1.length c1,.slice a2 l2.length c2] w fun e w'=>e=.returned (.bool (decide (l1=l2)))∧∃n,w'=w.drewN n:=by
 have b1:=h1.few
 have b2:=h2.few
 by_cases hl:l1.length=l2.length
 ·have hn:((l1.length:Int) != (l2.length:Int))=false:=by rw [hl];simp
  have HL:Hid (l1.length=l2.length):=hl
  clear hl
  go_enter Tryz.func64,Tryz.ntmps64
  go_wp2
  go_loopw [13] (fun i wr=>∃k:Nat,k≤l1.length∧i=.int .i64 k∧(∃n,wr=w.drewN n)∧l1.take k=l2.take k) (fun i _=>l1.length - (intOf i).toNat)
  case atStart=>exact ⟨0,Nat.zero_le _,rfl,⟨0,rfl⟩,rfl⟩
  case round=>
   obtain ⟨k,hk,rfl,⟨n,rfl⟩,ht⟩:=hrel
   by_cases hlt:k < l1.length
   ·obtain ⟨p1,o1,rfl,e1,f1⟩:=h1.cell k hlt
    have hlt2:(k:Int) < (l2.length:Int):=by have:=HL.out;omega
    have hlt3:k < l2.length:=by omega
    obtain ⟨p2,o2,rfl,e2,f2⟩:=h2.cell k hlt3
    have hb:=sZ l1[k] l2[k]
    have g:=sY
    have q:=tA l1[k].1 l2[k].1 l1[k].2 l2[k].2
    clear h1 h2
    by_cases he:l1[k]=l2[k]
    ·rw [decide_eq_true he] at hb
     have HE:Hid (l1[k]=l2[k]):=he
     clear he
     go_wp2
     go_quiet (fail)
     go_wp2
     go_roundw
     case rel=>exact ⟨k+1,by omega,by go_num,(by first | exact jX _ _ _ | exact ⟨_,rfl⟩),by rw [List.take_succ_eq_append_getElem hlt,List.take_succ_eq_append_getElem hlt3,ht,HE.out]⟩
     case measure=>simp [intOf];omega
    ·rw [decide_eq_false he] at hb
     have HE:Hid (¬l1[k]=l2[k]):=he
     clear he
     go_wp2
     go_quiet (fail)
     go_wp2
     go_ret
     refine ⟨?_,(by first | exact jX _ _ _ | exact ⟨_,rfl⟩)⟩
     have:¬l1=l2:=fun h=>HE.out (by subst h;rfl)
     simp [this]
   ·go_wp2
    go_ret
    refine ⟨?_,⟨_,rfl⟩⟩
    have hk1:l1.take k=l1:=List.take_of_length_le (by omega)
    have hk2:l2.take k=l2:=List.take_of_length_le (by have:=HL.out;omega)
    rw [hk1,hk2] at ht
    simp [ht]
 ·have hn:((l1.length:Int) != (l2.length:Int))=true:=by rw [bne_iff_ne];omega
  have hne:¬l1=l2:=fun h=>hl (by rw [h])
  have HN:Hid (¬l1=l2):=hne
  clear hne hl
  go_enter Tryz.func64,Tryz.ntmps64
  go_wp2
  go_ret
  exact ⟨by simp [HN.out],0,rfl⟩
set_option maxHeartbeats 400000 in
theorem aAb (xb yb:Bool) (a1 a2:Option Addr) (c1 c2:Nat) (xl yl:List Nd) (w:World) (h1:dB w a1 xl) (h2:dB w a2 yl) :
  Calls Tryz.prog 41 #[.agg #[.bool xb,.slice a1 xl.length c1],.agg #[.bool yb,.slice a2 yl.length c2]] w fun e w'=>e=.returned (.bool (jY (xb,xl) (yb,yl)))∧Below w.heap.size w w':=by
 have hb0:Below w.heap.size w ((w.alloc (.cells #[.bool xb,.slice a1 xl.length c1] 74)).alloc (.cells #[.bool yb,.slice a2 yl.length c2] 74)):=((Below.refl _ _).alloc (Nat.le_refl _) _).alloc (by simp) _
 have CE:=aA (aEw a1 a2 c1 c2 xl yl _ (h1.below hb0 (Nat.le_refl _)) (h2.below hb0 (Nat.le_refl _)))
 have HB0:=aA hb0
 clear hb0 h1 h2
 by_cases hb:xb=yb
 ·subst hb
  have HE:=aA (show jY (xb,xl) (xb,yl)=decide (xl=yl) by simp [jY])
  go_enter Tryz.func41,Tryz.ntmps41
  go_wp2_with (go_at_call 64;refine (aB CE).mono ?_;rintro e w1 ⟨rfl,hd⟩;have HB1:=aA (HB0.out.trans ((aJ hd).mono (by simp;omega)));clear hd)
  go_ret
  exact ⟨cO HE.out.symm,HB1.out⟩
 ·have HE:=aA (show jY (xb,xl) (yb,yl)=false by simp [jY,hb])
  have hbe:(xb == yb)=false:=by simp [hb]
  clear hb
  go_enter Tryz.func41,Tryz.ntmps41
  go_wp2
  go_ret
  exact ⟨cO HE.out.symm,HB0.out⟩
theorem aP4 (xb yb:Bool) (a1 a2:Option Addr) (c1 c2 g:Nat) (xl yl:List Nd) (w:World) (h1:dB w a1 xl) (h2:dB w a2 yl) (g0:w.cell? ⟨g,0,none⟩=some (.bool yb)) (g1:w.cell? ⟨g,1,none⟩=some (.slice a2 yl.length c2)) :
  Calls Tryz.prog 79 #[.agg #[.bool xb,.slice a1 xl.length c1],.pointer (some ⟨g,0,none⟩)] w fun e w'=>e=.returned (.bool (jY (xb,xl) (yb,yl)))∧Below w.heap.size w w':=by
 have hb0:Below w.heap.size w (w.alloc (.cells #[.bool xb,.slice a1 xl.length c1] 74)):=(Below.refl _ _).alloc (Nat.le_refl _) _
 have CS:=aA (aAb xb yb a1 a2 c1 c2 xl yl _ (h1.below hb0 (Nat.le_refl _)) (h2.below hb0 (Nat.le_refl _)))
 have q0:=Below.at' hb0 (Nat.le_refl _) g0
 have q1:=Below.at' hb0 (Nat.le_refl _) g1
 have HB0:=aA hb0
 clear hb0 h1 h2
 go_enter Tryz.func79,Tryz.ntmps79
 go_wp2_with (go_at_call 41;refine (aB CS).mono ?_;rintro e w1 ⟨rfl,hb⟩;have HB1:=aA (HB0.out.trans (hb.mono (by simp)));clear hb)
 go_ret
 exact ⟨rfl,HB1.out⟩
theorem jN.below {w w1:World} {v:Value} {l:List Nd} (h:jN w v l) {B:Nat} (k:Below B w w1) (hB:w.heap.size≤B):jN w1 v l:=by
 obtain ⟨a,cap,h1,h2⟩:=h
 exact ⟨a,cap,h1,h2.below k hB⟩
theorem aEx (P:List (Lt×Value)) (y:Lt) (k:Nat) (h:k < P.length):eX ((P.map Prod.fst).take (k+1)) y=(eX ((P.map Prod.fst).take k) y || jY P[k].1 y):=by
 rw [List.take_succ_eq_append_getElem (by simpa using h),aIw,aC9]
 simp
theorem aEy (P:List (Lt×Value)) (y:Lt) (k:Nat) (h:eX ((P.map Prod.fst).take k) y=true):eX (P.map Prod.fst) y=true:=by
 rw [vI] at h ⊢
 exact List.mem_of_mem_take h
set_option maxHeartbeats 1000000 in
theorem aP5 (a a2:Option Addr) (cap c2 g:Nat) (P:List (Lt×Value)) (yb:Bool) (yl:List Nd) (w:World) (hf:P.length≤4398046511104)
  (hc:∀k (h:k < P.length),∃g',a=some ⟨g',0,none⟩∧w.cell? ⟨g',k * 2,none⟩=some (.bool P[k].1.1)∧w.cell? ⟨g',k * 2+1,none⟩=some P[k].2)
  (hA:∀p∈P,jN w p.2 p.1.2) (h2:dB w a2 yl) (g0:w.cell? ⟨g,0,none⟩=some (.bool yb)) (g1:w.cell? ⟨g,1,none⟩=some (.slice a2 yl.length c2)) :
  Calls Tryz.prog 107 #[.slice a P.length cap,.func (Fn.func 79) #[] #[.pointer (some ⟨g,0,none⟩)]] w fun e w'=>∃r:Int,e=.returned (.int .i64 r)∧decide (0≤r)=eX (P.map Prod.fst) (yb,yl)∧Below w.heap.size w w':=by
 have HC:=aA hc
 have HA:=aA hA
 have H2:=aA h2
 clear hc hA h2
 go_enter Tryz.func107,Tryz.ntmps107
 go_wp2
 go_loopw [8] (fun i wr=>∃k:Nat,k≤P.length∧i=.int .i64 k∧eX ((P.map Prod.fst).take k) (yb,yl)=false∧Below w.heap.size w wr) (fun i _=>P.length - (intOf i).toNat)
 case atStart=>exact ⟨0,Nat.zero_le _,rfl,rfl,Below.refl _ _⟩
 case round=>
  obtain ⟨k,hk,rfl,hm,hb⟩:=hrel
  have HM:=aA hm
  clear hm
  by_cases hlt:k < P.length
  ·obtain ⟨g',rfl,e1,f1⟩:=HC.out k hlt
   obtain ⟨pa,pcp,hpv,hpn⟩:=HA.out P[k] (List.getElem_mem _)
   rw [hpv] at f1
   have hmt:=aEx P (yb,yl) k hlt
   rw [HM.out,Bool.false_or] at hmt
   have hmx:=aEy P (yb,yl) (k+1)
   rw [hmt] at hmx
   generalize P[k].1=x at *
   obtain ⟨xb,xl⟩:=x
   simp only at e1 f1 hpn
   have e2:=Below.at' hb (Nat.le_refl _) e1
   have f2:=Below.at' hb (Nat.le_refl _) f1
   have CL:=aA (aP4 xb yb pa a2 pcp c2 g xl yl wr (hpn.below hb (Nat.le_refl _)) (H2.out.below hb (Nat.le_refl _)) (Below.at' hb (Nat.le_refl _) g0) (Below.at' hb (Nat.le_refl _) g1))
   have HMT:=aA hmt
   have HMX:=aA hmx
   have HB:=aA hb
   have hbs:=hb.size
   clear hmt hmx hb hpv hpn e1 f1
   cases hl:jY (xb,xl) (yb,yl)
   ·rw [hl] at CL HMT
    clear hl
    go_wp2_with (go_at_call 79;refine (aB CL).mono ?_;rintro e w1 ⟨rfl,hb1⟩;have HB1:=aA (HB.out.trans (hb1.mono hbs));clear hb1)
    go_roundw
    case rel=>exact ⟨k+1,by omega,by go_num,HMT.out,HB1.out⟩
    case measure=>simp [intOf];omega
   ·rw [hl] at CL HMX
    clear hl
    go_wp2_with (go_at_call 79;refine (aB CL).mono ?_;rintro e w1 ⟨rfl,hb1⟩;have HB1:=aA (HB.out.trans (hb1.mono hbs));clear hb1)
    go_ret
    exact ⟨_,rfl,by rw [HMX.out (by first | rfl | trivial)];simp,HB1.out⟩
  ·have hk1:(P.map Prod.fst).take k=P.map Prod.fst:=List.take_of_length_le (by simp;omega)
   rw [hk1] at HM
   have HB:=aA hb
   clear hk1 hb
   go_wp2
   go_ret
   exact ⟨_,rfl,by rw [HM.out];rfl,HB.out⟩
theorem aP6 (a a2:Option Addr) (cap c2 g:Nat) (P:List (Lt×Value)) (yb:Bool) (yl:List Nd) (w:World) (hf:P.length≤4398046511104)
  (hc:∀k (h:k < P.length),∃g',a=some ⟨g',0,none⟩∧w.cell? ⟨g',k * 2,none⟩=some (.bool P[k].1.1)∧w.cell? ⟨g',k * 2+1,none⟩=some P[k].2)
  (hA:∀p∈P,jN w p.2 p.1.2) (h2:dB w a2 yl) (g0:w.cell? ⟨g,0,none⟩=some (.bool yb)) (g1:w.cell? ⟨g,1,none⟩=some (.slice a2 yl.length c2)) :
  Calls Tryz.prog 80 #[.slice a P.length cap,.func (Fn.func 79) #[] #[.pointer (some ⟨g,0,none⟩)]] w fun e w'=>e=.returned (.bool (eX (P.map Prod.fst) (yb,yl)))∧Below w.heap.size w w':=by
 have CI:=aA (aP5 a a2 cap c2 g P yb yl w hf hc hA h2 g0 g1)
 clear hc hA h2 g0 g1
 go_enter Tryz.func80,Tryz.ntmps80
 go_wp2_with (go_at_call 107;refine (aB CI).mono ?_;rintro e w1 ⟨r,rfl,hr,hb⟩;have HR:=aA hr;have HB:=aA hb;clear hr hb)
 go_ret
 exact ⟨cO HR.out,HB.out⟩
set_option maxHeartbeats 1000000 in
theorem aEz (a:Option Addr) (cp:Nat) (c:List Lt) (w:World) (h:bP w a c) :
  Calls Tryz.prog 50 #[.slice a c.length cp] w fun e w'=>∃v P,e=.returned v∧P.map Prod.fst=bQ c∧(∀p∈P,jN w p.2 p.1.2)∧w'.ownsRow w.heap.size 74 2 v P.length (aT P)∧Below w.heap.size w w':=by
 obtain ⟨iL,hL,hL0,hL1,hL2⟩:=info_parts qP
 have hf:=h.few
 go_enter Tryz.func50,Tryz.ntmps50
 go_wp2
 go_loopw [3,9] (fun o i wr=>∃(k:Nat) (P:List (Lt×Value)),k≤c.length∧i=.int .i64 k∧P.map Prod.fst=bQ (c.take k)∧(∀p∈P,jN w p.2 p.1.2)∧wr.ownsRow w.heap.size 74 2 o P.length (aT P)∧Below w.heap.size w wr)
  (fun _ i _=>c.length - (intOf i).toNat)
 case atStart=>exact ⟨0,[],Nat.zero_le _,rfl,rfl,fun p hp=>by simp at hp,World.ownsRow_nil _ _ _ _,Below.refl _ _⟩
 case round=>
  obtain ⟨k,P,hk,rfl,hP,hA,ho,hb⟩:=hrel
  have hPl:P.length≤k:=by
   have h1:=(qO (c.take k)).1
   have h2:P.length=(bQ (c.take k)).length:=by rw [←hP];simp
   have h3:(c.take k).length≤k:=List.length_take_le _ _
   omega
  by_cases hlt:k < c.length
  ·obtain ⟨b,q,aa,acp,rfl,e1,f1,g1⟩:=h.cell k hlt
   have e2:=Below.at' hb (Nat.le_refl _) e1
   have f2:=Below.at' hb (Nat.le_refl _) f1
   have hst:=aIx c k hlt
   rw [←hP] at hst
   generalize c[k]=x at *
   obtain ⟨xb,xl⟩:=x
   simp only at e2 f2 g1
   obtain ⟨oa,ocp,rfl,hoc⟩:=rT ho
   have hbs:=hb.size
   have hbx:Below w.heap.size w (wr.alloc (.cells #[.bool xb,.slice aa xl.length acp] 74)):=hb.alloc hbs _
   have hbw:Below wr.heap.size wr (wr.alloc (.cells #[.bool xb,.slice aa xl.length acp] 74)):=(Below.refl _ _).alloc (Nat.le_refl _) _
   have CC:=aA (aP6 oa aa ocp acp wr.heap.size P xb xl (wr.alloc (.cells #[.bool xb,.slice aa xl.length acp] 74)) (by omega)
    (fun j hj=>by obtain ⟨g',h1,h2,h3⟩:=hoc j hj;exact ⟨g',h1,Below.at' hbw (Nat.le_refl _) h2,Below.at' hbw (Nat.le_refl _) h3⟩)
    (fun p hp=>(hA p hp).below hbx (Nat.le_refl _)) (g1.below hbx (Nat.le_refl _)) (by simp) (by simp))
   have HST:=aA hst
   have HA:=aA hA
   have HG:=aA g1
   have HBX:=aA hbx
   have HO:=aA ho
   clear e1 f1 h hst hP hA hoc hb g1 hbx hbw
   cases hm:eX (P.map Prod.fst) (xb,xl)
   ·have HST':Hid (bQ (c.take (k+1))=P.map Prod.fst++[(xb,xl)]):=aA (by rw [HST.out];simp [dK,hm])
    rw [hm] at CC
    clear hm HST
    go_wp2_with (first
     | (go_at_call 80;refine (aB CC).mono ?_;rintro e w1 ⟨rfl,hb1⟩;obtain ⟨q1,q2,q3⟩:=gD hb1;have ho1:=aZ (ho.alloc (.cells #[.bool xb,.slice aa xl.length acp] 74)) hb1 (Nat.le_refl _);have HB1:=aA (HBX.out.trans (hb1.mono HBX.out.size));have h1s:=HB1.out.size;clear hb1 q3)
     | (at_builtin;refine wpList_append_own _ rfl _ _ 24 rfl w.heap.size 74 iL (.agg #[.bool false,.slice none 0 0]) 2 32 Tryz.underlying24 hL hL0 hL1 hL2 rfl (by decide) _ _ _ rfl (ho1.alloc _) ⟨w1.heap.size,0,none⟩ 1 1 [.bool xb,.slice aa xl.length acp] rfl rfl ?c1 ?c2 ?c3 ?c4 ?c5 ?_)
     | go_in)
    case c1=>exact iV _ _ _ _ _ (by simp)
    case c2=>first | exact qQ _ _ _ _ | exact ⟨rfl,rfl⟩
    case c3=>unfold maxLen;omega
    case c4=>omega
    case c5=>exact Nat.le_trans h1s (World.grownBy_alloc _ _ none).size
    intro v' w2 ho' hg' _
    have R:=aJ0 (x:=(xb,xl)) (ho1.alloc _) (HB1.out.alloc h1s _) ho' hg'
    clear ho' hg' ho1
    go_wp2
    go_roundw
    case rel=>exact ⟨k+1,P++[((xb,xl),.slice aa xl.length acp)],by omega,by go_num,by rw [HST'.out];simp,aIz HA.out ⟨aa,acp,rfl,HG.out⟩,R.1,R.2⟩
    case measure=>simp [intOf];omega
   ·have HST':Hid (bQ (c.take (k+1))=P.map Prod.fst):=aA (by rw [HST.out];simp [dK,hm])
    rw [hm] at CC
    clear hm HST
    go_wp2_with (first
     | (go_at_call 80;refine (aB CC).mono ?_;rintro e w1 ⟨rfl,hb1⟩;have HO1:=aA (aZ (HO.out.alloc (.cells #[.bool xb,.slice aa xl.length acp] 74)) hb1 (Nat.le_refl _));have HB1:=aA (HBX.out.trans (hb1.mono HBX.out.size));clear hb1)
     | go_in)
    go_roundw
    case rel=>exact ⟨k+1,P,by omega,by go_num,HST'.out.symm,HA.out,HO1.out,HB1.out⟩
    case measure=>simp [intOf];omega
  ·have hk1:c.take k=c:=List.take_of_length_le (by omega)
   rw [hk1] at hP
   have F:=aA (And.intro hP (And.intro hA (And.intro ho hb)))
   clear hk1 hP hA ho hb
   go_wp2
   go_ret
   exact ⟨_,P,rfl,F.out⟩
end Go.Proofs.YtbddofieljiihaaGreatDoor
