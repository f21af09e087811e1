/- The program: how many literals one can be made, and which can be made the fewest. The program: the literal that can be made the fewest. The program: does a free variable stand in both literals? The program: does a free variable stand in both literals? (the call) Lists of literals that the matcher makes. The program: literals that hang together by free variables. -/
import Derived.Test.YtbddofieljiihaaGreatDoorPClauseI
import Derived.Deep.RegionWith
import Derived.ArgAppend
import Derived.Deep.AppendLies
namespace Go.Proofs.YtbddofieljiihaaGreatDoor
open Go.RowKit Go.Shelf
set_option maxRecDepth 100000
def jZ (c:List Lt):Prop:=∀l∈c,aI l.2 1=true∧l.2.length≤60
theorem bN.len {w:World} {B g:Nat} {dv:Value} {L:aU} (h:bN w B g dv L):∃a cap,w.cell? ⟨g,61,none⟩=some (.slice a L.length cap):=by
 obtain ⟨bv,hb,ho⟩:=h.bound
 obtain ⟨a,cap,rfl⟩:=aR ho
 exact ⟨a,cap,hb⟩
theorem qR (w:World) (x y:Value) (T:TypeId):(w.alloc (.cells #[x,y] T)).cell? ⟨w.heap.size,0,none⟩=some x∧(w.alloc (.cells #[x,y] T)).cell? ⟨w.heap.size,1,none⟩=some y:=by simp
set_option maxHeartbeats 1000000 in
theorem aJl (B g:Nat) (da:Option Addr) (dcap:Nat) (d:List Lt) (L:aU) (w:World) (xb:Bool) (xa:Option Addr) (xc:Nat) (xl:List Nd) (hM:bN w B g (.slice da d.length dcap) L) (hD:cJ w B da d) (hX:eT w B xa xl) (tx:aI xl 1=true) (x60:xl.length≤60) (hd:jZ d) :
  Calls Tryz.prog 111 #[.pointer (some ⟨g,0,none⟩),.agg #[.bool xb,.slice xa xl.length xc]] w fun e w'=>∃r:Nat,e=.returned (.int .i64 r)∧r≤8∧bN w' B g (.slice da d.length dcap) L∧Fr B w w':=by
 have hb0:Below w.heap.size w (w.alloc (.cells #[.bool xb,.slice xa xl.length xc] 74)):=(Below.refl _ _).alloc (Nat.le_refl _) _
 have hM1:=hM.below hb0
 have hD1:=hD.fr (Fr.of_below hb0)
 have hX1:=hX.fr (Fr.of_below hb0)
 have hS:=wP (w:=w) (B:=B) #[.bool xb,.slice xa xl.length xc] 74 (by decide) (by decide)
 have hbx:=qR w (.bool xb) (.slice xa xl.length xc) 74
 have hd8:=hD.few
 have HF0:Hid (Fr B w (w.alloc (.cells #[.bool xb,.slice xa xl.length xc] 74))):=aA (Fr.of_below hb0)
 have ham:=hM1.among
 have HM1:=aA hM1
 have HD1:=aA hD1
 have HX1:=aA hX1
 have HS:=aA hS
 have HBX:=aA hbx
 have HD:=aA hd
 clear hM hD hX hb0 hM1 hD1 hX1 hS hbx hd
 go_enter Tryz.func111,Tryz.ntmps111
 go_wp2
 generalize hW:w.alloc (.cells #[.bool xb,.slice xa xl.length xc] 74)=W at *
 clear hW
 go_loopw [5,14] (fun c i wr=>∃k n:Nat,k≤d.length∧n≤k∧i=.int .i64 k∧c=.int .i64 n∧bN wr B g (.slice da d.length dcap) L∧Fr B W wr) (fun _ i _=>d.length - (intOf i).toNat)
 case atStart=>exact ⟨0,0,Nat.zero_le _,Nat.zero_le _,rfl,rfl,HM1.out,Fr.refl _ _⟩
 case round=>
  obtain ⟨k,n,hk,hn,rfl,rfl,hM,hF⟩:=hrel
  by_cases hlt:k < d.length
  ·obtain ⟨b,o,ya,yc,rfl,hs,e1,f1,hyc,hY⟩:=(HD1.out.fr hF).cell k hlt
   obtain ⟨hty,hy60⟩:=HD.out d[k] (List.getElem_mem _)
   obtain ⟨ba,bcap,hbl⟩:=hM.len
   have hlb:(L.length:Int)≤60:=by have:=hM.ok.few;omega
   have hx0:=hF.cell HBX.out.1 HS.out
   have hx1:=hF.cell HBX.out.2 HS.out
   generalize d[k]=y at *
   obtain ⟨yb,yl⟩:=y
   simp only at e1 f1 hty hy60 hY hyc
   have hb2:Below wr.heap.size wr (wr.alloc (.cells #[.bool yb,.slice ya yl.length yc] 74)):=(Below.refl _ _).alloc (Nat.le_refl _) _
   have CM:=aA (aAc B g _ L (wr.alloc (.cells #[.bool yb,.slice ya yl.length yc] 74)) xb yb xa ya xc yc xl yl (hM.below hb2) (HX1.out.fr (hF.trans (Fr.of_below hb2))) (hY.fr (Fr.of_below hb2)) hyc tx hty x60 hy60)
   have HF2:=aA (hF.trans (Fr.of_below hb2))
   have hbl2:=Below.at' hb2 (Nat.le_refl _) hbl
   have hx02:=Below.at' hb2 (Nat.le_refl _) hx0
   have hx12:=Below.at' hb2 (Nat.le_refl _) hx1
   clear hb2 hM hF hY hs hyc hty hy60
   go_wp2_with (first
    | (go_at_call 84;refine (aB CM).mono ?_;rintro e w1 ⟨r,L',rfl,hm1,hf1,⟨M,rfl⟩,-,-⟩;have CF:=aA (aAd B g _ L M w1 hm1);have HF3:=aA (HF2.out.trans hf1);clear hm1 hf1)
    | (go_at_call 85;refine (aB CF).mono ?_;rintro e w2 ⟨rfl,hm2,hf2⟩;have HM2:=aA hm2;have HF4:=aA (HF3.out.trans hf2);clear hm2 hf2))
   ·go_roundw
    case rel=>exact ⟨k+1,n+1,by omega,by omega,by go_num,by go_num,HM2.out,HF4.out⟩
    case measure=>simp [intOf];omega
   ·go_roundw
    case rel=>exact ⟨k+1,n,by omega,by omega,by go_num,rfl,HM2.out,HF4.out⟩
    case measure=>simp [intOf];omega
  ·have HM:=aA hM
   have HF:=aA hF
   clear hM hF
   go_wp2
   go_ret
   exact ⟨n,rfl,by omega,HM.out,HF0.out.trans HF.out⟩
set_option maxHeartbeats 1000000 in
theorem aJm (B g:Nat) (da:Option Addr) (dcap:Nat) (d:List Lt) (L:aU) (w:World) (ca:Option Addr) (ccap:Nat) (c:List Lt) (hM:bN w B g (.slice da d.length dcap) L) (hD:cJ w B da d) (hC:cJ w B ca c) (hd:jZ d) (hc:jZ c) (h0:0 < c.length) :
  Calls Tryz.prog 82 #[.pointer (some ⟨g,0,none⟩),.slice ca c.length ccap] w fun e w'=>∃r:Nat,e=.returned (.int .i64 r)∧r < c.length∧bN w' B g (.slice da d.length dcap) L∧Fr B w w':=by
 have ham:=hM.among
 have hd8:=hD.few
 have hc8:=hC.few
 have HM:=aA hM
 have HD:=aA hD
 have HC:=aA hC
 have HFD:=aA hd
 have HFC:=aA hc
 clear hM hD hC hd hc
 go_enter Tryz.func82,Tryz.ntmps82
 go_wp2_with fail
 go_quiet (fail)
 go_wp2
 go_loopw [5,6,18] (fun b f i wr=>∃k m n:Nat,k≤c.length∧m < c.length∧n≤9∧i=.int .i64 k∧b=.int .i64 m∧f=.int .i64 n∧bN wr B g (.slice da d.length dcap) L∧Fr B w wr) (fun _ _ i _=>c.length - (intOf i).toNat)
 case atStart=>exact ⟨0,0,d.length+1,Nat.zero_le _,h0,by omega,rfl,rfl,by go_num,HM.out.drawn (by first | exact jX _ _ _ | exact ⟨_,rfl⟩),(Fr.refl _ _).drawn (by first | exact jX _ _ _ | exact ⟨_,rfl⟩)⟩
 case round=>
  obtain ⟨k,m,n,hk,hm,hn,rfl,rfl,rfl,hM,hF⟩:=hrel
  by_cases hlt:k < c.length
  ·obtain ⟨b,o,ya,yc,rfl,hs,e1,f1,hyc,hY⟩:=(HC.out.fr hF).cell k hlt
   obtain ⟨hty,hy60⟩:=HFC.out c[k] (List.getElem_mem _)
   generalize c[k]=y at *
   obtain ⟨yb,yl⟩:=y
   simp only at e1 f1 hty hy60 hY hyc
   have hb2:Below wr.heap.size wr (wr.alloc (.cells #[.bool yb,.slice ya yl.length yc] 74)):=(Below.refl _ _).alloc (Nat.le_refl _) _
   have CW:=aA (aJl B g da dcap d L (wr.alloc (.cells #[.bool yb,.slice ya yl.length yc] 74)) yb ya yc yl (hM.below hb2) (HD.out.fr (hF.trans (Fr.of_below hb2))) (hY.fr (Fr.of_below hb2)) hty hy60 HFD.out)
   have HF2:=aA (hF.trans (Fr.of_below hb2))
   clear hb2 hM hF hY hs hyc hty hy60
   go_wp2_with (first
    | (go_at_call 111;refine (aB CW).mono ?_;rintro e w1 ⟨r,rfl,hr8,hm1,hf1⟩;have HM1:=aA hm1;have HF3:=aA (HF2.out.trans hf1);clear hm1 hf1))
   ·go_roundw
    case rel=>exact ⟨k+1,k,r,by omega,hlt,by omega,by go_num,rfl,rfl,HM1.out,HF3.out⟩
    case measure=>simp [intOf];omega
   ·go_roundw
    case rel=>exact ⟨k+1,m,n,by omega,hm,by omega,by go_num,rfl,rfl,HM1.out,HF3.out⟩
    case measure=>simp [intOf];omega
  ·have HM1:=aA hM
   have HF1:=aA hF
   clear hM hF
   go_wp2
   go_ret
   exact ⟨m,rfl,hm,HM1.out,HF1.out⟩
def kT (n:Nd) (l:List Nd):Bool:=l.any fun m=>decide (n=m)
theorem aCk (n:Nd) (l:List Nd):kT n l=true↔n∈l:=by
 simp only [kT,List.any_eq_true,decide_eq_true_eq]
 constructor
 ·rintro ⟨m,h,rfl⟩;exact h
 ·intro h;exact ⟨n,h,rfl⟩
theorem aJn (n:Nd) (l:List Nd) (k:Nat) (h:k < l.length):kT n (l.take (k+1))=(kT n (l.take k) || decide (n=l[k])):=by
 rw [List.take_succ_eq_append_getElem h,kT,kT,List.any_append];simp
theorem aJo {n:Nd} {l:List Nd} {k:Nat} (h:kT n (l.take k)=true):kT n l=true:=by
 rw [aCk] at h ⊢
 exact List.mem_of_mem_take h
set_option maxHeartbeats 1000000 in
theorem aJp (a:Option Addr) (cp:Nat) (l:List Nd) (s:ByteArray) (x:Int) (w:World) (h:dB w a l) :
  Calls Tryz.prog 130 #[.slice a l.length cp,.agg #[.string s,.int .i64 x]] w fun e w'=>∃r:Int,e=.returned (.int .i64 r)∧decide (0≤r)=kT (s,x) l∧Below w.heap.size w w':=by
 have hfew:=h.few
 have hb0:Below w.heap.size w (w.alloc (.cells #[.string s,.int .i64 x] 106)):=(Below.refl _ _).alloc (Nat.le_refl _) _
 have hbx:=qR w (.string s) (.int .i64 x) 106
 have h1:=h.below hb0 (Nat.le_refl _)
 have HB0:=aA hb0
 have HBX:=aA hbx
 have H1:=aA h1
 clear h hb0 hbx h1
 go_enter Tryz.func130,Tryz.ntmps130
 go_wp2
 generalize hW:w.alloc (.cells #[.string s,.int .i64 x] 106)=W at *
 clear hW
 go_loopw [8] (fun i wr=>∃k:Nat,k≤l.length∧i=.int .i64 k∧(∃n,wr=W.drewN n)∧kT (s,x) (l.take k)=false) (fun i _=>l.length - (intOf i).toNat)
 case atStart=>exact ⟨0,Nat.zero_le _,rfl,⟨0,rfl⟩,rfl⟩
 case round=>
  obtain ⟨k,hk,rfl,⟨n,rfl⟩,ht⟩:=hrel
  by_cases hlt:k < l.length
  ·obtain ⟨b,o,rfl,e1,f1⟩:=H1.out.cell k hlt
   have hx0:=HBX.out.1
   have hx1:=HBX.out.2
   have hb:=sZ (s,x) l[k]
   simp only at hb
   have g:=sY
   have q:=tA s l[k].1 x l[k].2
   have hmt:=aJn (s,x) l k hlt
   rw [ht,Bool.false_or] at hmt
   have HT:=aA ht
   clear ht
   by_cases he:(s,x)=l[k]
   ·rw [decide_eq_true he] at hb hmt
    have HM:=aA (aJo hmt)
    clear he hmt
    go_wp2
    go_quiet (fail)
    go_wp2
    go_ret
    refine ⟨_,rfl,?_,HB0.out.trans ((aJ (by first | exact jX _ _ _ | exact ⟨_,rfl⟩)).mono HB0.out.size)⟩
    rw [HM.out]
    simp
   ·rw [decide_eq_false he] at hb hmt
    have HM:=aA hmt
    clear he hmt
    go_wp2
    go_quiet (fail)
    go_wp2
    go_roundw
    case rel=>exact ⟨k+1,by omega,by go_num,(by first | exact jX _ _ _ | exact ⟨_,rfl⟩),HM.out⟩
    case measure=>simp [intOf];omega
  ·have hk1:l.take k=l:=List.take_of_length_le (by omega)
   rw [hk1] at ht
   have HT:=aA ht
   clear hk1 ht
   go_wp2
   go_ret
   exact ⟨_,rfl,by rw [HT.out];rfl,HB0.out.trans ((aJ (by first | exact jX _ _ _ | exact ⟨_,rfl⟩)).mono HB0.out.size)⟩
theorem aJq (a:Option Addr) (cp:Nat) (l:List Nd) (s:ByteArray) (x:Int) (w:World) (h:dB w a l) :
  Calls Tryz.prog 110 #[.slice a l.length cp,.agg #[.string s,.int .i64 x]] w fun e w'=>e=.returned (.bool (kT (s,x) l))∧Below w.heap.size w w':=by
 have hb0:Below w.heap.size w (w.alloc (.cells #[.string s,.int .i64 x] 106)):=(Below.refl _ _).alloc (Nat.le_refl _) _
 have CI:=aA (aJp a cp l s x _ (h.below hb0 (Nat.le_refl _)))
 have HB0:=aA hb0
 clear hb0 h
 go_enter Tryz.func110,Tryz.ntmps110
 go_wp2_with (go_at_call 130;refine (aB CI).mono ?_;rintro e w1 ⟨r,rfl,hr,hb1⟩;have HR:=aA hr;have HB1:=aA (HB0.out.trans (hb1.mono (by simp)));clear hr hb1)
 go_ret
 exact ⟨cO (by first | exact HR.out | simpa using HR.out),HB1.out⟩
def eB (L:aU) (yl:List Nd) (n:Nd):Bool:=aH n && (look L n.2).isNone && kT n yl
theorem aCl (w:World) (a:Option Addr) (l c:Nat):(binOp .eql 72 (.slice a l c) (.slice none 0 0)).run Tryz.prog w=.ok (.bool a.isNone) w:=by
 simp only [binOp]
 simp [run_equal_slice_nil w 72 106 a l c Tryz.underlying72]
theorem qS {W X w1:World} (hX:∃n,X=W.drewN n) (h:Below X.heap.size X w1):Below W.heap.size W w1:=by
 obtain ⟨n,rfl⟩:=hX
 exact (aJ ⟨n,rfl⟩).trans h
set_option maxHeartbeats 1000000 in
theorem aJr (B g mb bb:Nat) (dv:Value) (L:aU) (ya:Option Addr) (yc:Nat) (yl:List Nd) (s:ByteArray) (x:Int) (w:World) (hM:bN w B g dv L) (hY:eT w B ya yl) (hm:w.cell? ⟨mb,0,none⟩=some (.pointer (some ⟨g,0,none⟩))) (hb:w.cell? ⟨bb,1,none⟩=some (.slice ya yl.length yc)) (hok:dG (s,x)=true) :
  Calls Tryz.prog 109 #[.agg #[.string s,.int .i64 x],.pointer (some ⟨mb,0,none⟩),.pointer (some ⟨bb,0,none⟩)] w fun e w'=>e=.returned (.bool (eB L yl (s,x)))∧Below w.heap.size w w':=by
 have hb0:Below w.heap.size w (w.alloc (.cells #[.string s,.int .i64 x] 106)):=(Below.refl _ _).alloc (Nat.le_refl _) _
 have hbx:=qR w (.string s) (.int .i64 x) 106
 have hm1:=Below.at' hb0 (Nat.le_refl _) hm
 have hb1:=Below.at' hb0 (Nat.le_refl _) hb
 have CV:=aA (fun wx=>nE s x wx)
 by_cases hv:s.toList.isEmpty=true
 ·rw [hv] at CV
  have hx:=aFe hok hv
  obtain ⟨hx0,hx1⟩:=hx
  simp only at hx0 hx1
  obtain ⟨m,rfl⟩:=Int.eq_ofNat_of_zero_le hx0
  obtain ⟨v,hvc,hT⟩:=(hM.below hb0).term m (by omega)
  have CC:=aA (fun wx (hw:dB wx ya yl)=>aJq ya yc yl s (m:Int) wx hw)
  have HB0:=aA hb0
  have HY:=aA (hY.fr (Fr.of_below hb0)).nodes
  obtain ⟨hbx0,hbx1⟩:=hbx
  cases hl:look L (m:Int) with
  | none=>
   rw [hl] at hT
   obtain rfl:v=.slice none 0 0:=hT
   have qn:=fun wx=>aCl wx none 0 0
   have HE:=aA (show eB L yl (s,(m:Int))=kT (s,(m:Int)) yl by simp [eB,aH,hv,hl])
   clear hM hY hm hb hb0 hok hv hl
   go_enter Tryz.func109,Tryz.ntmps109
   go_wp2_with fail
   generalize hW:w.alloc (.cells #[.string s,.int .i64 (m:Int)] 106)=W at *
   clear hW
   go_region_held3 (fun w'=>w'.cell? ⟨w.heap.size,0,none⟩=some (.string s)∧w'.cell? ⟨w.heap.size,1,none⟩=some (.int .i64 (m:Int))∧w'.cell? ⟨mb,0,none⟩=some (.pointer (some ⟨g,0,none⟩))∧w'.cell? ⟨bb,1,none⟩=some (.slice ya yl.length yc)∧w'.cell? ⟨g,1+m,none⟩=some (.slice none 0 0)) (go_keep)
    (first
     | (go_at_call 49;refine (aB CV _).mono ?_;rintro e w1 ⟨rfl,hd1⟩;replace hd1:=qS (W:=W) (by first | exact ⟨0,rfl⟩ | exact ⟨1,rfl⟩ | exact ⟨_,rfl⟩) hd1;have c0:=Below.at' hd1 (Nat.le_refl _) hbx0;have c1:=Below.at' hd1 (Nat.le_refl _) hbx1;have c2:=Below.at' hd1 (Nat.le_refl _) hm1;have c3:=Below.at' hd1 (Nat.le_refl _) hb1;have c4:=Below.at' hd1 (Nat.le_refl _) hvc;have HD1:=aA hd1;clear hd1)
     | (go_at_call 110;refine (aB CC _ (HY.out.below HD1.out (Nat.le_refl _))).mono ?_;rintro e w2 ⟨rfl,hd2⟩;have k0:=Below.at' hd2 (Nat.le_refl _) c0;have k1:=Below.at' hd2 (Nat.le_refl _) c1;have k2:=Below.at' hd2 (Nat.le_refl _) c2;have k3:=Below.at' hd2 (Nat.le_refl _) c3;have k4:=Below.at' hd2 (Nat.le_refl _) c4;have HD2:=aA (HD1.out.trans (hd2.mono HD1.out.size));clear hd2))
   go_wp2
   go_ret
   exact ⟨cO HE.out.symm,HB0.out.trans (HD2.out.mono HB0.out.size)⟩
  | some t=>
   rw [hl] at hT
   obtain ⟨ta,tc,rfl,-⟩:=hT
   have qn:=fun wx=>aCl wx (some ta) t.length tc
   have HE:=aA (show eB L yl (s,(m:Int))=false by simp [eB,hl])
   clear hM hY hm hb hb0 hok hv hl CC
   go_enter Tryz.func109,Tryz.ntmps109
   go_wp2_with fail
   generalize hW:w.alloc (.cells #[.string s,.int .i64 (m:Int)] 106)=W at *
   clear hW
   first | go_region_with (go_at_call 49;refine (aB CV _).mono ?_;rintro e w1 ⟨rfl,hd1⟩;replace hd1:=qS (W:=W) (by first | exact ⟨0,rfl⟩ | exact ⟨1,rfl⟩ | exact ⟨_,rfl⟩) hd1;have c0:=Below.at' hd1 (Nat.le_refl _) hbx0;have c1:=Below.at' hd1 (Nat.le_refl _) hbx1;have c2:=Below.at' hd1 (Nat.le_refl _) hm1;have c3:=Below.at' hd1 (Nat.le_refl _) hb1;have c4:=Below.at' hd1 (Nat.le_refl _) hvc;have HD1:=aA hd1;clear hd1) | fail
   all_goals
    go_wp2
    go_ret
    exact ⟨cO HE.out.symm,HB0.out.trans (HD1.out.mono HB0.out.size)⟩
 ·have hv':s.toList.isEmpty=false:=by simpa using hv
  rw [hv'] at CV
  have HE:=aA (show eB L yl (s,x)=false by simp [eB,aH,hv'])
  have HB0:=aA hb0
  obtain ⟨hbx0,hbx1⟩:=hbx
  clear hM hY hm hb hb0 hok hv hv'
  go_enter Tryz.func109,Tryz.ntmps109
  go_wp2_with fail
  generalize hW:w.alloc (.cells #[.string s,.int .i64 x] 106)=W at *
  clear hW
  first | go_region_with (go_at_call 49;refine (aB CV _).mono ?_;rintro e w1 ⟨rfl,hd1⟩;replace hd1:=qS (W:=W) (by first | exact ⟨0,rfl⟩ | exact ⟨1,rfl⟩ | exact ⟨_,rfl⟩) hd1;have c0:=Below.at' hd1 (Nat.le_refl _) hbx0;have c1:=Below.at' hd1 (Nat.le_refl _) hbx1;have c2:=Below.at' hd1 (Nat.le_refl _) hm1;have c3:=Below.at' hd1 (Nat.le_refl _) hb1;have HD1:=aA hd1;clear hd1) | fail
  all_goals
   go_wp2
   go_ret
   exact ⟨cO HE.out.symm,HB0.out.trans (HD1.out.mono HB0.out.size)⟩
theorem aJs {f:Nd→Bool} (l:List Nd) (k:Nat) (h:k < l.length):(l.take (k+1)).any f=((l.take k).any f || f l[k]):=by
 rw [List.take_succ_eq_append_getElem h,List.any_append];simp
theorem aJt {f:Nd→Bool} {l:List Nd} {k:Nat} (h:(l.take k).any f=true):l.any f=true:=by
 rw [List.any_eq_true] at h ⊢
 obtain ⟨x,hx,hf⟩:=h
 exact ⟨x,List.mem_of_mem_take hx,hf⟩
set_option maxHeartbeats 1000000 in
theorem aJu (a:Option Addr) (cap p1 p2:Nat) (f:Nd→Bool) (l:List Nd) (w:World) (h:dB w a l)
  (hc:∀n∈l,∀wx,Below w.heap.size w wx→Calls Tryz.prog 109 #[.agg #[.string n.1,.int .i64 n.2],.pointer (some ⟨p1,0,none⟩),.pointer (some ⟨p2,0,none⟩)] wx fun e w'=>e=.returned (.bool (f n))∧Below wx.heap.size wx w') :
  Calls Tryz.prog 129 #[.slice a l.length cap,.func (Fn.func 109) #[] #[.pointer (some ⟨p1,0,none⟩),.pointer (some ⟨p2,0,none⟩)]] w fun e w'=>∃r:Int,e=.returned (.int .i64 r)∧decide (0≤r)=l.any f∧Below w.heap.size w w':=by
 have hfew:=h.few
 have HC:=aA hc
 clear hc
 go_enter Tryz.func129,Tryz.ntmps129
 go_wp2
 go_loopw [8] (fun i wr=>∃k:Nat,k≤l.length∧i=.int .i64 k∧(l.take k).any f=false∧Below w.heap.size w wr) (fun i _=>l.length - (intOf i).toNat)
 case atStart=>exact ⟨0,Nat.zero_le _,rfl,rfl,Below.refl _ _⟩
 case round=>
  obtain ⟨k,hk,rfl,hm,hb⟩:=hrel
  by_cases hlt:k < l.length
  ·obtain ⟨b,o,rfl,e1,f1⟩:=h.cell k hlt
   have e2:=Below.at' hb (Nat.le_refl _) e1
   have f2:=Below.at' hb (Nat.le_refl _) f1
   have hmt:=aJs (f:=f) l k hlt
   rw [hm,Bool.false_or] at hmt
   have hmx:=aJt (f:=f) (l:=l) (k:=k+1)
   rw [hmt] at hmx
   have CL:=aA (HC.out l[k] (List.getElem_mem _) wr hb)
   generalize l[k]=nd at *
   obtain ⟨s,x⟩:=nd
   simp only at e2 f2
   have HMT:=aA hmt
   have HMX:=aA hmx
   have HB:=aA hb
   have hbs:=hb.size
   clear hmt hmx hb hm e1 f1
   cases hl:f (s,x)
   ·rw [hl] at CL HMT
    clear hl
    go_wp2_with (go_at_call 109;refine (aB CL).mono ?_;rintro e w1 ⟨rfl,hb1⟩;have HB1:=aA (HB.out.trans (hb1.mono hbs));clear hb1)
    go_roundw
    case rel=>exact ⟨k+1,by omega,by go_num,HMT.out,HB1.out⟩
    case measure=>simp [intOf];omega
   ·rw [hl] at CL HMX
    clear hl
    go_wp2_with (go_at_call 109;refine (aB CL).mono ?_;rintro e w1 ⟨rfl,hb1⟩;have HB1:=aA (HB.out.trans (hb1.mono hbs));clear hb1)
    go_ret
    exact ⟨_,rfl,by rw [HMX.out (by first | rfl | trivial)];simp,HB1.out⟩
  ·have hk1:l.take k=l:=List.take_of_length_le (by omega)
   rw [hk1] at hm
   have HM:=aA hm
   have HB:=aA hb
   clear hk1 hb hm
   go_wp2
   go_ret
   exact ⟨_,rfl,by rw [HM.out];rfl,HB.out⟩
theorem aJv (a:Option Addr) (cap p1 p2:Nat) (f:Nd→Bool) (l:List Nd) (w:World) (h:dB w a l)
  (hc:∀n∈l,∀wx,Below w.heap.size w wx→Calls Tryz.prog 109 #[.agg #[.string n.1,.int .i64 n.2],.pointer (some ⟨p1,0,none⟩),.pointer (some ⟨p2,0,none⟩)] wx fun e w'=>e=.returned (.bool (f n))∧Below wx.heap.size wx w') :
  Calls Tryz.prog 108 #[.slice a l.length cap,.func (Fn.func 109) #[] #[.pointer (some ⟨p1,0,none⟩),.pointer (some ⟨p2,0,none⟩)]] w fun e w'=>e=.returned (.bool (l.any f))∧Below w.heap.size w w':=by
 have CI:=aA (aJu a cap p1 p2 f l w h hc)
 clear hc h
 go_enter Tryz.func108,Tryz.ntmps108
 go_wp2_with (go_at_call 129;refine (aB CI).mono ?_;rintro e w1 ⟨r,rfl,hr,hb⟩;have HR:=aA hr;have HB:=aA hb;clear hr hb)
 go_ret
 exact ⟨cO (by first | exact HR.out | simpa using HR.out),HB.out⟩
theorem aJw (l:List Nd):∀q,aI l q=true→∀n∈l,dG n=true:=by
 induction l with
 | nil=>intro q _ n hn;simp at hn
 | cons m r ih=>
  intro q h n hn
  cases q with
  | zero=>simp [aI] at h
  | succ q=>
   rw [kI,Bool.and_eq_true] at h
   rcases List.mem_cons.1 hn with rfl | hn
   ·exact h.1
   ·exact ih _ h.2 n hn
set_option maxHeartbeats 400000 in
theorem aJx (B g:Nat) (dv:Value) (L:aU) (w:World) (xb yb:Bool) (xa ya:Option Addr) (xc yc:Nat) (xl yl:List Nd) (hM:bN w B g dv L) (hX:eT w B xa xl) (hY:eT w B ya yl) (tx:aI xl 1=true) :
  Calls Tryz.prog 81 #[.pointer (some ⟨g,0,none⟩),.agg #[.bool xb,.slice xa xl.length xc],.agg #[.bool yb,.slice ya yl.length yc]] w fun e w'=>e=.returned (.bool (xl.any (eB L yl)))∧Below w.heap.size w w':=by
 have hb0:Below w.heap.size w (((w.alloc (.cells #[.pointer (some ⟨g,0,none⟩)] 107)).alloc (.cells #[.bool xb,.slice xa xl.length xc] 74)).alloc (.cells #[.bool yb,.slice ya yl.length yc] 74)):=(((Below.refl _ _).alloc (Nat.le_refl _) _).alloc (by simp) _).alloc (by simp;omega) _
 have c1:(((w.alloc (.cells #[.pointer (some ⟨g,0,none⟩)] 107)).alloc (.cells #[.bool xb,.slice xa xl.length xc] 74)).alloc (.cells #[.bool yb,.slice ya yl.length yc] 74)).cell? ⟨w.heap.size,0,none⟩=some (.pointer (some ⟨g,0,none⟩)):=Below.at' ((Below.refl _ _).alloc (Nat.le_refl _) _) (Nat.le_refl _) (Below.at' ((Below.refl _ _).alloc (Nat.le_refl _) _) (Nat.le_refl _) (by simp))
 have c2:(((w.alloc (.cells #[.pointer (some ⟨g,0,none⟩)] 107)).alloc (.cells #[.bool xb,.slice xa xl.length xc] 74)).alloc (.cells #[.bool yb,.slice ya yl.length yc] 74)).cell? ⟨w.heap.size+2,1,none⟩=some (.slice ya yl.length yc):=by
  have:=(qR ((w.alloc (.cells #[.pointer (some ⟨g,0,none⟩)] 107)).alloc (.cells #[.bool xb,.slice xa xl.length xc] 74)) (.bool yb) (.slice ya yl.length yc) 74).2
  rwa [show ((w.alloc (.cells #[.pointer (some ⟨g,0,none⟩)] 107)).alloc (.cells #[.bool xb,.slice xa xl.length xc] 74)).heap.size=w.heap.size+2 by simp] at this
 have hok:=aJw xl 1 tx
 have CC:=aA (aJv xa xc w.heap.size (w.heap.size+2) (eB L yl) xl _ (hX.fr (Fr.of_below hb0)).nodes (fun n hn wx hbx=>aJr B g w.heap.size (w.heap.size+2) dv L ya yc yl n.1 n.2 wx ((hM.below hb0).below hbx) ((hY.fr (Fr.of_below hb0)).fr (Fr.of_below hbx)) (Below.at' hbx (Nat.le_refl _) c1) (Below.at' hbx (Nat.le_refl _) c2) (hok n hn)))
 have HB0:=aA hb0
 clear hb0 c1 c2 hok hM hX hY
 go_enter Tryz.func81,Tryz.ntmps81
 go_wp2_with (go_at_call 108;refine (aB CC).mono ?_;rintro e w1 ⟨rfl,hb1⟩;have HB1:=aA (HB0.out.trans (hb1.mono HB0.out.size));clear hb1)
 go_ret
 exact ⟨rfl,HB1.out⟩
theorem aJy {L:aU} {x y:Lt} (h:x.2.any (eB L y.2)=false):∀n∈x.2,aH n=true→look L n.2=none→n∉y.2:=by
 intro n hn hv hl hm
 rw [List.any_eq_false] at h
 have:=h n hn
 simp [eB,hv,hl,(aCk n y.2).2 hm] at this
def nQ (w:World) (B:Nat) (v:Value) (l:List Nd):Prop:=∃a cap,v=.slice a l.length cap∧l.length≤cap∧eT w B a l
def gA (w:World) (B b0:Nat) (wr:World) (v:Value) (G:List Lt):Prop:=∃P:List (Lt×Value),P.map Prod.fst=G∧wr.ownsRow b0 74 2 v P.length (aT P)∧∀p∈P,nQ w B p.2 p.1.2
theorem gA.nil (w:World) (B b0:Nat) (wr:World):gA w B b0 wr (.slice none 0 0) []:=⟨[],rfl,World.ownsRow_nil _ _ _ _,by simp⟩
theorem gA.below {w wr wx:World} {B b0:Nat} {v:Value} {G:List Lt} (h:gA w B b0 wr v G) (k:Below wr.heap.size wr wx):gA w B b0 wx v G:=by
 obtain ⟨P,h1,h2,h3⟩:=h
 exact ⟨P,h1,aZ h2 k (Nat.le_refl _),h3⟩
theorem gA.kept {w wr wx:World} {B b0:Nat} {v:Value} {G:List Lt} {r:Option Nat} (h:gA w B b0 wr v G) (k:wr.grownBy wx r) (hr:v.ownBlock=none∨v.ownBlock≠r):gA w B b0 wx v G:=by
 obtain ⟨P,h1,h2,h3⟩:=h
 exact ⟨P,h1,h2.kept k hr,h3⟩
theorem gA.lt {w wr:World} {B b0:Nat} {v:Value} {G:List Lt} (h:gA w B b0 wr v G):∀k,v.ownBlock=some k→b0≤k∧k < wr.heap.size:=by
 obtain ⟨P,_,h2,_⟩:=h
 exact bY h2
theorem aJz {w:World} {B B':Nat} {g n cap:Nat} {xs:List Value} (h:w.ownsRow B' 74 2 (.slice (some ⟨g,0,none⟩) n cap) n xs):jT w B g:=by
 obtain ⟨_,⟨h,_⟩ | ⟨g',cap',cur,hv,hb,hh,_⟩⟩:=h
 ·simp at h
 ·obtain ⟨rfl,-⟩ : g=g'∧cap=cap':=by simpa using hv
  refine Or.inr fun cs T fr hx=>?_
  rw [hh] at hx
  simp at hx
  rw [←hx.2.1]
  exact ⟨by decide,by decide⟩
theorem gA.lits {w wr:World} {B b0:Nat} {v:Value} {G:List Lt} (h:gA w B b0 wr v G) (k:Below w.heap.size w wr) (h8:G.length≤8):∃a cap,v=.slice a G.length cap∧G.length≤cap∧cJ wr B a G∧∀p,a=some p→v.ownBlock=some p.block:=by
 obtain ⟨P,rfl,h2,h3⟩:=h
 have h2':=h2
 obtain ⟨_,⟨rfl,h0⟩ | ⟨g,cap,cur,rfl,hb,hh,hc,hm,hz,ht⟩⟩:=h2
 ·exact ⟨none,0,by simp [h0],by simp [h0],⟨h8,fun k hk=>by simp at hk;omega⟩,by simp⟩
 ·refine ⟨some ⟨g,0,none⟩,cap,by simp,by simpa using hc,⟨h8,fun j hj=>?_⟩,fun p hp=>by simp at hp;subst hp;rfl⟩
  have hj':j < P.length:=by simpa using hj
  obtain ⟨aa,ac,e1,e2,e3⟩:=h3 P[j] (List.getElem_mem _)
  refine ⟨g,0,aa,ac,rfl,aJz h2',?_,?_,?_,?_⟩
  ·rw [Nat.zero_add,h2'.cellAt (j * 2) (by omega),(tG P j hj').1];simp
  ·rw [Nat.zero_add,h2'.cellAt (j * 2+1) (by omega),(tG P j hj').2,e1];simp
  ·simpa using e2
  ·have:=e3.fr (Fr.of_below k)
   simpa using this
def gH (w:World) (B b o:Nat) (c0:Lt) (wr:World) (v:Value) (gk:Option Nat) (G:List Lt):Prop:=
 (v=.slice (some ⟨b,o,none⟩) 1 1∧G=[c0]∧gk=none)∨(gA w B w.heap.size wr v G∧gk=v.ownBlock∧0 < G.length)
theorem gH.below {w wr wx:World} {B b o:Nat} {c0:Lt} {v:Value} {gk:Option Nat} {G:List Lt} (h:gH w B b o c0 wr v gk G) (k:Below wr.heap.size wr wx):gH w B b o c0 wx v gk G:=by
 rcases h with h | ⟨h1,h2⟩
 ·exact Or.inl h
 ·exact Or.inr ⟨h1.below k,h2⟩
theorem gH.kept {w wr wx:World} {B b o:Nat} {c0:Lt} {v:Value} {gk r:Option Nat} {G:List Lt} (h:gH w B b o c0 wr v gk G) (k:wr.grownBy wx r) (hr:∀j,r=some j→gk≠some j):gH w B b o c0 wx v gk G:=by
 rcases h with h | ⟨h1,rfl,h3⟩
 ·exact Or.inl h
 ·refine Or.inr ⟨h1.kept k ?_,rfl,h3⟩
  cases hv:v.ownBlock with
  | none=>exact Or.inl rfl
  | some j=>
   right
   intro e
   exact hr j e.symm hv
theorem gH.lt {w wr:World} {B b o:Nat} {c0:Lt} {v:Value} {gk:Option Nat} {G:List Lt} (h:gH w B b o c0 wr v gk G):∀k,gk=some k→w.heap.size≤k∧k < wr.heap.size:=by
 rcases h with ⟨_,_,rfl⟩ | ⟨h1,rfl,_⟩
 ·intro k hk;simp at hk
 ·exact h1.lt
theorem gH.lits {w wr:World} {B b o:Nat} {c:List Lt} {v:Value} {gk:Option Nat} {G:List Lt} (h0:0 < c.length) (hC:cJ w B (some ⟨b,o,none⟩) c) (h:gH w B b o c[0] wr v gk G) (k:Below w.heap.size w wr) (h8:G.length≤8):∃ga go cap,v=.slice (some ⟨ga,go,none⟩) G.length cap∧G.length≤cap∧cJ wr B (some ⟨ga,go,none⟩) G:=by
 rcases h with ⟨rfl,rfl,rfl⟩ | ⟨h1,_,h3⟩
 ·refine ⟨b,o,1,rfl,Nat.le_refl _,⟨by simp,fun j hj=>?_⟩⟩
  have hj0:j=0:=by simpa using hj
  subst hj0
  obtain ⟨b',o',aa,ac,e,hs,h1,h2,h3,h4⟩:=(hC.fr (Fr.of_below k)).cell 0 h0
  obtain ⟨rfl,rfl⟩ : b=b'∧o=o':=by simpa using e
  exact ⟨b,o,aa,ac,rfl,hs,h1,h2,h3,h4⟩
 ·obtain ⟨a,cap,rfl,h4,h5,_⟩:=h1.lits k h8
  obtain ⟨b',o',_,_,rfl,_⟩:=h5.cell 0 h3
  exact ⟨b',o',cap,rfl,h4,h5⟩
theorem gH.more {w w1:World} {B b o:Nat} {c0:Lt} {v va:Value} {G:List Lt} {x:Lt} {P:List (Lt×Value)} (hP:P.map Prod.fst=G) (hA:∀p∈P,nQ w B p.2 p.1.2) (hx:nQ w B va x.2)
  (ho':w1.ownsRow w.heap.size 74 2 v (P.length+1) (aT P++[.bool x.1,va])):gH w B b o c0 w1 v v.ownBlock (G++[x]):=by
 refine Or.inr ⟨⟨P++[(x,va)],by simp [hP],by rw [vK,List.length_append];exact ho',fun p hp=>?_⟩,rfl,by simp⟩
 rcases List.mem_append.1 hp with hp | hp
 ·exact hA p hp
 ·simp at hp;subst hp;exact hx
theorem gA.more {w w1:World} {B b0:Nat} {v va:Value} {G:List Lt} {x:Lt} {P:List (Lt×Value)} (hP:P.map Prod.fst=G) (hA:∀p∈P,nQ w B p.2 p.1.2) (hx:nQ w B va x.2)
  (ho':w1.ownsRow b0 74 2 v (P.length+1) (aT P++[.bool x.1,va])):gA w B b0 w1 v (G++[x]):=by
 refine ⟨P++[(x,va)],by simp [hP],by rw [vK,List.length_append];exact ho',fun p hp=>?_⟩
 rcases List.mem_append.1 hp with hp | hp
 ·exact hA p hp
 ·simp at hp;subst hp;exact hx
structure iW (w wr:World) (B b o:Nat) (c0:Lt) (p:Lt→Bool) (gk:Option Nat) (G R:List Lt) (wi:World) (gv av:Value):Prop where
 grp:∃gk',gH w B b o c0 wi gv gk' (G++R.filter p)∧(∀k,av.ownBlock=some k→gk'≠some k)∧(gk'=gk∨∃k,gk'=some k∧wr.heap.size≤k)
 row:gA w B wr.heap.size wi av (R.filter fun y=>!p y)
 rest:∀k,k < wr.heap.size→gk≠some k→wi.heap[k]?=wr.heap[k]?
 size:wr.heap.size≤wi.heap.size
 low:Below w.heap.size w wi
theorem iW.below {w wr wi wx:World} {B b o:Nat} {c0:Lt} {p:Lt→Bool} {gk:Option Nat} {G R:List Lt} {gv av:Value} (h:iW w wr B b o c0 p gk G R wi gv av) (k:Below wi.heap.size wi wx):iW w wr B b o c0 p gk G R wx gv av:=by
 obtain ⟨gk',h1,h2,h3⟩:=h.grp
 exact ⟨⟨gk',h1.below k,h2,h3⟩,h.row.below k,fun j hj hg=>by rw [k.block j (Nat.lt_of_lt_of_le hj h.size)];exact h.rest j hj hg,Nat.le_trans h.size k.size,h.low.trans (k.mono h.low.size)⟩
theorem iW.group {w wr wi w1:World} {B b o g' cap n:Nat} {c0 y:Lt} {p:Lt→Bool} {gk gk':Option Nat} {G R:List Lt} {gv av:Value} (h:iW w wr B b o c0 p gk G R wi gv av) (hy:p y=true)
  (h2:∀k,av.ownBlock=some k→gk'≠some k) (h3:gk'=gk∨∃k,gk'=some k∧wr.heap.size≤k)
  (hn:gH w B b o c0 w1 (.slice (some ⟨g',0,none⟩) n cap) (some g') (G++R.filter p++[y])) (hg:wi.grownBy w1 gk') (hat:gk'=some g'∨wi.heap.size≤g') (hlow:∀k,gk'=some k→w.heap.size≤k) :
  iW w wr B b o c0 p gk G (R++[y]) w1 (.slice (some ⟨g',0,none⟩) n cap) av:=by
 refine ⟨⟨some g',?_,fun k hk=>?_,?_⟩,?_,fun k hk hgk=>?_,Nat.le_trans h.size hg.size,h.low.grown hg h.low.size fun k e=>hlow k e⟩
 ·rw [List.filter_append,List.filter_cons_of_pos hy,List.filter_nil,←List.append_assoc];exact hn
 ·rcases hat with hat | hat
  ·rw [←hat];exact h2 k hk
  ·have:=(h.row.lt k hk).2
   simp
   omega
 ·rcases hat with hat | hat
  ·rw [←hat];exact h3
  ·exact Or.inr ⟨g',rfl,Nat.le_trans h.size hat⟩
 ·rw [List.filter_append,List.filter_cons_of_neg (by simp [hy]),List.filter_nil,List.append_nil]
  refine h.row.kept hg ?_
  cases hv:av.ownBlock with
  | none=>exact Or.inl rfl
  | some k=>exact Or.inr (fun e=>h2 k hv e.symm)
 ·rw [hg.block k (Nat.lt_of_lt_of_le hk h.size) (fun e=>?_)]
  ·exact h.rest k hk hgk
  ·rcases h3 with h3 | ⟨j,h3,hj⟩
   ·exact hgk (by rw [←h3];exact e.symm)
   ·rw [h3] at e;simp at e;omega
theorem iW.apart {w wr wi w1:World} {B b o g' cap n:Nat} {c0 y:Lt} {p:Lt→Bool} {gk:Option Nat} {G R:List Lt} {gv av:Value} (h:iW w wr B b o c0 p gk G R wi gv av) (hy:p y=false)
  (hn:gA w B wr.heap.size w1 (.slice (some ⟨g',0,none⟩) n cap) ((R.filter fun y=>!p y)++[y])) (hg:wi.grownBy w1 av.ownBlock) (hat:av.ownBlock=some g'∨g'=wi.heap.size) (hw:w.heap.size≤wr.heap.size) :
  iW w wr B b o c0 p gk G (R++[y]) w1 gv (.slice (some ⟨g',0,none⟩) n cap):=by
 obtain ⟨gk',h1,h2,h3⟩:=h.grp
 refine ⟨⟨gk',?_,fun k hk=>?_,h3⟩,?_,fun k hk hgk=>?_,Nat.le_trans h.size hg.size,h.low.grown hg h.low.size fun k e=>Nat.le_trans hw (h.row.lt k e).1⟩
 ·rw [List.filter_append,List.filter_cons_of_neg (by simp [hy]),List.filter_nil,List.append_nil]
  exact h1.kept hg h2
 ·simp [Value.ownBlock] at hk
  subst hk
  rcases hat with hat | hat
  ·exact h2 _ hat
  ·intro e
   have:=(h1.lt _ e).2
   omega
 ·rw [List.filter_append,List.filter_cons_of_pos (by simp [hy]),List.filter_nil]
  exact hn
 ·rw [hg.block k (Nat.lt_of_lt_of_le hk h.size) (fun e=>?_)]
  ·exact h.rest k hk hgk
  ·have:=(h.row.lt k e.symm).1
   omega
theorem iW.start {w wr:World} {B b o:Nat} {c0:Lt} {p:Lt→Bool} {gk:Option Nat} {G:List Lt} {gv:Value} (h:gH w B b o c0 wr gv gk G) (hb:Below w.heap.size w wr):iW w wr B b o c0 p gk G [] wr gv (.slice none 0 0):=
 ⟨⟨gk,by simpa using h,by simp [Value.ownBlock],Or.inl rfl⟩,gA.nil _ _ _ _,fun _ _ _=>rfl,Nat.le_refl _,hb⟩
theorem cJ.move {wr wi:World} {B:Nat} {ra:Option Addr} {R:List Lt} {gk:Option Nat} (h:cJ wr B ra R) (hr:∀k,k < wr.heap.size→gk≠some k→wi.heap[k]?=wr.heap[k]?) (hq:∀q,ra=some q→gk≠some q.block) (hg:∀k,gk=some k→B≤k):cJ wi B ra R:=by
 refine ⟨h.few,fun k hk=>?_⟩
 obtain ⟨b,o,aa,cap,e,hs,h1,h2,h3,h4⟩:=h.cell k hk
 have hb:=hr b (World.block_lt_of_cell? wr _ h1) (hq _ e)
 refine ⟨b,o,aa,cap,e,?_,(World.cell?_of_block hb).trans h1,(World.cell?_of_block hb).trans h2,h3,⟨⟨h4.nodes.few,h4.nodes.short,fun j hj=>?_⟩,h4.low⟩⟩
 ·rcases hs with hs | hs
  ·exact Or.inl hs
  ·exact Or.inr fun cs T fr hx=>hs cs T fr (by rw [←hb];exact hx)
 ·obtain ⟨b2,o2,e2,h5,h6⟩:=h4.nodes.cell j hj
  have hl:=h4.low _ e2
  have hb2:=hr b2 (World.block_lt_of_cell? wr _ h5) (fun e=>by have:=hg _ e;simp at hl;omega)
  exact ⟨b2,o2,e2,(World.cell?_of_block hb2).trans h5,(World.cell?_of_block hb2).trans h6⟩
theorem cJ.tail {w:World} {B b o:Nat} {c:List Lt} (h:cJ w B (some ⟨b,o,none⟩) c):cJ w B (some ⟨b,o+2,none⟩) c.tail:=by
 refine ⟨by have:=h.few;simp;omega,fun k hk=>?_⟩
 have hk':k+1 < c.length:=by simp at hk;omega
 obtain ⟨b',o',aa,cap,e,hs,h1,h2,h3,h4⟩:=h.cell (k+1) hk'
 obtain ⟨rfl,rfl⟩ : b=b'∧o=o':=by simpa using e
 have ht:c.tail[k]=c[k+1]:=by simp
 rw [ht]
 exact ⟨b,o+2,aa,cap,rfl,hs,by rw [show o+2+k * 2=o+(k+1) * 2 by omega];exact h1,by rw [show o+2+k * 2+1=o+(k+1) * 2+1 by omega];exact h2,h3,h4⟩
theorem aK0 {α:Type} (p:α→Bool) (G R c:List α) (h:∀l,l∈c↔l∈G∨l∈R):∀l,l∈c↔l∈G++R.filter p∨l∈R.filter fun y=>!p y:=by
 intro l
 rw [h l,List.mem_append,List.mem_filter,List.mem_filter]
 by_cases hp:p l=true
 ·simp [hp]
 ·simp [hp]
theorem aCm {α:Type} (p:α→Bool) (R:List α):(R.filter p).length+(R.filter fun y=>!p y).length=R.length:=by
 induction R with
 | nil=>rfl
 | cons x r ih=>
  by_cases hp:p x=true
  ·rw [List.filter_cons_of_pos hp,List.filter_cons_of_neg (by simp [hp])];simp;omega
  ·rw [List.filter_cons_of_neg hp,List.filter_cons_of_pos (by simp [hp])];simp;omega
def aK1 (c G R:List Lt):Prop:=∀l,l∈c↔l∈G∨l∈R
theorem eT.back {w wr:World} {B:Nat} {a:Option Addr} {l:List Nd} (h:eT wr B a l) (k:Below w.heap.size w wr) (hB:B≤w.heap.size):eT w B a l:=
 ⟨⟨h.nodes.few,h.nodes.short,fun j hj=>by
  obtain ⟨b,o,e,h1,h2⟩:=h.nodes.cell j hj
  have hl:b < B:=h.low _ e
  have hb:=k.block b (by omega)
  exact ⟨b,o,e,(World.cell?_of_block hb).symm.trans h1,(World.cell?_of_block hb).symm.trans h2⟩⟩,h.low⟩
set_option maxHeartbeats 4000000 in
theorem aK2 (B g:Nat) (dv:Value) (L:aU) (w:World) (b o ccap:Nat) (c:List Lt) (hM:bN w B g dv L) (hC:cJ w B (some ⟨b,o,none⟩) c) (hcap:c.length≤ccap) (hF:jZ c) (h0:0 < c.length) (hBw:B≤w.heap.size) :
  Calls Tryz.prog 52 #[.pointer (some ⟨g,0,none⟩),.slice (some ⟨b,o,none⟩) c.length ccap] w fun e w'=>∃(G R:List Lt) (ga go gcap:Nat) (ra:Option Addr) (rcap:Nat),e=.returned (.tuple #[.slice (some ⟨ga,go,none⟩) G.length gcap,.slice ra R.length rcap])∧G.length≤gcap∧R.length≤rcap∧
   cJ w' B (some ⟨ga,go,none⟩) G∧cJ w' B ra R∧aK1 c G R∧G.length+R.length=c.length∧0 < G.length∧aAr L G R∧Below w.heap.size w w':=by
 have hc8:=hC.few
 have hi1:(1:Int)≤(ccap:Int):=by omega
 have hi2:(1:Int)≤(c.length:Int):=by omega
 have hi3:(c.length:Int)≤(ccap:Int):=by omega
 obtain ⟨ra0,hra0,htl⟩ : ∃ra,(if ccap=1 then some (⟨b,o,none⟩ : Addr) else some ⟨b,o+2,none⟩)=ra∧cJ w B ra c.tail:=by
  refine ⟨_,rfl,?_⟩
  by_cases h1:ccap=1
  ·have:c.tail=[]:=List.eq_nil_of_length_eq_zero (by simp;omega)
   rw [this]
   exact ⟨by simp,fun k hk=>by simp at hk⟩
  ·rw [if_neg h1]
   exact hC.tail
 have HM:=aA hM
 have HC:=aA hC
 have HF:=aA hF
 have HTL:=aA htl
 have HG0:Hid (gH w B b o c[0] w (.slice (some ⟨b,o,none⟩) 1 1) none [c[0]]):=aA (Or.inl ⟨rfl,rfl,rfl⟩)
 clear hM hC hF htl
 obtain ⟨iL,hL,hL0,hL1,hL2⟩:=info_parts qP
 go_enter Tryz.func52,Tryz.ntmps52
 go_wp2_with fail
 go_quiet (fail)
 go_wp2
 have HWD:Hid (Below w.heap.size w (w.drewN nq)):=aA (aJ ⟨_,rfl⟩)
 clear hra0 hi1 hi2 hi3
 go_loopw [4,5,6] (fun gv rv kv wr=>∃(kk:Nat) (G R:List Lt) (gk:Option Nat) (ra:Option Addr) (rcap:Nat),kk≤G.length∧kv=.int .i64 kk∧gH w B b o c[0] wr gv gk G∧rv=.slice ra R.length rcap∧R.length≤rcap∧cJ wr B ra R∧(∀q,ra=some q→gk≠some q.block)∧Below w.heap.size w wr∧
   (∀l,l∈c↔l∈G∨l∈R)∧G.length+R.length=c.length∧0 < G.length∧(∀x∈G.take kk,∀y∈R,x.2.any (eB L y.2)=false)) (fun _ _ kv _=>c.length - (intOf kv).toNat)
 case atStart=>
  refine ⟨0,[c[0]],c.tail,none,ra0,ccap - 1,Nat.zero_le _,rfl,HG0.out.below HWD.out,?_,by simp;omega,HTL.out.fr (Fr.of_below HWD.out),by simp,HWD.out,?_,by simp;omega,by simp,by simp⟩
  ·simp
  ·intro l
   cases c with
   | nil=>simp at h0
   | cons x r=>simp
 case round=>
  obtain ⟨kk,G,R,gk,ra,rcap,hkk,rfl,hG,rfl,hrc,hR,hq,hb,hmem,hlen,hG0,hsh⟩:=hrel
  have hG8:G.length≤8:=by omega
  obtain ⟨ga,go,gcap,rfl,hgc,hGL⟩:=hG.lits h0 HC.out hb hG8
  have hws:=hb.size
  by_cases hlt:kk < G.length
  ·have hgl:(kk:Int) < (G.length:Int):=by omega
   obtain ⟨x,hx⟩ : ∃x,x=G[kk]:=⟨_,rfl⟩
   have hxc:x∈c:=(hmem x).2 (Or.inl (by rw [hx];exact List.getElem_mem _))
   obtain ⟨htx,hx60⟩:=HF.out x hxc
   have hgkB:∀k,gk=some k→B≤k:=fun k hk=>Nat.le_trans hBw (hG.lt k hk).1
   have HIS:=aA (iW.start (p:=fun y=>x.2.any (eB L y.2)) hG hb)
   have HX:=aA hx
   have HR:=aA hR
   have HQ:=aA hq
   have HMEM:=aA hmem
   have HSH:=aA hsh
   have HGK:=aA hgkB
   have HGLT:=aA hG.lt
   have HB:=aA hb
   clear hx hR hq hmem hsh hgkB hG hb hGL
   go_wp2
   generalize hWR:wr=W0 at *
   clear hWR
   go_loopw [4,7,22] (fun gv av i wi=>∃j:Nat,j≤R.length∧i=.int .i64 j∧iW w W0 B b o c[0] (fun y=>x.2.any (eB L y.2)) gk G (R.take j) wi gv av) (fun _ _ i _=>R.length - (intOf i).toNat)
   case atStart=>exact ⟨0,Nat.zero_le _,rfl,HIS.out⟩
   case round=>
    obtain ⟨j,hj,rfl,hI⟩:=hrel
    by_cases hjl:j < R.length
    ·obtain ⟨gk',hg1,hg2,hg3⟩:=hI.grp
     have hpl:=aCm (fun y=>x.2.any (eB L y.2)) (R.take j)
     have htj:(R.take j).length≤j:=List.length_take_le _ _
     have hGf:(G++(R.take j).filter fun y=>x.2.any (eB L y.2)).length≤8:=by simp;omega
     obtain ⟨ga',go',gcap',rfl,hgc',hGL'⟩:=hg1.lits h0 HC.out hI.low hGf
     have hkl:kk < (G++(R.take j).filter fun y=>x.2.any (eB L y.2)).length:=by simp;omega
     have hkx:(G++(R.take j).filter fun y=>x.2.any (eB L y.2))[kk]=x:=by rw [List.getElem_append_left hlt];exact HX.out.symm
     obtain ⟨b1,o1,xa,xc,e,hs1,x1,x2,hxc1,hX⟩:=hGL'.cell kk hkl
     obtain ⟨rfl,rfl⟩ : ga'=b1∧go'=o1:=by simpa using e
     rw [hkx] at x1 x2 hxc1 hX
     have hRi:=HR.out.move hI.rest HQ.out HGK.out
     obtain ⟨b2,o2,ya,yc,rfl,hs2,y1,y2,hyc,hY⟩:=hRi.cell j hjl
     obtain ⟨y,hy⟩ : ∃y,y=R[j]:=⟨_,rfl⟩
     have hyc2:y∈c:=(HMEM.out y).2 (Or.inr (by rw [hy];exact List.getElem_mem _))
     obtain ⟨hty,hy60⟩:=HF.out y hyc2
     rw [←hy] at y1 y2 hyc hY
     have htk:R.take (j+1)=R.take j++[y]:=by rw [List.take_succ_eq_append_getElem hjl,hy]
     have hMi:=HM.out.below hI.low
     have hk':(kk:Int) < ((G++(R.take j).filter fun y=>x.2.any (eB L y.2)).length:Int):=by omega
     generalize hGG:(G++(R.take j).filter fun y=>x.2.any (eB L y.2))=GG at *
     obtain ⟨xb,xl⟩:=x
     obtain ⟨yb,yl⟩:=y
     simp only at x1 x2 hxc1 hX y1 y2 hyc hY hty hy60 htx hx60 hg1 hg2 hg3
     have hb2:Below wr.heap.size wr (wr.alloc (.cells #[.bool yb,.slice ya yl.length yc] 74)):=(Below.refl _ _).alloc (Nat.le_refl _) _
     have hbx:=qR wr (.bool yb) (.slice ya yl.length yc) 74
     have CS:=aA (fun wx (hx:∃n,wx=(wr.alloc (.cells #[.bool yb,.slice ya yl.length yc] 74)).drewN n)=>aJx B g dv L wx xb yb xa ya xc yc xl yl ((hMi.below hb2).drawn hx) ((hX.fr (Fr.of_below hb2)).fr ((Fr.refl _ _).drawn hx)) ((hY.fr (Fr.of_below hb2)).fr ((Fr.refl _ _).drawn hx)) htx)
     have x12:=Below.at' hb2 (Nat.le_refl _) x1
     have x22:=Below.at' hb2 (Nat.le_refl _) x2
     obtain ⟨hbx0,hbx1⟩:=hbx
     have HI:=aA (hI.below hb2)
     have HG1:=aA (hg1.below hb2)
     have HG2:=aA hg2
     have HG3:=aA hg3
     have HTK:=aA htk
     have HAY:Hid (nQ w B (.slice ya yl.length yc) yl):=aA ⟨ya,yc,rfl,hyc,hY.back hI.low hBw⟩
     clear hI hg1 hg2 hg3 htk hMi hX hY hs1 hs2 hGL' hy hpl hRi
     cases hpv:xl.any (eB L yl) with
     | false=>
      rw [hpv] at CS
      have HPV:=aA hpv
      clear hpv
      go_wp2_with fail
      generalize hWI:wr.alloc (.cells #[.bool yb,.slice ya yl.length yc] 74)=WI at *
      clear hb2 hWI
      go_region_held3 (fun w'=>w'.cell? ⟨ga',go'+kk * 2,none⟩=some (.bool xb)∧w'.cell? ⟨ga',go'+kk * 2+1,none⟩=some (.slice xa xl.length xc)∧w'.cell? ⟨wr.heap.size,0,none⟩=some (.bool yb)∧w'.cell? ⟨wr.heap.size,1,none⟩=some (.slice ya yl.length yc)) (go_keep)
       ((go_at_call 81;refine (aB CS _ (by first | exact ⟨0,rfl⟩ | exact ⟨1,rfl⟩ | exact ⟨_,rfl⟩)).mono ?_;rintro e w1 ⟨rfl,hd1⟩;replace hd1:=qS (W:=WI) (by first | exact ⟨0,rfl⟩ | exact ⟨1,rfl⟩ | exact ⟨_,rfl⟩) hd1;have c0:=Below.at' hd1 (Nat.le_refl _) x12;have c1:=Below.at' hd1 (Nat.le_refl _) x22;have c2:=Below.at' hd1 (Nat.le_refl _) hbx0;have c3:=Below.at' hd1 (Nat.le_refl _) hbx1;have HD1:=aA hd1;clear hd1))
      clear x12 x22 hbx0 hbx1 x1 x2 y1 y2 c0 c1
      obtain ⟨P,hP,hown,hA⟩:=(HI.out.below HD1.out).row
      have HP:=aA hP
      have HA:=aA hA
      have hPl:P.length≤8:=by
       have:=congrArg List.length hP
       simp at this
       have h2:=List.length_filter_le (fun y=>!(xl.any (eB L y.2))) (R.take j)
       omega
      clear hP hA
      have HIN:=aA (HI.out.below HD1.out)
      have hw1s:=(HIN.out).size
      go_wp2_with (first
       | (at_builtin;refine wpList_append_lies _ rfl _ _ 24 rfl W0.heap.size 74 iL (.agg #[.bool false,.slice none 0 0]) 2 32 Tryz.underlying24 hL hL0 hL1 hL2 rfl (by decide) _ _ _ rfl (hown.alloc _) ⟨w1.heap.size,0,none⟩ 1 1 [.bool yb,.slice ya yl.length yc] rfl rfl ?d1 ?d2 (by decide) ?d3 ?d4 ?d5 _ rfl ?_)
       | go_in)
      case d1=>exact iV _ _ _ _ _ (by simp)
      case d2=>first | exact qQ _ _ _ _ | exact ⟨rfl,rfl⟩
      case d3=>unfold maxLen;omega
      case d4=>omega
      case d5=>simp;omega
      intro g' cap w2 ho' hgr hat _
      have HN:=aA (iW.apart (y:=(yb,yl)) (HIN.out.below ((Below.refl _ _).alloc (Nat.le_refl _) _)) HPV.out (gA.more (x:=(yb,yl)) HP.out HA.out HAY.out ho') hgr (hat.imp id fun h=>by rw [h];simp) hws)
      clear ho' hgr hat hown
      go_wp2
      go_roundw
      case rel=>exact ⟨j+1,by omega,by go_num,by rw [HTK.out];exact HN.out⟩
      case measure=>simp [intOf];omega
     | true=>
      rw [hpv] at CS
      have HPV:=aA hpv
      clear hpv
      rcases HG1.out with ⟨hv,hG1,hgn⟩ | ⟨⟨P,hP,hown,hA⟩,hgn,-⟩
      ·have hv':(b=ga'∧o=go')∧GG.length=1∧gcap'=1:=by
        have:=hv
        simp at this
        exact ⟨⟨this.1.1.symm,this.1.2.symm⟩,this.2⟩
       obtain ⟨⟨hb1,hb2'⟩,hGl,hgc1⟩:=hv'
       subst hb1 hb2' hgc1
       obtain ⟨b',o',a0,ac0,e0,-,z1,z2,zc,hZ⟩:=HC.out.cell 0 h0
       obtain ⟨rfl,rfl⟩ : b=b'∧o=o':=by simpa using e0
       have HAZ:Hid (nQ w B (.slice a0 c[0].2.length ac0) c[0].2):=aA ⟨a0,ac0,rfl,zc,hZ⟩
       have HGG:Hid (G++(R.take j).filter (fun y=>xl.any (eB L y.2))=[c[0]]):=aA (hGG.trans hG1)
       have HGN:=aA hgn
       have hkx0:(kk:Int) < 1:=by omega
       subst hG1
       clear hv hGl hgn hZ zc hGG hkx hk' hgc' hGf
       go_wp2_with fail
       generalize hWI:wr.alloc (.cells #[.bool yb,.slice ya yl.length yc] 74)=WI at *
       clear hb2 hWI
       go_region_held3 (fun w'=>w'.cell? ⟨b,o+kk * 2,none⟩=some (.bool xb)∧w'.cell? ⟨b,o+kk * 2+1,none⟩=some (.slice xa xl.length xc)∧w'.cell? ⟨wr.heap.size,0,none⟩=some (.bool yb)∧w'.cell? ⟨wr.heap.size,1,none⟩=some (.slice ya yl.length yc)) (go_keep)
        ((go_at_call 81;refine (aB CS _ (by first | exact ⟨0,rfl⟩ | exact ⟨1,rfl⟩ | exact ⟨_,rfl⟩)).mono ?_;rintro e w1 ⟨rfl,hd1⟩;replace hd1:=qS (W:=WI) (by first | exact ⟨0,rfl⟩ | exact ⟨1,rfl⟩ | exact ⟨_,rfl⟩) hd1;have c0:=Below.at' hd1 (Nat.le_refl _) x12;have c1:=Below.at' hd1 (Nat.le_refl _) x22;have c2:=Below.at' hd1 (Nat.le_refl _) hbx0;have c3:=Below.at' hd1 (Nat.le_refl _) hbx1;have HD1:=aA hd1;clear hd1))
       clear x12 x22 hbx0 hbx1 x1 x2 y1 y2 c0 c1
       have HIN:=aA (HI.out.below HD1.out)
       have hw1s:=(HIN.out).size
       have z1':=Below.at' ((HIN.out.below ((Below.refl _ _).alloc (Nat.le_refl _) (.cells #[.bool yb,.slice ya yl.length yc] 74))).low) (Nat.le_refl _) z1
       have z2':=Below.at' ((HIN.out.below ((Below.refl _ _).alloc (Nat.le_refl _) (.cells #[.bool yb,.slice ya yl.length yc] 74))).low) (Nat.le_refl _) z2
       clear z1 z2
       go_wp2_with (first
        | (at_builtin;refine wpList_append_grows _ rfl _ _ 24 rfl 74 iL (.agg #[.bool false,.slice none 0 0]) 2 32 Tryz.underlying24 hL hL0 hL1 hL2 rfl (by decide) (some ⟨b,o,none⟩) 1 1 (aT [(c[0],.slice a0 c[0].2.length ac0)]) (by rfl) (by simp) rfl ?s2 ⟨w1.heap.size,0,none⟩ 1 1 [.bool yb,.slice ya yl.length yc] rfl rfl ?d1 ?d2 (by decide) ?d3 ?d4 ?_)
        | go_in)
       case s2=>
        rintro _ ⟨⟩ q u hu
        rw [Addr.add_lit]
        match q,hu with
        | 0,hu=>simp [aT] at hu;subst hu;simpa using z1'
        | 1,hu=>simp [aT] at hu;subst hu;simpa using z2'
        | q+2,hu=>simp [aT] at hu
       case d1=>exact iV _ _ _ _ _ (by simp)
       case d2=>first | exact qQ _ _ _ _ | exact ⟨rfl,rfl⟩
       case d3=>unfold maxLen;omega
       case d4=>omega
       intro v' w2 ho' hgr
       obtain ⟨g',cap,rfl,hge,-⟩:=ho'.form (by omega)
       have HN:=aA (iW.group (y:=(yb,yl)) (gk':=none) (HIN.out.below ((Below.refl _ _).alloc (Nat.le_refl _) _)) HPV.out (by simp) (by rw [←HGN.out];exact HG3.out)
        (by rw [HGG.out];exact gH.more (x:=(yb,yl)) (P:=[(c[0],.slice a0 c[0].2.length ac0)]) rfl (fun q hq=>by simp at hq;subst hq;exact HAZ.out) HAY.out (fS (B':=w.heap.size) ho' (by have:=(HIN.out).low.size;first | (simp;omega) | omega))) hgr (Or.inr (by simpa using hge)) (by simp))
       clear ho' hgr hge
       go_wp2
       go_roundw
       case rel=>exact ⟨j+1,by omega,by go_num,by rw [HTK.out];exact HN.out⟩
       case measure=>simp [intOf];omega
      ·have HP:=aA hP
       have HA:=aA hA
       have HGN:=aA hgn
       have HGG:=aA hGG
       have hPl:P.length≤8:=by
        have:=congrArg List.length hP
        simp at this
        omega
       have HOW:=aA hown
       clear hP hA hgn hGG hown
       go_wp2_with fail
       generalize hWI:wr.alloc (.cells #[.bool yb,.slice ya yl.length yc] 74)=WI at *
       clear hb2 hWI
       go_region_held3 (fun w'=>w'.cell? ⟨ga',go'+kk * 2,none⟩=some (.bool xb)∧w'.cell? ⟨ga',go'+kk * 2+1,none⟩=some (.slice xa xl.length xc)∧w'.cell? ⟨wr.heap.size,0,none⟩=some (.bool yb)∧w'.cell? ⟨wr.heap.size,1,none⟩=some (.slice ya yl.length yc)) (go_keep)
        ((go_at_call 81;refine (aB CS _ (by first | exact ⟨0,rfl⟩ | exact ⟨1,rfl⟩ | exact ⟨_,rfl⟩)).mono ?_;rintro e w1 ⟨rfl,hd1⟩;replace hd1:=qS (W:=WI) (by first | exact ⟨0,rfl⟩ | exact ⟨1,rfl⟩ | exact ⟨_,rfl⟩) hd1;have c0:=Below.at' hd1 (Nat.le_refl _) x12;have c1:=Below.at' hd1 (Nat.le_refl _) x22;have c2:=Below.at' hd1 (Nat.le_refl _) hbx0;have c3:=Below.at' hd1 (Nat.le_refl _) hbx1;have HD1:=aA hd1;clear hd1))
       clear x12 x22 hbx0 hbx1 x1 x2 y1 y2 c0 c1
       have HIN:=aA (HI.out.below HD1.out)
       have hw1s:=(HIN.out).low.size
       have hown:=aZ HOW.out HD1.out (Nat.le_refl _)
       go_wp2_with (first
        | (at_builtin;refine wpList_append_lies _ rfl _ _ 24 rfl w.heap.size 74 iL (.agg #[.bool false,.slice none 0 0]) 2 32 Tryz.underlying24 hL hL0 hL1 hL2 rfl (by decide) _ _ _ rfl (hown.alloc _) ⟨w1.heap.size,0,none⟩ 1 1 [.bool yb,.slice ya yl.length yc] rfl rfl ?d1 ?d2 (by decide) ?d3 ?d4 ?d5 _ rfl ?_)
        | go_in)
       case d1=>exact iV _ _ _ _ _ (by simp)
       case d2=>first | exact qQ _ _ _ _ | exact ⟨rfl,rfl⟩
       case d3=>unfold maxLen;omega
       case d4=>omega
       case d5=>simp;omega
       intro g' cap w2 ho' hgr hat _
       have HN:=aA (iW.group (y:=(yb,yl)) (gk':=gk') (HIN.out.below ((Below.refl _ _).alloc (Nat.le_refl _) _)) HPV.out HG2.out HG3.out
        (by rw [HGG.out];exact gH.more (x:=(yb,yl)) HP.out HA.out HAY.out ho') (by rw [HGN.out];exact hgr) (by rw [HGN.out];exact hat.imp id fun h=>by rw [h];simp) (fun k hk=>(HG1.out.lt k hk).1))
       clear ho' hgr hat hown
       go_wp2
       go_roundw
       case rel=>exact ⟨j+1,by omega,by go_num,by rw [HTK.out];exact HN.out⟩
       case measure=>simp [intOf];omega
    ·have hRk:R.take j=R:=List.take_of_length_le (by omega)
     rw [hRk] at hI
     have hp:=aCm (fun y=>x.2.any (eB L y.2)) R
     obtain ⟨gk',hg1,hg2,hg3⟩:=hI.grp
     obtain ⟨aa,acap,rfl,ha1,ha2,ha3⟩:=hI.row.lits hI.low (by omega)
     have HG1:=aA hg1
     have HA2:=aA ha2
     have HA3:=aA (fun q (h:aa=some q)=>hg2 q.block (ha3 q h))
     have HL:=aA hI.low
     have HSN:Hid (∀z∈(G++R.filter fun y=>x.2.any (eB L y.2)).take (kk+1),∀y∈R.filter fun y=>!(x.2.any (eB L y.2)),z.2.any (eB L y.2)=false):=aA (by
      intro z hz y hy
      rw [List.take_append_of_le_length (by omega),List.take_succ_eq_append_getElem hlt] at hz
      rw [List.mem_filter] at hy
      rcases List.mem_append.1 hz with hz | hz
      ·exact HSH.out z hz y hy.1
      ·simp at hz
       rw [hz,←HX.out]
       simpa using hy.2)
     have hG8':(G++R.filter fun y=>x.2.any (eB L y.2)).length=G.length+(R.filter fun y=>x.2.any (eB L y.2)).length:=by simp
     clear hRk hI hg1 hg2 hg3 ha2 ha3
     go_wp2
     go_roundw
     case rel=>exact ⟨kk+1,_,_,gk',aa,acap,by omega,by go_num,HG1.out,rfl,ha1,HA2.out,HA3.out,HL.out,aK0 _ G R c HMEM.out,by omega,by omega,HSN.out⟩
     case measure=>simp [intOf];omega
  ·have HGL:=aA hGL
   have HR:=aA hR
   have HMEM:=aA hmem
   have HB:=aA hb
   have HA:Hid (aAr L G R):=aA (by
    intro z hz y hy
    rw [List.take_of_length_le (by omega)] at hsh
    exact aJy (hsh z hz y hy))
   have hgl:¬(kk:Int) < (G.length:Int):=by omega
   clear hGL hR hq hmem hsh hG hb
   go_wp2
   go_ret2
   exact ⟨G,R,ga,go,gcap,ra,rcap,rfl,hgc,hrc,HGL.out,HR.out,HMEM.out,hlen,hG0,HA.out,HB.out⟩
end Go.Proofs.YtbddofieljiihaaGreatDoor
