/- The program: atoms, sizes, literals that are the same. The program: a variable is bound, and is freed. The program: the place behind a term. The program: a literal is made another. The program: variables are freed. -/
import Derived.Test.YtbddofieljiihaaGreatDoorPTerm2I
import Derived.Deep.RegionHeld3
namespace Go.Proofs.YtbddofieljiihaaGreatDoor
open Go.RowKit Go.Shelf
set_option maxRecDepth 100000
set_option maxHeartbeats 400000 in
theorem aP7 (a:Option Addr) (cp:Nat) (l:List Nd) (w:World) (h:dB w a l) (hT:gL w) :
  Calls Tryz.prog 30 #[.slice a l.length cp] w fun e w'=>e=.returned (.bool (iD l))∧Below w.heap.size w w':=by
 have cT:=aPf a cp l w h hT
 by_cases ht:iA l=true
 ·cases l with
  | nil=>rw [aPx] at ht;exact absurd ht (by simp)
  | cons n0 r=>
   rw [ht] at cT
   obtain ⟨b0,o0,rfl,e0,f0⟩:=h.cell 0 (by simp)
   simp only [List.getElem_cons_zero,Nat.zero_mul,Nat.add_zero] at e0 f0
   obtain ⟨s0,x0⟩:=n0
   simp only at e0 f0
   have HE:=aA (show iD ((s0,x0) :: r) = !s0.toList.isEmpty by simp [iD,ht,aH])
   have CT:=aA cT
   have CV:=aA (fun wx=>nE s0 x0 wx)
   have hfl:=h.few
   simp only [List.length_cons] at hfl
   clear cT ht h hT
   go_enter Tryz.func30,Tryz.ntmps30
   go_wp2_with (first
    | (go_at_call 48;refine (aB CT).mono ?_;rintro e w1 ⟨rfl,hb1⟩;have q1:=Below.at' hb1 (Nat.le_refl _) e0;have q2:=Below.at' hb1 (Nat.le_refl _) f0;have HB1:=aA hb1;have h1s:=hb1.size;clear hb1)
    | (go_at_call 49;refine (aB CV _).mono ?_;rintro e w2 ⟨rfl,hb2⟩;have HB2:=aA (HB1.out.trans (hb2.mono h1s));clear hb2))
   go_ret
   exact ⟨cO HE.out.symm,HB2.out⟩
 ·have ht':iA l=false:=by simpa using ht
  rw [ht'] at cT
  have HE:=aA (show iD l=false by simp [iD,ht'])
  have CT:=aA cT
  clear cT ht ht' h hT
  go_enter Tryz.func30,Tryz.ntmps30
  go_wp2_with (go_at_call 48;refine (aB CT).mono ?_;rintro e w1 ⟨rfl,hb1⟩;have HB1:=aA hb1;clear hb1)
  go_ret
  exact ⟨cO HE.out.symm,HB1.out⟩
set_option maxHeartbeats 400000 in
theorem aP8 (B g cap:Nat) (x:Int) (a:Addr) (t t':List Nd) (dv:Value) (L:aU) (w:World) (hM:bN w B g dv L) (h0:0≤x) (h1:x < 60) (hN:eT w B (some a) t) (hl:look L x=some t') :
  Calls Tryz.prog 114 #[.pointer (some ⟨g,0,none⟩),.int .i64 x,.slice (some a) t.length cap] w fun e w'=>e=.returned (.bool (decide (t'=t)))∧bN w' B g dv L∧Fr B w w':=by
 obtain ⟨m,rfl⟩ : ∃m:Nat,x=m:=⟨x.toNat,by omega⟩
 obtain ⟨v,hv,hT⟩:=hM.term m (by omega)
 rw [hl] at hT
 obtain ⟨a',cap',rfl,hN'⟩:=hT
 have CE:=aA (aEw (some a') (some a) cap' cap t' t w hN'.nodes hN.nodes)
 have HM:=aA hM
 clear hM hN hN' hl
 go_enter Tryz.func114,Tryz.ntmps114
 go_wp2_with (go_at_call 64;refine (aB CE).mono ?_;rintro e w1 ⟨rfl,hd⟩;have HD:=aA hd;clear hd)
 go_ret
 exact ⟨rfl,HM.out.drawn HD.out,(Fr.refl _ _).drawn HD.out⟩
set_option maxHeartbeats 400000 in
theorem aP9 (B g cap:Nat) (x:Int) (a:Addr) (t:List Nd) (dv:Value) (L:aU) (w:World) (hM:bN w B g dv L) (h0:0≤x) (h1:x < 60) (hN:eT w B (some a) t) (hl:look L x=none) (ht:aI t 1=true) (h60:t.length≤60) :
  Calls Tryz.prog 114 #[.pointer (some ⟨g,0,none⟩),.int .i64 x,.slice (some a) t.length cap] w fun e w'=>e=.returned (.bool true)∧bN w' B g dv (L++[(x,t)])∧Fr B w w':=by
 obtain ⟨iI,hI,hI0,hI1,hI2⟩:=info_parts qM
 obtain ⟨m,rfl⟩ : ∃m:Nat,x=m:=⟨x.toNat,by omega⟩
 obtain ⟨v,hv,hT⟩:=hM.term m (by omega)
 rw [hl] at hT
 obtain rfl:v=.slice none 0 0:=hT
 obtain ⟨bv,hbv,ho⟩:=hM.bound
 have hfz:=hM.frozen (1+m)
 have hfz2:=hM.frozen 61
 have hap:=hM.apart ho
 have hlen:=hM.ok.few
 have hlow:=hM.low
 have hgl:=hM.lt
 have HM:=aA hM
 have o1:=wX ho (p:=⟨g,1+m,none⟩) hap (.slice (some a) t.length cap)
 have HO:=aA ho
 have HN:=aA hN
 have HL:=aA hl
 have HT:=aA ht
 have HP:=aA hap
 clear hM ho hN hl ht hap
 go_enter Tryz.func114,Tryz.ntmps114
 go_wp2_with (first
  | (at_builtin;refine wpList_append_own _ rfl _ _ 31 rfl B 3 iI (.int .i64 0) 1 8 Tryz.underlying31 hI hI0 hI1 hI2 rfl (by decide) _ _ _ rfl (o1.alloc _) ⟨w.heap.size,0,none⟩ 1 1 [.int .i64 (m:Int)] (by rfl) rfl ?d1 ?d2 ?d3 ?d4 ?d5 ?_)
  | go_in)
 case d1=>exact oH _ _ _ _ (by simp [World.setCell])
 case d2=>exact aC7 _
 case d3=>unfold maxLen;omega
 case d4=>omega
 case d5=>simp [World.setCell];omega
 intro v' w2 ho2 hg2 _
 obtain ⟨va,vcp,rfl⟩:=aR ho2
 have R:=aA (HM.out.more (by omega) HL.out HN.out HT.out h60 HO.out hg2 ho2)
 have hc61:w2.cell? ⟨g,61,none⟩=some bv:=hg2.cell (Below.at' ((Below.refl _ _).alloc (Nat.le_refl _) _) (Nat.le_refl _) (by rw [World.cell?_setCell_other w _ _ _ (by first | (simp;done) | (simp;omega))];exact hbv)) HP.out
 have hfz3:w2.frozen? ⟨g,61,none⟩=false:=by
  rw [World.frozen?_of_block (hg2.block g (by simp [World.setCell];omega) HP.out),World.frozen?_of_block (a:=⟨g,61,none⟩) (heap_alloc_old _ _ (show g < _ by simp [World.setCell];omega)),World.frozen?_setCell]
  exact hfz2
 clear ho2 hg2 o1
 go_wp2
 go_ret
 exact ⟨rfl,R.out⟩
set_option maxHeartbeats 400000 in
theorem aPa (a:Option Addr) (cp:Nat) (l:List Nd) (i q:Nat) (w:World) (h:dB w a l) (h60:l.length≤60) (ht:aI (l.drop i) (1+q)=true) (hi:i≤l.length) :
  Calls Tryz.prog 113 #[.slice a l.length cp,.int .i64 i] w fun e w'=>e=.returned (.int .i64 ((i+aF (l.drop i) 1:Nat)))∧Below w.heap.size w w':=by
 go_enter Tryz.func113,Tryz.ntmps113
 go_wp2
 go_loopw [1,5] (fun j m wr=>∃k p:Nat,k≤l.length∧p≤1+5 * k∧j=.int .i64 k∧m=.int .i64 p∧Below w.heap.size w wr∧i+aF (l.drop i) 1=k+aF (l.drop k) p∧aI (l.drop k) (p+q)=true) (fun j _ _=>l.length - (intOf j).toNat)
 case atStart=>exact ⟨i,1,hi,by omega,rfl,rfl,Below.refl _ _,rfl,ht⟩
 case round=>
  obtain ⟨k,p,hk,hp,rfl,rfl,hb,he,hg⟩:=hrel
  cases p with
  | zero=>
   have HE:=aA he
   have HB:=aA hb
   clear he hb hg
   go_wp2
   go_ret
   exact ⟨sX (by rw [HE.out];simp),HB.out⟩
  | succ p=>
   have hlt:k < l.length:=aFf (q:=p+q) (by rw [←hg];congr 1;omega)
   obtain ⟨b,o,rfl,e1,f1⟩:=h.cell k hlt
   have e2:=Below.at' hb (Nat.le_refl _) e1
   have f2:=Below.at' hb (Nat.le_refl _) f1
   rw [aQd l k p hlt] at he
   rw [show p+1+q=(p+q)+1 by omega,aAs l k (p+q) hlt,Bool.and_eq_true] at hg
   obtain ⟨hok,hg⟩:=hg
   generalize l[k]=nd at *
   obtain ⟨s,x⟩:=nd
   simp only at e2 f2
   clear e1 f1 h
   have hbs:=hb.size
   have HB:=aA hb
   have HE:=aA he
   have HG:=aA hg
   have CP:=aA (fun wx=>aAe s x wx)
   clear hb he hg
   by_cases hv:s.toList.isEmpty=true
   ·have HW:Hid (aX (s,x)=0):=aA (lG hv)
    rw [if_pos hv] at CP
    clear hok hv
    go_wp2_with (go_at_call 78;refine (aB CP _).mono ?_;rintro e w1 ⟨rfl,hb1⟩;have HB1:=aA (HB.out.trans (hb1.mono hbs));clear hb1)
    go_roundw
    case rel=>exact ⟨k+1,p,by omega,by omega,by go_num,by go_num,HB1.out,by rw [HE.out,HW.out];simp;omega,by have:=HG.out;rw [HW.out] at this;rw [←this];congr 1⟩
    case measure=>simp [intOf];omega
   ·obtain ⟨hx1,hx2,hw⟩:=aQr hok hv
    have HW:=aA hw
    rw [if_neg hv] at CP
    clear hok hw hv
    go_wp2_with (go_at_call 78;refine (aB CP _).mono ?_;rintro e w1 ⟨rfl,hb1⟩;have HB1:=aA (HB.out.trans (hb1.mono hbs));clear hb1)
    go_roundw
    case rel=>exact ⟨k+1,p+x.toNat,by omega,by omega,by go_num,by go_num,HB1.out,by rw [HE.out,HW.out];omega,by have:=HG.out;rw [HW.out] at this;rw [←this];congr 1;omega⟩
    case measure=>simp [intOf];omega
theorem dB.sub {w:World} {b o:Nat} {l:List Nd} (h:dB w (some ⟨b,o,none⟩) l) (j n:Nat):dB w (some ⟨b,o+j * 2,none⟩) ((l.drop j).take n):=by
 have hlen:((l.drop j).take n).length≤l.length - j:=by simp;omega
 refine ⟨by have:=h.few;omega,fun k hk=>?_,fun k hk=>?_⟩
 ·have hk':j+k < l.length:=by omega
  have:=h.short (j+k) hk'
  simpa using this
 ·have hk':j+k < l.length:=by omega
  obtain ⟨b',o',e,h1,h2⟩:=h.cell (j+k) hk'
  obtain ⟨rfl,rfl⟩ : b=b'∧o=o':=by simpa using e
  refine ⟨b,o+j * 2,rfl,?_,?_⟩
  ·rw [show o+j * 2+k * 2=o+(j+k) * 2 by omega];simpa using h1
  ·rw [show o+j * 2+k * 2+1=o+(j+k) * 2+1 by omega];simpa using h2
theorem eT.sub {w:World} {B b o:Nat} {l:List Nd} (h:eT w B (some ⟨b,o,none⟩) l) (j n:Nat):eT w B (some ⟨b,o+j * 2,none⟩) ((l.drop j).take n):=
 ⟨h.nodes.sub j n,fun p hp=>by simp at hp;subst hp;exact h.low ⟨b,o,none⟩ rfl⟩
theorem wP {w:World} {B:Nat} (cs:Array Value) (T:TypeId) (h1:T≠78) (h2:T≠3):jT (w.alloc (.cells cs T)) B w.heap.size:=
 Or.inr fun cs' T' fr hx=>by
  rw [heap_alloc_new] at hx
  simp at hx
  rw [←hx.2.1]
  exact ⟨h1,h2⟩
theorem aF0 {P:Program} {f B g k1 k2:Nat} {dv v1 v2:Value} {r:Value} {L L':aU} {args:Array Value} {w:World} (_:bN w B g dv L) (hs1:jT w B k1) (hs2:jT w B k2) (h1:w.cell? ⟨k1,1,none⟩=some v1) (h2:w.cell? ⟨k2,1,none⟩=some v2)
  (h:∀wx,(∃n,wx=w.drewN n)→Calls P f args wx fun e w'=>e=.returned r∧bN w' B g dv L'∧Fr B wx w') :
  ∀wx,(∃n,wx=w.drewN n)→Calls P f args wx fun e w'=>e=.returned r∧bN w' B g dv L'∧Fr B w w'∧w'.cell? ⟨k1,1,none⟩=some v1∧w'.cell? ⟨k2,1,none⟩=some v2:=by
 intro wx hx
 refine (h wx hx).mono ?_
 rintro e w' ⟨rfl,hm,hf⟩
 have hf':Fr B w w':=((Fr.refl _ _).drawn hx).trans hf
 exact ⟨rfl,hm,hf',hf'.cell h1 hs1,hf'.cell h2 hs2⟩
set_option maxHeartbeats 2000000 in
theorem aAc (B g:Nat) (dv:Value) (L:aU) (w:World) (xb yb:Bool) (aa ba:Option Addr) (ac bc:Nat) (a b:List Nd) (hM:bN w B g dv L) (hA:eT w B aa a) (hB:eT w B ba b) (hbc:b.length≤bc) (ta:aI a 1=true) (tb:aI b 1=true) (a60:a.length≤60) (b60:b.length≤60) :
  Calls Tryz.prog 84 #[.pointer (some ⟨g,0,none⟩),.agg #[.bool xb,.slice aa a.length ac],.agg #[.bool yb,.slice ba b.length bc]] w fun e w'=>∃(r:Bool) (L':aU),e=.returned (.bool r)∧bN w' B g dv L'∧Fr B w w'∧(∃M,L'=L++M)∧(r=true→gY (xb,a) (yb,b) L=some L')∧(r=false→gY (xb,a) (yb,b) L=none):=by
 have hb0:Below w.heap.size w ((w.alloc (.cells #[.bool xb,.slice aa a.length ac] 74)).alloc (.cells #[.bool yb,.slice ba b.length bc] 74)):=((Below.refl _ _).alloc (Nat.le_refl _) _).alloc (by simp) _
 have hM1:=hM.below hb0
 have hA1:=hA.fr (Fr.of_below hb0)
 have hB1:=hB.fr (Fr.of_below hb0)
 have hS:jT ((w.alloc (.cells #[.bool xb,.slice aa a.length ac] 74)).alloc (.cells #[.bool yb,.slice ba b.length bc] 74)) B (w.heap.size+1):=by
  have:=wP (w:=w.alloc (.cells #[.bool xb,.slice aa a.length ac] 74)) (B:=B) #[.bool yb,.slice ba b.length bc] 74 (by decide) (by decide)
  simpa using this
 have hbx:((w.alloc (.cells #[.bool xb,.slice aa a.length ac] 74)).alloc (.cells #[.bool yb,.slice ba b.length bc] 74)).cell? ⟨w.heap.size+1,1,none⟩=some (.slice ba b.length bc):=by simp
 have HF0:Hid (Fr B w ((w.alloc (.cells #[.bool xb,.slice aa a.length ac] 74)).alloc (.cells #[.bool yb,.slice ba b.length bc] 74))):=aA (Fr.of_below hb0)
 have HM1:=aA hM1
 have HA1:=aA hA1
 have HB1:=aA hB1
 have HS:=aA hS
 have HBX:=aA hbx
 clear hM hA hB hb0 hM1 hA1 hB1 hS hbx
 by_cases hxy:xb=yb
 ·subst hxy
  have HML:Hid (gY (xb,a) (xb,b) L=cM a b L):=aA (by simp [gY])
  go_enter Tryz.func84,Tryz.ntmps84
  go_wp2
  generalize hW:((w.alloc (.cells #[.bool xb,.slice aa a.length ac] 74)).alloc (.cells #[.bool xb,.slice ba b.length bc] 74))=W at *
  have HW:=aA hW
  clear hW
  go_loopw [7,19] (fun t i wr=>∃(k j q:Nat) (L1:aU),k≤a.length∧j≤b.length∧i=.int .i64 k∧t=.int .i64 j∧bN wr B g dv L1∧Fr B W wr∧(∃M,L1=L++M)∧aI (a.drop k) q=true∧aI (b.drop j) q=true∧cM a b L=cM (a.drop k) (b.drop j) L1)
   (fun _ i _=>a.length - (intOf i).toNat)
  case atStart=>exact ⟨0,0,1,L,Nat.zero_le _,Nat.zero_le _,rfl,rfl,HM1.out,Fr.refl _ _,⟨[],by simp⟩,ta,tb,rfl⟩
  case round=>
   obtain ⟨k,j,q,L1,hk,hj,rfl,rfl,hM,hF,hL1,hta,htb,hmg⟩:=hrel
   by_cases hlt:k < a.length
   ·obtain ⟨q,rfl⟩ : ∃q',q=q'+1:=by
     cases q with
     | zero=>rw [yF a k hlt] at hta;simp at hta
     | succ q=>exact ⟨q,rfl⟩
    have hjl:j < b.length:=aFf htb
    have hAr:=HA1.out.fr hF
    have hBr:=HB1.out.fr hF
    obtain ⟨b1,o1,rfl,e1,f1⟩:=hAr.nodes.cell k hlt
    obtain ⟨b2,o2,rfl,e2,f2⟩:=hBr.nodes.cell j hjl
    have hox:wr.cell? ⟨w.heap.size+1,1,none⟩=some (.slice (some ⟨b2,o2,none⟩) b.length bc):=hF.cell HBX.out HS.out
    have hkn:=fun t=>aQf a b k j L1 t hlt
    have hnw:=aQg a b k j L1 hlt
    have hnm:=aQh a b k j L1 hlt hjl
    have hta':=hta
    rw [aAs a k q hlt,Bool.and_eq_true] at hta'
    obtain ⟨hok,hta'⟩:=hta'
    have htb1:aI (b.drop j) (1+q)=true:=by rw [←htb];congr 1;omega
    have hsp:=aAk (b.drop j) 1 q htb1
    have htb2:=htb
    rw [aAs b j q hjl,Bool.and_eq_true] at htb2
    generalize hnd:a[k]=nd at *
    obtain ⟨s,x⟩:=nd
    simp only at e1 f1 hkn hnw
    have HMG:=aA hmg
    have HKN:=aA hkn
    have HNW:=aA hnw
    have HNM:=aA hnm
    have HTA:=aA hta'
    have HTB:=aA htb2
    have HSP:=aA hsp
    have HOK:=aA hok
    have HL1:=aA hL1
    have HM:=aA hM
    have HF:=aA hF
    have HBr:=aA hBr
    have HTB1:=aA htb1
    have hws:=hF.size
    have hws2:w.heap.size+2≤wr.heap.size:=by rw [←HW.out] at hws;simpa using hws
    clear hta hta' htb htb1 htb2 hsp hmg hkn hnw hnm hok hL1 hM hF hBr hAr hnd
    have CV:=aA (fun wx=>nE s x wx)
    have hbn:Below wr.heap.size wr (wr.alloc (.cells #[.string s,.int .i64 x] 106)):=(Below.refl _ _).alloc (Nat.le_refl _) _
    have HBN:=aA hbn
    clear hbn
    by_cases hv:s.toList.isEmpty=true
    ·rw [hv] at CV
     have hx:=aFe HOK.out hv
     obtain ⟨hx0,hx1⟩:=hx
     simp only at hx0 hx1
     have HWT:Hid (aX (s,x)=0):=aA (lG hv)
     have HVB:Hid (aH (s,x)=true):=aA hv
     clear hv
     obtain ⟨je,hje⟩ : ∃je,je=j+aF (b.drop j) 1:=⟨_,rfl⟩
     have hel:=qA (b.drop j) 1
     have hep:=aQ2 (b.drop j) 0 (by intro h;have:=congrArg List.length h;simp at this;omega)
     simp at hel hep
     have hj1:j < je:=by omega
     have hj2:je≤b.length:=by omega
     have hlen:((b.drop j).take (aF (b.drop j) 1)).length=je - j:=by simp;omega
     have hj3:(j:Int)≤(je:Int):=by omega
     have hj4:(je:Int)≤(bc:Int):=by omega
     have hj5:¬bc=j:=by omega
     have HLEN:=aA hlen
     have HJE:=aA hje
     have CE:=aA (fun wx (hw:dB wx (some ⟨b2,o2,none⟩) b)=>by have:=aPa (some ⟨b2,o2,none⟩) bc b j q wx hw b60 HTB1.out hj;rw [←hje] at this;exact this)
     clear hje hel hep hlen
     go_wp2_with (first
      | (go_at_call 49;refine (aB CV _).mono ?_;rintro e w1 ⟨rfl,hb1⟩;obtain ⟨q1,q2,q3⟩:=gD hb1;have HQ3:=aA q3;have HQX:Hid (Fr B _ w1):=aA (Fr.of_below hb1);have hs1:=q3.size;have hox1:=Below.at' q3 (Nat.le_refl _) hox;clear hb1 q3)
      | (go_at_call 113;refine (aB CE _ ((HBr.out.fr (Fr.of_below HQ3.out)).nodes)).mono ?_;rintro e w2 ⟨rfl,hb2⟩;have q21:=Below.at' hb2 (Nat.le_refl _) q1;have q22:=Below.at' hb2 (Nat.le_refl _) q2;have hox2:=Below.at' hb2 (Nat.le_refl _) hox1;have HQ4:=aA (HQ3.out.trans (hb2.mono hs1));have HQ5:=aA ((HQX.out).trans (Fr.of_below hb2));clear hb2))
     have hst1:jT w2 B wr.heap.size:=by
      have h0:=wP (w:=wr) (B:=B) #[.string s,.int .i64 x] 106 (by decide) (by decide)
      exact h0.fr (by simp) (HQ5.out)
     have hst2:jT w2 B (w.heap.size+1):=(HS.out.fr (by rw [←HW.out];simp) HF.out).fr (by omega) (Fr.of_below HQ4.out)
     have hM2:=HM.out.below HQ4.out
     have hN2:=(HBr.out.fr (Fr.of_below HQ4.out)).sub j (aF (b.drop j) 1)
     have HF2:=aA (HF.out.trans (Fr.of_below HQ4.out))
     cases hl:look L1 x with
     | none=>
      have CB:=aA (aF0 hM2 hst1 hst2 q22 hox2 (fun wx hm=>by have:=aP9 B g (bc - j) x ⟨b2,o2+j * 2,none⟩ ((b.drop j).take (aF (b.drop j) 1)) dv L1 wx (hM2.drawn hm) hx0 hx1 (hN2.fr ((Fr.refl _ _).drawn hm)) hl HSP.out.1 (by rw [HLEN.out];omega);rw [HLEN.out] at this;exact this))
      have HL:=aA hl
      clear hst1 hst2 hM2 hN2 hl
      go_region_held3 (fun w'=>w'.cell? ⟨wr.heap.size,1,none⟩=some (.int .i64 x)∧w'.cell? ⟨w.heap.size+1,1,none⟩=some (.slice (some ⟨b2,o2,none⟩) b.length bc)) (go_keep) ((go_at_call 114;refine (aB CB _ (by first | exact ⟨0,rfl⟩ | exact ⟨_,rfl⟩ | exact jX _ _ _)).mono ?_;rintro e w3 ⟨rfl,hm3,hf3,hc1,hc2⟩;have HM3:=aA hm3;have HF3:=aA hf3;clear hm3 hf3))
      have HR:Hid (cM a b L=cM (a.drop (k+1)) (b.drop je) (L1++[(x,(b.drop j).take (aF (b.drop j) 1))])):=aA (by rw [HMG.out,HNW.out HVB.out HL.out,HJE.out])
      go_wp2
      go_roundw
      case rel=>exact ⟨k+1,je,q,L1++[(x,(b.drop j).take (aF (b.drop j) 1))],by omega,hj2,by go_num,rfl,HM3.out,HF2.out.trans HF3.out,(by obtain ⟨M,hM⟩:=HL1.out;exact ⟨M++[(x,(b.drop j).take (aF (b.drop j) 1))],by rw [hM];simp⟩),(by have:=HTA.out;rw [HWT.out] at this;exact this),(by have:=HSP.out.2;rw [List.drop_drop,←HJE.out] at this;exact this),HR.out⟩
      case measure=>simp [intOf];omega
     | some t=>
      have CB:=aA (aF0 hM2 hst1 hst2 q22 hox2 (fun wx hm=>by have:=aP8 B g (bc - j) x ⟨b2,o2+j * 2,none⟩ ((b.drop j).take (aF (b.drop j) 1)) t dv L1 wx (hM2.drawn hm) hx0 hx1 (hN2.fr ((Fr.refl _ _).drawn hm)) hl;rw [HLEN.out] at this;exact this))
      have HL:=aA hl
      clear hst1 hst2 hM2 hN2 hl
      by_cases hte:t=(b.drop j).take (aF (b.drop j) 1)
      ·rw [decide_eq_true hte] at CB
       have HR:Hid (cM a b L=cM (a.drop (k+1)) (b.drop je) L1):=aA (by rw [HMG.out,HKN.out t HVB.out HL.out,if_pos hte,HJE.out])
       clear hte
       go_region_held3 (fun w'=>w'.cell? ⟨wr.heap.size,1,none⟩=some (.int .i64 x)∧w'.cell? ⟨w.heap.size+1,1,none⟩=some (.slice (some ⟨b2,o2,none⟩) b.length bc)) (go_keep) ((go_at_call 114;refine (aB CB _ (by first | exact ⟨0,rfl⟩ | exact ⟨_,rfl⟩ | exact jX _ _ _)).mono ?_;rintro e w3 ⟨rfl,hm3,hf3,hc1,hc2⟩;have HM3:=aA hm3;have HF3:=aA hf3;clear hm3 hf3))
       go_wp2
       go_roundw
       case rel=>exact ⟨k+1,je,q,L1,by omega,hj2,by go_num,rfl,HM3.out,HF2.out.trans HF3.out,HL1.out,(by have:=HTA.out;rw [HWT.out] at this;exact this),(by have:=HSP.out.2;rw [List.drop_drop,←HJE.out] at this;exact this),HR.out⟩
       case measure=>simp [intOf];omega
      ·rw [decide_eq_false hte] at CB
       have HR:Hid (cM a b L=none):=aA (by rw [HMG.out,HKN.out t HVB.out HL.out,if_neg hte])
       clear hte
       go_region_held3 (fun w'=>w'.cell? ⟨wr.heap.size,1,none⟩=some (.int .i64 x)∧w'.cell? ⟨w.heap.size+1,1,none⟩=some (.slice (some ⟨b2,o2,none⟩) b.length bc)) (go_keep) ((go_at_call 114;refine (aB CB _ (by first | exact ⟨0,rfl⟩ | exact ⟨_,rfl⟩ | exact jX _ _ _)).mono ?_;rintro e w3 ⟨rfl,hm3,hf3,hc1,hc2⟩;have HM3:=aA hm3;have HF3:=aA hf3;clear hm3 hf3))
       go_wp2
       go_ret
       exact ⟨false,L1,rfl,HM3.out,HF0.out.trans (HF2.out.trans HF3.out),HL1.out,by simp,fun _=>HML.out.trans HR.out⟩
    ·have hv':s.toList.isEmpty=false:=by simpa using hv
     rw [hv'] at CV
     have HVB:Hid (aH (s,x)=false):=aA hv'
     clear hv hv'
     have g:=sY
     have hq:=tA s b[j].1 x b[j].2
     have hnb:=sZ (s,x) b[j]
     simp only at hnb
     have hj3:(j:Int) < (b.length:Int):=by omega
     by_cases he:(s,x)=b[j]
     ·rw [decide_eq_true he] at hnb
      have HR:Hid (cM a b L=cM (a.drop (k+1)) (b.drop (j+1)) L1):=aA (by rw [HMG.out,HNM.out HVB.out,if_pos he])
      have HE:=aA he
      clear he
      go_wp2_with (first
       | (go_at_call 49;refine (aB CV _).mono ?_;rintro e w1 ⟨rfl,hb1⟩;obtain ⟨q1,q2,q3⟩:=gD hb1;have HQ3:=aA q3;have hox1:=Below.at' q3 (Nat.le_refl _) hox;have e21:=Below.at' q3 (Nat.le_refl _) e2;have f21:=Below.at' q3 (Nat.le_refl _) f2;clear hb1 q3))
      go_quiet (fail)
      go_wp2
      go_roundw
      case rel=>exact ⟨k+1,j+1,q+aX (s,x),L1,by omega,by omega,by go_num,by go_num,(HM.out.below HQ3.out).drawn (by first | exact jX _ _ _ | exact ⟨_,rfl⟩),(HF.out.trans (Fr.of_below HQ3.out)).drawn (by first | exact jX _ _ _ | exact ⟨_,rfl⟩),HL1.out,HTA.out,(by have:=HTB.out.2;rw [←HE.out] at this;exact this),HR.out⟩
      case measure=>simp [intOf];omega
     ·rw [decide_eq_false he] at hnb
      have HR:Hid (cM a b L=none):=aA (by rw [HMG.out,HNM.out HVB.out,if_neg he])
      clear he
      go_wp2_with (first
       | (go_at_call 49;refine (aB CV _).mono ?_;rintro e w1 ⟨rfl,hb1⟩;obtain ⟨q1,q2,q3⟩:=gD hb1;have HQ3:=aA q3;have hox1:=Below.at' q3 (Nat.le_refl _) hox;have e21:=Below.at' q3 (Nat.le_refl _) e2;have f21:=Below.at' q3 (Nat.le_refl _) f2;clear hb1 q3))
      go_quiet (fail)
      go_wp2
      go_ret
      exact ⟨false,L1,rfl,(HM.out.below HQ3.out).drawn (by first | exact jX _ _ _ | exact ⟨_,rfl⟩),HF0.out.trans ((HF.out.trans (Fr.of_below HQ3.out)).drawn (by first | exact jX _ _ _ | exact ⟨_,rfl⟩)),HL1.out,by simp,fun _=>HML.out.trans HR.out⟩
   ·have hke:a.drop k=[]:=List.drop_eq_nil_of_le (by omega)
    rw [hke] at hta hmg
    have hq0:q=0:=by simpa [aI] using hta
    subst hq0
    have hje:=aQi hj htb
    have HR:Hid (cM a b L=some L1):=aA (by rw [hmg,aQe b j L1 hje])
    have HM:=aA hM
    have HF:=aA hF
    have HL1:=aA hL1
    clear hM hF hL1 hke hta hmg htb hje
    go_wp2
    go_ret
    exact ⟨true,L1,rfl,HM.out,HF0.out.trans HF.out,HL1.out,fun _=>HML.out.trans HR.out,by simp⟩
 ·have hbe:(!xb == yb)=true:=by cases xb <;> cases yb <;> simp_all
  have HML:Hid (gY (xb,a) (yb,b) L=none):=aA (by simp [gY,hxy])
  clear hxy
  go_enter Tryz.func84,Tryz.ntmps84
  go_wp2
  go_ret
  exact ⟨false,L,rfl,HM1.out,HF0.out,⟨[],by simp⟩,by simp,fun _=>HML.out⟩
theorem aPb {w:World} {B:Nat} {e:TypeId} {g cap n m:Nat} {xs:List Value} (h:w.ownsRow B e 1 (.slice (some ⟨g,0,none⟩) n cap) n xs) (hm:m≤n):w.ownsRow B e 1 (.slice (some ⟨g,0,none⟩) m cap) m (xs.take m):=by
 obtain ⟨h1,⟨h,_⟩ | ⟨g',cap',cur,hv,hb,hh,hc,hx,hz,ht⟩⟩:=h
 ·simp at h
 ·obtain ⟨rfl,rfl⟩ : g=g'∧cap=cap':=by simpa using hv
  refine ⟨by simp;omega,Or.inr ⟨g,cap,cur,rfl,hb,hh,by omega,hx,hz,?_⟩⟩
  rw [←ht,List.take_take]
  congr 1
  omega
structure rB (w wr:World) (B g:Nat) (dv bv:Value) (M:aU):Prop where
 blk:mH wr g
 fr:Fr B w wr
 rest:∀k,k≠g→wr.heap[k]?=w.heap[k]?
 among:wr.cell? ⟨g,0,none⟩=some dv
 term:∀x:Nat,x < 60→wr.cell? ⟨g,1+x,none⟩=if (x:Int)∈M.map Prod.fst then some (.slice none 0 0) else w.cell? ⟨g,1+x,none⟩
 bound:wr.cell? ⟨g,61,none⟩=some bv
theorem rB.start {w:World} {B g:Nat} {dv bv:Value} {L:aU} (h:bN w B g dv L) (hb:w.cell? ⟨g,61,none⟩=some bv):rB w w B g dv bv []:=
 ⟨h.blk,Fr.refl _ _,fun _ _=>rfl,h.among,fun x _=>by simp,hb⟩
theorem rB.step {w wr:World} {B g m:Nat} {dv bv:Value} {M:aU} {p:Int×List Nd} (h:rB w wr B g dv bv M) (hB:B≤g) (hm:m < 60) (hp:p.1=(m:Int)) (hc:∃u,wr.cell? ⟨g,1+m,none⟩=some u):rB w (wr.setCell ⟨g,1+m,none⟩ (.slice none 0 0)) B g dv bv (M++[p]):=by
 obtain ⟨u,hu⟩:=hc
 refine ⟨h.blk.set _ _,h.fr.trans (Fr.setB hB h.blk _ _),fun k hk=>by rw [heap_setCell_other _ _ _ _ (by simpa using hk)];exact h.rest k hk,?_,fun x hx=>?_,?_⟩
 ·rw [World.cell?_setCell_other wr _ _ _ (by first | (simp;done) | (simp;omega))];exact h.among
 ·by_cases hxm:x=m
  ·subst hxm
   rw [World.cell?_setCell_same wr _ _ hu,if_pos (by simp [hp])]
  ·rw [World.cell?_setCell_other wr _ _ _ (by first | (simp;done) | (simp;omega)),h.term x hx]
   have:((x:Int)∈(M++[p]).map Prod.fst)↔((x:Int)∈M.map Prod.fst):=by
    rw [List.map_append,List.mem_append]
    simp [hp]
    omega
   simp only [this]
 ·rw [World.cell?_setCell_other wr _ _ _ (by first | (simp;done) | (simp;omega))];exact h.bound
set_option maxHeartbeats 1000000 in
theorem aAd (B g:Nat) (dv:Value) (L M:aU) (w:World) (hM:bN w B g dv (L++M)) :
  Calls Tryz.prog 85 #[.pointer (some ⟨g,0,none⟩),.int .i64 (L.length:Nat)] w fun e w'=>e=.returned (.tuple #[])∧bN w' B g dv L∧Fr B w w':=by
 obtain ⟨bv,hbv,ho⟩:=hM.bound
 have hlen:=hM.ok.few
 simp only [List.length_append] at hlen
 have hfz:=fun j=>hM.frozen j
 have hlow:=hM.low
 have hap:=hM.apart ho
 have HM:=aA hM
 have ho':=ho
 obtain ⟨_,⟨rfl,h0⟩ | ⟨gb,cap,cur,rfl,hbb,hh,hc,hx,hz,ht⟩⟩:=ho'
 ·have hL:L=[]∧M=[]:=by
   simp only [List.length_append] at h0
   exact ⟨List.eq_nil_of_length_eq_zero (by omega),List.eq_nil_of_length_eq_zero (by omega)⟩
  obtain ⟨rfl,rfl⟩:=hL
  have hf:=hfz 61
  have R:=aA (bN.less (M:=[]) hM hM.blk (Fr.refl _ _) hM.among (fun x _=>by simp) (by rw [hbv];rfl) (bv':=.slice none 0 0) (World.ownsRow_nil _ _ _ _))
  clear hM ho hap
  go_enter Tryz.func85,Tryz.ntmps85
  go_wp2
  go_loopw [13] (fun i wr=>i=.int .i64 0∧wr=w) (fun _ _=>0)
  case atStart=>exact ⟨rfl,rfl⟩
  case round=>
   obtain ⟨rfl,rfl⟩:=hrel
   go_wp2
   go_end0
   exact ⟨rfl,R.out⟩
 ·simp only [List.length_append] at hc ht hbv ho hap hz
  have hcell:∀k,k < M.length→∃m:Nat,m < 60∧(M[k]?).map Prod.fst=some (m:Int)∧w.cell? ⟨gb,L.length+k,none⟩=some (.int .i64 (m:Int)):=by
   intro k hk
   have hkk:=HM.out.ok.keys M[k] (List.mem_append_right _ (List.getElem_mem _))
   refine ⟨M[k].1.toNat,by omega,by simp [hk];omega,?_⟩
   have:=World.ownsRow.cellAt ho (L.length+k) (by omega)
   rw [this]
   rw [List.map_append,List.getElem?_append_right (by simp)]
   simp [hk]
   omega
  have hgg:gb≠g:=by
   intro e
   exact hap (by simp [Value.ownBlock,e])
  have hfr:=aPb ho (m:=L.length) (by omega)
  rw [List.map_append,List.take_left' (by simp)] at hfr
  have HO:=aA hfr
  have HC:=aA hcell
  have hi1:(0:Int)≤(L.length:Int):=by omega
  have hi2:(L.length:Int)≤((L.length+M.length:Nat):Int):=by omega
  have hi3:(L.length:Int)≤(cap:Int):=by omega
  have hi4:(L.length:Int)≤(L.length:Int)+(M.length:Int):=by omega
  clear hM ho hfr hh hz ht hap hcell
  by_cases hce:cap=L.length
  ·have hM0:M=[]:=List.eq_nil_of_length_eq_zero (by omega)
   subst hM0
   subst hce
   have hf:=hfz 61
   have R:=aA (bN.less (M:=[]) HM.out HM.out.blk (Fr.refl _ _) HM.out.among (fun x _=>by simp) (by rw [hbv];rfl) HO.out)
   simp only [List.length_nil,Nat.add_zero] at hbv
   clear hc HC hi2 hi4 hlen
   go_enter Tryz.func85,Tryz.ntmps85
   go_wp2
   go_loopw [13] (fun i wr=>i=.int .i64 0∧wr=w) (fun _ _=>0)
   case atStart=>exact ⟨rfl,rfl⟩
   case round=>
    obtain ⟨rfl,rfl⟩:=hrel
    go_wp2
    go_end0
    exact ⟨rfl,R.out⟩
  ·go_enter Tryz.func85,Tryz.ntmps85
   go_wp2
   have HFS:=aA (rB.start HM.out hbv)
   go_loopw [13] (fun i wr=>∃k:Nat,k≤M.length∧i=.int .i64 k∧rB w wr B g dv (.slice (some ⟨gb,0,none⟩) (L.length+M.length) cap) (M.take k)) (fun i _=>M.length - (intOf i).toNat)
   case atStart=>exact ⟨0,Nat.zero_le _,rfl,HFS.out⟩
   case round=>
    obtain ⟨k,hk,rfl,hF⟩:=hrel
    by_cases hlt:k < M.length
    ·obtain ⟨m,hm,hmk,hcl⟩:=HC.out k hlt
     have hcl2:wr.cell? ⟨gb,L.length+k,none⟩=some (.int .i64 (m:Int)):=by rw [World.cell?_of_block (hF.rest gb hgg)];exact hcl
     have hct:∃u,wr.cell? ⟨g,1+m,none⟩=some u:=by
      rw [hF.term m hm]
      obtain ⟨v,hv,_⟩:=HM.out.term m hm
      split
      ·exact ⟨_,rfl⟩
      ·exact ⟨v,hv⟩
     have hfw:wr.frozen? ⟨g,1+m,none⟩=false:=by
      obtain ⟨cs,hb⟩:=hF.blk
      simp [World.frozen?,hb]
     have HN:=aA (hF.step hlow hm (p:=M[k]) (by simpa [hlt] using hmk) hct)
     obtain ⟨u,hu⟩:=hct
     clear hcl hF hmk
     go_wp2
     go_roundw
     case rel=>exact ⟨k+1,by omega,by go_num,by rw [List.take_succ_eq_append_getElem hlt];exact HN.out⟩
     case measure=>simp [intOf];omega
    ·have hkM:M.take k=M:=List.take_of_length_le (by omega)
     rw [hkM] at hF
     have hbw:=hF.bound
     have hfw:wr.frozen? ⟨g,61,none⟩=false:=by
      obtain ⟨cs,hb⟩:=hF.blk
      simp [World.frozen?,hb]
     have how:wr.ownsRow B 3 1 (.slice (some ⟨gb,0,none⟩) L.length cap) L.length (L.map fun p=>.int .i64 p.1):=by
      obtain ⟨h1,⟨h,_⟩ | ⟨g',cap',cur',hv,hb',hh',hr'⟩⟩:=HO.out
      ·simp at h
      ·obtain ⟨rfl,rfl⟩ : gb=g'∧cap=cap':=by simpa using hv
       exact ⟨h1,Or.inr ⟨gb,cap,cur',rfl,hb',by rw [hF.rest gb hgg];exact hh',hr'⟩⟩
     have R:=aA (bN.less HM.out hF.blk hF.fr hF.among hF.term (by rw [hbw];rfl) how)
     clear hF hkM how
     go_wp2
     go_end0
     exact ⟨rfl,R.out⟩
end Go.Proofs.YtbddofieljiihaaGreatDoor
