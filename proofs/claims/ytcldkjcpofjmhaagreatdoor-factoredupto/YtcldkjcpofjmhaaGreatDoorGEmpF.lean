import Derived.Test.YtcldkjcpofjmhaaGreatDoorGWordF
open Bool renaming and_eq_false_iff→zw
open List renaming getD_eq_getElem?_getD→zu,getElem?_eq_getElem→zs
open Nat renaming le_refl→zy
namespace Go.Proofs.YtcldkjcpofjmhaaGreatDoor
open _root_.Go.Proofs.Tryz renaming results49→zv,prog→zt
open World renaming cell?→zz,frozen?→zx
set_option maxHeartbeats 3000000
set_option maxRecDepth 100000
open Go.RowKit
variable{s:ByteArray}{T:List Tk}{i k p:Nat}{w:World}
abbrev fB:ByteArray:=⟨#[36,102,97,108,115,101]⟩
def tN(s:ByteArray)(p:Nat):Prop:=p+6<=s.size/\s.extract p (p+6)=fB
theorem yQ:∀i,i<6->aD fB i<128:=by
 have:∀i:Fin 6,aD fB i.1<128:=by decide
 exact λi hi=>this ⟨i,hi⟩
theorem aFe:tN s p↔p+6<=s.size/\∀i,i<6->aD s (p+i)=aD fB i:=by
 unfold tN;constructor
 ·rintro ⟨h1,h2⟩;refine ⟨h1,λi hi=>?_⟩;have:aD (s.extract p (p+6)) i=aD fB i:=by rw [h2]
  rw [<-this,gJ (s.extract p (p+6)) i (by rw [ByteArray.size_extract];omega),gJ s (p+i) (by omega),ByteArray.getElem_extract]
 ·rintro ⟨h1,h2⟩;refine ⟨h1,?_⟩;apply ByteArray.ext;apply Array.ext
  ·have:(s.extract p (p+6)).size=6:=by rw [ByteArray.size_extract];omega
   exact this
  ·intro i hi1 hi2;have hi6:i<6:=hi2;have e:=h2 i hi6;rw [gJ s (p+i) (by omega),gJ fB i hi6] at e;have e1:(s.extract p (p+6))[i]'hi1=s[p+i]'(by omega):=ByteArray.getElem_extract ..;have e2:=UInt8.toNat_inj.1 e;exact e1.trans e2
def aN9(B pb:Nat)(s:ByteArray)(p g j m c:Nat)(k a:Int)(wd:ByteArray)(vC vP vM:Value)(w:World)(e:Ending)(w':World):Prop:=
 w.grownBy w' (some pb)/\((tN s p/\e=.returned (fU 36 p ⟨#[]⟩)/\∃j' m' c',bH B w' pb s (p+6) g j' m' c' k a wd vC vP vM)\/(¬tN s p/\e=.returned (fU (-2) p ⟨#[]⟩)/\bH B w' pb s p g j m c k a wd vC vP vM))
section
variable {B:Nat}{pb:Nat}{s:ByteArray}{p g j m c:Nat}{k a:Int}{wd:ByteArray}{vC vP vM:Value}
theorem aFf(h:bH B w pb s p g j m c k a wd vC vP vM) :
  Calls zt 78 #[.pointer (some ⟨pb,0,none⟩)] w λe w'=>aN9 B pb s p g j m c k a wd vC vP vM w e w':=by
 have d0:=h.box.c0;have d1:=h.at0.2;have e0:∀o,(w.alloc o).cell? ⟨pb,0,none⟩=some (.slice (some ⟨g,j*2,none⟩) (m+1) (c+1)):=λo=>Below.at' ((Below.refl _ w).alloc (zy _) o) (zy _) d0
 have e1:∀o,(w.alloc o).cell? ⟨g,j*2+1,none⟩=some (.int .i64 p):=λo=>Below.at' ((Below.refl _ w).alloc (zy _) o) (zy _) d1
 have HB0:Hid (∀o o2,Below w.heap.size w ((w.alloc o).alloc o2)):=aA λo o2=>((Below.refl _ _).alloc (zy _) o).alloc (by simp) o2
 have HX0:Hid (∀o o2,((w.alloc o).alloc o2).heap[w.heap.size]?=some o/\((w.alloc o).alloc o2).heap[w.heap.size+1]?=some o2/\((w.alloc o).alloc o2).heap.size=w.heap.size+2):=aA λo o2=>⟨by show ((w.heap.push _).push _)[w.heap.size]?=_;simp [Array.getElem?_push],by
  show ((w.heap.push o).push o2)[w.heap.size+1]?=_;have h:((w.heap.push o).push o2)[(w.heap.push o).size]?=some o2:=by rw [Array.getElem?_push];exact if_pos rfl
  rwa [Array.size_push] at h,by simp⟩
 have HS:=aA h;have hpb:=h.box.lt;clear h d0 d1;go_enter Tryz.func78,Tryz.ntmps78;go_wp2;have hb1:=HB0.out (.cells #[.int .i32 0,.int .i64 0,.string ⟨#[]⟩] 75) (.cells #[.int .i32 36,.int .i64 p,.string ⟨#[]⟩] 75);have HS1:=aA (HS.out.below hb1);obtain ⟨hx1,hy1,hz1⟩:=HX0.out (.cells #[.int .i32 0,.int .i64 0,.string ⟨#[]⟩] 75) (.cells #[.int .i32 36,.int .i64 p,.string ⟨#[]⟩] 75);have HB1:=aA hb1;have HX1:=aA hx1;have HY1:=aA hy1;clear hb1 hx1 hy1 HB0 HX0 e0 e1;generalize (w.alloc (.cells #[.int .i32 0,.int .i64 0,.string ⟨#[]⟩] 75)).alloc (.cells #[.int .i32 36,.int .i64 p,.string ⟨#[]⟩] 75)=w2 at *;obtain ⟨rb,hrbe⟩ : ∃rb,w.heap.size=rb:=⟨_,rfl⟩;rw [hrbe] at hz1 HX1 HY1 hpb;simp only [hrbe];have HRB:=aA hrbe;clear hrbe;go_loopg [] 6 (λq wr=>∃i:Nat,q+i=6/\wr.heap[rb+2]?=some (.stringIter fB i)/\Below w2.heap.size w2 wr/\p+i<=s.size/\∀x,x<i->aD s (p+x)=aD fB x);case atStart=>
  refine ⟨0,rfl,?_,(Below.refl _ w2).alloc (zy _) _,HS.out.le,λx hx=>by omega⟩;have:=World.iter_heap w2 fB 0;rw [hz1] at this;simpa using this
 case round=>
  obtain ⟨i,hqi,hit,hfar,hpi,hall⟩:=hrel;have HIT:=aA hit;have HALL:=aA hall;have HW2:=aA hfar;have hlow:∀x,x<i->aD s (p+x)<128:=λx hx=>by rw [hall x hx];exact yQ x (by omega)
  obtain ⟨hd,him⟩:=HS1.out.letters i hpi hlow;have HD:=aA hd;by_cases hi6:i<6
  ·have hp:i<fB.size:=hi6;have hc:(fB[i]'hp).toNat<128:=by have:=yQ i hi6;rw [gJ fB i hp] at this;exact this
   have hnx:∀ty,(Instr.next (.pointer (some ⟨rb+2,0,none⟩)) true ty).run zt wr=_:=λty=>Lib.run_next_ascii_at wr (rb+2) fB i ty hit hp hc
   have HI2:=aA (Lib.iterAt_heap wr (rb+2) fB i (i+1) hit);have hfar2:=Lib.below_iterAt hfar (k:=rb+2) (by omega) fB (i+1);have hSi:=HS1.out.below hfar2;have a0:=(hSi.cells i (p+i) hd hpi him).1;have d0:=hSi.box.c0;have HSI:=aA hSi;have HF2:=aA hfar2;have HXI:Hid ((wr.iterAt (rb+2) fB (i+1)).heap[rb]?=some (.cells #[.int .i32 0,.int .i64 0,.string ⟨#[]⟩] 75)):=aA ((hfar2.block rb (by omega)).trans HX1.out);have hbi:(fB[i]'hp).toNat=aD fB i:=(gJ fB i hp).symm;have himi:(i:Int)<(m:Int)+1:=by omega
   have hi0:(0:Int)<=(i:Int):=by omega
   by_cases heq:aP s (p+i)=(aD fB i:Int)
   ·have hlt:p+i<s.size:=Classical.byContradiction λhn=>by rw [nE s _ hn] at heq;omega
    have hbe:=(eQ s (p+i) hlt (aD fB i) (yQ i hi6)).1 heq;rw [heq,<-hbi] at a0;clear hit hall hfar hd hSi hfar2;go_wp2;go_roundg (6-(i+1));case measure=>omega
    case rel=>exact ⟨i+1,by omega,HI2.out,HF2.out,by omega,λx hx=>by
     by_cases e:x=i
     ·subst e;exact hbe
     ·exact HALL.out x (by omega)⟩
   ·have HNF:Hid (¬tN s p):=aA λhF=>by
     obtain ⟨h1,h2⟩:=aFe.1 hF;exact heq ((eQ s (p+i) (by omega) (aD fB i) (yQ i hi6)).2 (h2 i hi6))
    have CB:=aA (uW HSI.out);unfold fU at CB;rw [hbi] at hnx;generalize aP s (p+i)=cc at *;have hne:(cc != (aD fB i:Int))=true:=by simpa using heq
    clear hit hall hfar hd hSi hfar2 hbi;go_wp2_with (first
     | (go_at_call 80;refine (aB CB).mono ?_;rintro e w3 ⟨rfl,hb3⟩;have hx3:=(hb3.block rb (by have:=HW2.out.size;simp only [Lib.iterAt_size];omega)).trans HXI.out;have HB3:=aA hb3;have t0:w3.cell? ⟨rb,0,none⟩=some (.int .i32 0):=(by simp [zz,hx3]);have t1:w3.cell? ⟨rb,1,none⟩=some (.int .i64 0):=(by simp [zz,hx3]);have t2:w3.cell? ⟨rb,2,none⟩=some (.string ⟨#[]⟩):=(by simp [zz,hx3]);have tt0:=iJ (v:=.int .i32 (-2)) t0;have t3:∀i,w3.frozen? ⟨rb,i,none⟩=false:=(λi=>by simp [zx,hx3]);clear hb3 hx3)
     | go_in)
    refine bodyPost_ret (by simp [results,Tryz.results78,go_sem,tt0,t1,t2];try rfl) rfl ?_;have hbw:Below w.heap.size w (wr.iterAt (rb+2) fB (i+1)):=HB1.out.trans (HF2.out.mono HB1.out.size);have hfin:Below w.heap.size w w3:=hbw.trans (HB3.out.mono hbw.size);have hrw:w.heap.size<=rb:=by rw [HRB.out];exact zy _
    have hf2:=fD (fD (fD hfin (p:=⟨rb,0,none⟩) hrw (.int .i32 (-2))) (p:=⟨rb,1,none⟩) hrw (.int .i64 p)) (p:=⟨rb,2,none⟩) hrw (.string ⟨#[]⟩);exact ⟨mA hf2 _,Or.inr ⟨HNF.out,rfl,HS.out.below hf2⟩⟩
  ·obtain rfl:i=6:=by omega
   have hp:¬6<fB.size:=by decide
   have hnx:∀ty,(Instr.next (.pointer (some ⟨rb+2,0,none⟩)) true ty).run zt wr=_:=λty=>Lib.run_next_end_at wr (rb+2) fB 6 ty hit hp
   have HYF:Hid (tN s p):=aA (aFe.2 ⟨hpi,hall⟩);have hSi:=HS1.out.below hfar;have d0:=hSi.box.c0;have f0:=hSi.box.soft 0;have hX9:=(hfar.block rb (by omega)).trans HX1.out;have hT9:=(hfar.block (rb+1) (by omega)).trans HY1.out;obtain ⟨m',rfl⟩ : ∃m',m=m'+6:=⟨m-6,by omega⟩;obtain ⟨c',rfl⟩ : ∃c',c=c'+6:=⟨c-6,by have:=HS.out.mc;omega⟩;have hpr:pb≠rb:=by omega
   have hpt:pb≠rb+1:=by omega
   have cY:∀u,(wr.setCell ⟨pb,0,none⟩ u).heap[rb]?=some (.cells #[.int .i32 0,.int .i64 0,.string ⟨#[]⟩] 75)/\(wr.setCell ⟨pb,0,none⟩ u).heap[rb+1]?=some (.cells #[.int .i32 36,.int .i64 p,.string ⟨#[]⟩] 75):=λu=>⟨by rw [Below.heap_setCell _ _ _ _ hpr.symm];exact hX9,by rw [Below.heap_setCell _ _ _ _ hpt.symm];exact hT9⟩
   have z0:∀u,(wr.setCell ⟨pb,0,none⟩ u).cell? ⟨rb,0,none⟩=some (.int .i32 0):=λu=>by simp [zz,(cY u).1]
   have z1:∀u,(wr.setCell ⟨pb,0,none⟩ u).cell? ⟨rb,1,none⟩=some (.int .i64 0):=λu=>by simp [zz,(cY u).1]
   have z2:∀u,(wr.setCell ⟨pb,0,none⟩ u).cell? ⟨rb,2,none⟩=some (.string ⟨#[]⟩):=λu=>by simp [zz,(cY u).1]
   have z3:∀u i,(wr.setCell ⟨pb,0,none⟩ u).frozen? ⟨rb,i,none⟩=false:=λu i=>by simp [zx,(cY u).1]
   have z4:∀u,(wr.setCell ⟨pb,0,none⟩ u).cell? ⟨rb+1,0,none⟩=some (.int .i32 36):=λu=>by simp [zz,(cY u).2]
   have z5:∀u,(wr.setCell ⟨pb,0,none⟩ u).cell? ⟨rb+1,1,none⟩=some (.int .i64 p):=λu=>by simp [zz,(cY u).2]
   have z6:∀u,(wr.setCell ⟨pb,0,none⟩ u).cell? ⟨rb+1,2,none⟩=some (.string ⟨#[]⟩):=λu=>by simp [zz,(cY u).2]
   have zz0:=λu=>iJ (v:=.int .i32 36) (z0 u)
   have hm1:m'+6+1-6=m'+1:=by omega
   have hc1:c'+6+1-6=c'+1:=by omega
   have hlb:(6:Int)<=(m':Int)+6+1:=by omega
   clear cY hit hall hfar hd hSi hX9 hT9;go_wp2;refine bodyPost_ret (by simp [results,Tryz.results78,go_sem,zz0,z1,z2];try rfl) rfl ?_;have hJ:=bH.jump 6 (p+6) m' c' HS.out HD.out hpi;have hbw:Below w.heap.size w wr:=HB1.out.trans (HW2.out.mono HB1.out.size);have hY:Below (w.setCell ⟨pb,0,none⟩ (.slice (some ⟨g,j*2+6*2,none⟩) (m'+1) (c'+1))).heap.size (w.setCell ⟨pb,0,none⟩ (.slice (some ⟨g,j*2+6*2,none⟩) (m'+1) (c'+1))) (wr.setCell ⟨pb,0,none⟩ (.slice (some ⟨g,j*2+6*2,none⟩) (m'+1) (c'+1))):=aBn hbw (HS.out.box.lt) _;have hrw:(w.setCell ⟨pb,0,none⟩ (.slice (some ⟨g,j*2+6*2,none⟩) (m'+1) (c'+1))).heap.size<=rb:=by rw [<-HRB.out];simp [World.setCell]
   have hf2:=fD (fD (fD hY (p:=⟨rb,0,none⟩) hrw (.int .i32 36)) (p:=⟨rb,1,none⟩) hrw (.int .i64 p)) (p:=⟨rb,2,none⟩) hrw (.string ⟨#[]⟩);have hg0:w.grownBy (w.setCell ⟨pb,0,none⟩ (.slice (some ⟨g,j*2+6*2,none⟩) (m'+1) (c'+1))) (some pb):=bR _ _ _;exact ⟨hg0.trans (mA hf2 _),Or.inl ⟨HYF.out,rfl,_,_,_,hJ.below hf2⟩⟩
end
def dO(k:Nat):Int:=if k=110 then 97 else if k=118 then 65 else if k=102 then 36 else if k=101 then -1 else if k=63 then -2 else k
theorem aNa(s:ByteArray)(p:Nat)(h:p<s.size):fR (aP s p)=fR (aD s p):=by
 by_cases hb:aD s p<128
 ·rw [(lF s p h hb).1]
 ·have h2:fR (aD s p:Int)=false:=by simp only [fR,zw,decide_eq_false_iff_not];omega
  rw [h2];rcases wO s p h (by omega) with e | e <;> (simp only [fR,zw,decide_eq_false_iff_not];omega)
theorem aNb(s:ByteArray)(p:Nat)(h:p<s.size):eU (aP s p)=eU (aD s p):=by
 by_cases hb:aD s p<128
 ·rw [(lF s p h hb).1]
 ·have h2:eU (aD s p:Int)=false:=by simp only [eU,zw,decide_eq_false_iff_not];omega
  rw [h2];rcases wO s p h (by omega) with e | e <;> (simp only [eU,zw,decide_eq_false_iff_not];omega)
theorem aNc(s:ByteArray)(p:Nat)(h:p<s.size):qI (aP s p)=pK (aD s p):=by
 unfold qI pK;have q:∀c:Nat,c<128->(aP s p=(c:Int))=(aD s p=c):=λc hc=>propext (eQ s p h c hc)
 have q1:(aP s p=124)=(aD s p=124):=q 124 (by omega);have q2:(aP s p=126)=(aD s p=126):=q 126 (by omega);have q3:(aP s p=40)=(aD s p=40):=q 40 (by omega);have q4:(aP s p=41)=(aD s p=41):=q 41 (by omega);have q5:(aP s p=44)=(aD s p=44):=q 44 (by omega);have q6:(aP s p=46)=(aD s p=46):=q 46 (by omega);simp only [q1,q2,q3,q4,q5,q6]
section
variable {B:Nat}{w W:World}{pb:Nat}{s:ByteArray}{p g j m c:Nat}{k a:Int}{wd:ByteArray}{vC vP vM:Value}
theorem bH.setTok{rb:Nat}{cs:Array Value}(h:bH B W pb s p g j m c k a wd vC vP vM)(hx:W.heap[rb]?=some (.cells cs 75))(i:Nat)(u:Value):bH B (W.setCell ⟨rb,i,none⟩ u) pb s p g j m c k a wd vC vP vM/\∃cs',(W.setCell ⟨rb,i,none⟩ u).heap[rb]?=some (.cells cs' 75):=by
 have hne:pb≠rb:=by rintro rfl;have:=h.box;unfold bL at this;rw [hx] at this;simp at this
 refine ⟨⟨?_,h.high,?_,h.len,h.drop,h.le⟩,?_⟩
 ·unfold bL;rw [Below.heap_setCell _ _ _ _ hne];exact h.box
 ·refine ownsRow_setCell_other h.row ?_ u;intro e;obtain ⟨_,⟨e2,_⟩ | ⟨g',cap,cur,e2,_,hh,_⟩⟩:=h.row
  ·simp at e2
  ·simp at e2;obtain ⟨rfl,_⟩:=e2;simp [Value.ownBlock] at e;subst e;rw [hx] at hh;simp at hh
 ·refine ⟨cs.set! i u,?_⟩;have:=heap_setCell_same W rb i cs 75 u hx;simpa using this
theorem bH.setTok3{rb:Nat}{cs:Array Value}(h:bH B W pb s p g j m c k a wd vC vP vM)(hx:W.heap[rb]?=some (.cells cs 75))(u0 u1 u2:Value):bH B (((W.setCell ⟨rb,0,none⟩ u0).setCell ⟨rb,1,none⟩ u1).setCell ⟨rb,2,none⟩ u2) pb s p g j m c k a wd vC vP vM:=by obtain ⟨h1,c1,x1⟩:=h.setTok hx 0 u0;obtain ⟨h2,c2,x2⟩:=h1.setTok x1 1 u1;exact (h2.setTok x2 2 u2).1
end
theorem gZ{W:World}{pb rb:Nat}(h:w.grownBy W (some pb))(hr:w.heap.size<=rb)(u:Value):w.grownBy (W.setCell ⟨rb,i,none⟩ u) (some pb):=
 ⟨h.os,h.tape,h.output,by have:=h.size;simpa [World.setCell] using this,λk hk hne=>by rw [Below.heap_setCell _ _ _ _ (by intro e;simp at e;omega)];exact h.block k hk hne⟩
def qD(B pb:Nat)(s:ByteArray)(p f g:Nat)(k a:Int)(wd:ByteArray)(vC vP vM:Value)(w:World)(e:Ending)(w':World):Prop:=
 w.grownBy w' (some pb)/\
  match qX s f p with
  | .tok t q=>e=.returned (fU (dO t.kind) t.pos t.txt)/\∃j m c,bH B w' pb s q g j m c k a wd vC vP vM
  | .bad q=>e=.returned (fU (-2) q ⟨#[]⟩)/\∃j m c,bH B w' pb s q g j m c k a wd vC vP vM
  | .stop q=>e=.returned (fU (-1) q ⟨#[]⟩)/\∃j m c,bH B w' pb s q g j m c k a wd vC vP vM
theorem aFg(hl:(fR (aD s p) || eU (aD s p))=true):hH (aD s p)=true:=by unfold hH;rw [Bool.or_eq_true] at hl;rcases hl with h | h <;> simp [h]
section
variable {B:Nat}{w:World}{pb:Nat}{s:ByteArray}{p g j m c:Nat}{k a:Int}{wd:ByteArray}{vC vP vM:Value}
theorem aFh(f:Nat)(h:bH B w pb s p g j m c k a wd vC vP vM)(hs:s.size<=3000)(hf:s.size<p+f) :
  Calls zt 49 #[.pointer (some ⟨pb,0,none⟩)] w λe w'=>qD B pb s p f g k a wd vC vP vM w e w':=by
 obtain ⟨hn1,hn2,hn3⟩:=aOy s f p hf h.le;have CS:=aA (λo=>aOz f (h.below ((Below.refl w.heap.size w).alloc (zy _) o)) hf);have HX0:Hid (∀o,(w.alloc o).heap[w.heap.size]?=some o):=aA λo=>by show (w.heap.push _)[w.heap.size]?=_;simp
 have hpb:=h.box.lt;obtain ⟨p1,hp1⟩ : ∃p1,lG s f p=p1:=⟨_,rfl⟩;rw [hp1] at hn1 hn2 hn3 CS;have HN1:=aA hn1;clear h hp1 hn1;go_enter Tryz.func49,Tryz.ntmps49;go_upto_region 3 with (first
  | (go_at_call 73;refine (aB CS _).mono ?_;rintro e w1 ⟨rfl,hg1,j1,m1,c1,hS1⟩;have hx1:=(hg1.block w.heap.size (by simp) (by simp;omega)).trans (HX0.out _);have HS1:=aA hS1;have HX1:=aA hx1;have d0:=hS1.box.c0;have d1:=hS1.at0.1;have d2:=hS1.at0.2;have HG1:Hid (w.grownBy w1 (some pb)):=aA ((mA ((Below.refl w.heap.size w).alloc (zy _) _) (some pb)).trans hg1);have hz1:=hg1.size;clear hg1 hS1 hx1)
  | go_in)
 have hb2:=(Below.refl w1.heap.size w1).alloc (zy _) (.cells #[.int .i32 (aP s p1),.int .i64 p1] 128);have HS2:=aA (HS1.out.below hb2);have hx2:=hb2.block w.heap.size (by simp at hz1;omega);rw [HX1.out] at hx2;have HX2:=aA hx2;have HG2:=aA (HG1.out.trans (mA hb2 (some pb)));have hfb:(w1.alloc (.cells #[.int .i32 (aP s p1),.int .i64 p1] 128)).heap[w1.heap.size]?=some (.cells #[.int .i32 (aP s p1),.int .i64 p1] 128):=by show (w1.heap.push _)[w1.heap.size]?=_;simp
 have b0:(w1.alloc (.cells #[.int .i32 (aP s p1),.int .i64 p1] 128)).cell? ⟨w1.heap.size,0,none⟩=some (.int .i32 (aP s p1)):=by unfold zz;rw [hfb];rfl
 have b1:(w1.alloc (.cells #[.int .i32 (aP s p1),.int .i64 p1] 128)).cell? ⟨w1.heap.size,1,none⟩=some (.int .i64 p1):=by unfold zz;rw [hfb];rfl
 have hfz:w1.heap.size<(w1.alloc (.cells #[.int .i32 (aP s p1),.int .i64 p1] 128)).heap.size:=by simp
 have HFB:=aA hfb;have hrw:w.heap.size<=w.heap.size:=zy _;have hrf:w.heap.size<w1.heap.size:=by simp at hz1;omega
 clear hb2 hx2 hfb HS1 HX1 HG1 HX0 CS d0 d1 d2 hz1;generalize w1.alloc (.cells #[.int .i32 (aP s p1),.int .i64 p1] 128)=w2 at *;generalize w1.heap.size=fb at *;obtain ⟨rb,hrbe⟩ : ∃rb,w.heap.size=rb:=⟨_,rfl⟩;rw [hrbe] at HX2 hpb hrf;simp only [hrbe];have hrw:w.heap.size<=rb:=by omega
 clear hrbe;have CL:=aA (λwx=>aGd (aP s p1) wx);have CU:=aA (λwx=>aGe (aP s p1) wx);by_cases hlt:p1<s.size
 ·have HTK:Hid (qX s f p=eV s p1):=aA (by rw [HN1.out,if_pos hlt]);obtain ⟨hgap,h37⟩:=hn3 hlt;have hsm:=aNa s p1 hlt;have hlg:=aNb s p1 hlt;rw [hsm] at CL;rw [hlg] at CU;by_cases hlet:(fR (aD s p1) || eU (aD s p1))=true
  ·have hin:=aFg hlet;have htw:=aUq hlet;by_cases hsl:fR (aD s p1)=true
   ·have hll:eU (aD s p1:Int)=false:=by simp only [fR,Bool.and_eq_true,decide_eq_true_eq] at hsl;simp only [eU,zw,decide_eq_false_iff_not];omega
    rw [hll] at htw;rw [hsl] at CL;obtain ⟨K,Q,T,hKQ,hCX⟩ : ∃(K:Int) (Q:Nat) (T:ByteArray),(∀w',w.grownBy w' (some pb)->(∃j m c,bH B w' pb s Q g j m c k a wd vC vP vM)->qD B pb s p f g k a wd vC vP vM w (.returned (fU K p1 T)) w')/\Calls zt 75 #[.pointer (some ⟨pb,0,none⟩),.int .i32 97] w2 λe w'=>e=.returned (.agg #[.int .i32 K,.int .i64 p1,.string T])/\w2.grownBy w' (some pb)/\∃j m c,bH B w' pb s Q g j m c k a wd vC vP vM:=by
     by_cases h20:eT s p1-p1 > 20
     ·refine ⟨-2,p1,⟨#[]⟩,λw' hg hS=>⟨hg,by rw [HTK.out,htw,if_pos h20];exact ⟨rfl,hS⟩⟩,(zE 97 HS2.out hs hlt hin).mono ?_⟩;rintro e w' ⟨hg,hr⟩;rw [if_pos h20] at hr;exact ⟨hr.1,hg,_,_,_,hr.2⟩
     ·refine ⟨97,eT s p1,s.extract p1 (eT s p1),λw' hg hS=>⟨hg,by rw [HTK.out,htw,if_neg h20];exact ⟨rfl,hS⟩⟩,(zE 97 HS2.out hs hlt hin).mono ?_⟩;rintro e w' ⟨hg,hr⟩;rw [if_neg h20] at hr;exact ⟨hr.1,hg,hr.2⟩
    have HFIN:=aA hKQ;have CX:=aA hCX;clear hKQ hCX hsm hlg htw;generalize aP s p1=cc at *;go_wp2_with (first
     | (go_at_call 74;refine (aB CL _).mono ?_;rintro e wq ⟨rfl,rfl⟩)
     | (go_at_call 75;refine (aB CX).mono ?_;rintro e w3 ⟨rfl,hg3,j3,m3,c3,hS3⟩;have hx3:=(hg3.block rb (by omega) (by simp;omega)).trans HX2.out;have HS3:=aA hS3;have HG3:=aA hg3;have HX3:=aA hx3;have t0:w3.cell? ⟨rb,0,none⟩=some (.int .i32 0):=(by simp [zz,hx3]);have t1:w3.cell? ⟨rb,1,none⟩=some (.int .i64 0):=(by simp [zz,hx3]);have t2:w3.cell? ⟨rb,2,none⟩=some (.string ⟨#[]⟩):=(by simp [zz,hx3]);have tt0:=λv=>iJ (v:=v) t0;have t3:∀i,w3.frozen? ⟨rb,i,none⟩=false:=(λi=>by simp [zx,hx3]);clear hg3 hS3 hx3)
     | go_in)
    refine bodyPost_ret (by simp [results,zv,go_sem,tt0,t1,t2];try rfl) rfl ?_;exact HFIN.out _ (gZ (gZ (gZ (HG2.out.trans HG3.out) hrw _) hrw _) hrw _) ⟨_,_,_,HS3.out.setTok3 HX3.out _ _ _⟩
   ·have hsf:fR (aD s p1:Int)=false:=by simpa using hsl
    have hll:eU (aD s p1:Int)=true:=by rw [hsf] at hlet;simpa using hlet
    rw [hll] at htw CU;rw [hsf] at CL;obtain ⟨K,Q,T,hKQ,hCX⟩ : ∃(K:Int) (Q:Nat) (T:ByteArray),(∀w',w.grownBy w' (some pb)->(∃j m c,bH B w' pb s Q g j m c k a wd vC vP vM)->qD B pb s p f g k a wd vC vP vM w (.returned (fU K p1 T)) w')/\Calls zt 75 #[.pointer (some ⟨pb,0,none⟩),.int .i32 65] w2 λe w'=>e=.returned (.agg #[.int .i32 K,.int .i64 p1,.string T])/\w2.grownBy w' (some pb)/\∃j m c,bH B w' pb s Q g j m c k a wd vC vP vM:=by
     by_cases h20:eT s p1-p1 > 20
     ·refine ⟨-2,p1,⟨#[]⟩,λw' hg hS=>⟨hg,by rw [HTK.out,htw,if_pos h20];exact ⟨rfl,hS⟩⟩,(zE 65 HS2.out hs hlt hin).mono ?_⟩;rintro e w' ⟨hg,hr⟩;rw [if_pos h20] at hr;exact ⟨hr.1,hg,_,_,_,hr.2⟩
     ·refine ⟨65,eT s p1,s.extract p1 (eT s p1),λw' hg hS=>⟨hg,by rw [HTK.out,htw,if_neg h20];exact ⟨rfl,hS⟩⟩,(zE 65 HS2.out hs hlt hin).mono ?_⟩;rintro e w' ⟨hg,hr⟩;rw [if_neg h20] at hr;exact ⟨hr.1,hg,hr.2⟩
    have HFIN:=aA hKQ;have CX:=aA hCX;clear hKQ hCX hsm hlg htw;generalize aP s p1=cc at *;go_wp2_with (first
     | (go_at_call 74;refine (aB CL _).mono ?_;rintro e wq ⟨rfl,rfl⟩)
     | (go_at_call 76;refine (aB CU _).mono ?_;rintro e wq ⟨rfl,rfl⟩)
     | (go_at_call 75;refine (aB CX).mono ?_;rintro e w3 ⟨rfl,hg3,j3,m3,c3,hS3⟩;have hx3:=(hg3.block rb (by omega) (by simp;omega)).trans HX2.out;have HS3:=aA hS3;have HG3:=aA hg3;have HX3:=aA hx3;have t0:w3.cell? ⟨rb,0,none⟩=some (.int .i32 0):=(by simp [zz,hx3]);have t1:w3.cell? ⟨rb,1,none⟩=some (.int .i64 0):=(by simp [zz,hx3]);have t2:w3.cell? ⟨rb,2,none⟩=some (.string ⟨#[]⟩):=(by simp [zz,hx3]);have tt0:=λv=>iJ (v:=v) t0;have t3:∀i,w3.frozen? ⟨rb,i,none⟩=false:=(λi=>by simp [zx,hx3]);clear hg3 hS3 hx3)
     | go_in)
    refine bodyPost_ret (by simp [results,zv,go_sem,tt0,t1,t2];try rfl) rfl ?_;exact HFIN.out _ (gZ (gZ (gZ (HG2.out.trans HG3.out) hrw _) hrw _) hrw _) ⟨_,_,_,HS3.out.setTok3 HX3.out _ _ _⟩
  ·have hsf:fR (aD s p1:Int)=false:=by simp at hlet;exact hlet.1
   have hlf:eU (aD s p1:Int)=false:=by simp at hlet;exact hlet.2
   have hlet':(fR (aD s p1) || eU (aD s p1))=false:=by rw [hsf,hlf];rfl
   rw [hsf] at CL;rw [hlf] at CU;by_cases h39:aD s p1=39
   ·have hg39:=(eQ s p1 hlt 39 (by omega)).2 h39;have htq:=aUr hlet' h39;obtain ⟨K,Q,T,hKQ,hCX⟩ : ∃(K:Int) (Q:Nat) (T:ByteArray),(∀w',w.grownBy w' (some pb)->(∃j m c,bH B w' pb s Q g j m c k a wd vC vP vM)->qD B pb s p f g k a wd vC vP vM w (.returned (fU K p1 T)) w')/\Calls zt 77 #[.pointer (some ⟨pb,0,none⟩)] w2 λe w'=>e=.returned (.agg #[.int .i32 K,.int .i64 p1,.string T])/\w2.grownBy w' (some pb)/\∃j m c,bH B w' pb s Q g j m c k a wd vC vP vM:=by
     cases hq:nO s p1 with
     | none=>
      rw [hq] at htq;refine ⟨-2,p1,⟨#[]⟩,λw' hg hS=>⟨hg,by rw [HTK.out,htq];exact ⟨rfl,hS⟩⟩,(aGt HS2.out hs hg39).mono ?_⟩;rintro e w' ⟨hg,hr⟩;rw [hq] at hr;exact ⟨hr.1,hg,_,_,_,hr.2⟩
     | some r=>
      obtain ⟨n,q⟩:=r;rw [hq] at htq;refine ⟨97,q,n,λw' hg hS=>⟨hg,by rw [HTK.out,htq];exact ⟨rfl,hS⟩⟩,(aGt HS2.out hs hg39).mono ?_⟩;rintro e w' ⟨hg,hr⟩;rw [hq] at hr;exact ⟨hr.1,hg,hr.2⟩
    have HFIN:=aA hKQ;have CX:=aA hCX;rw [hg39] at b0 CL CU;clear hKQ hCX hsm hlg htq hg39;go_wp2_with (first
     | (go_at_call 74;refine (aB CL _).mono ?_;rintro e wq ⟨rfl,rfl⟩)
     | (go_at_call 76;refine (aB CU _).mono ?_;rintro e wq ⟨rfl,rfl⟩)
     | (go_at_call 77;refine (aB CX).mono ?_;rintro e w3 ⟨rfl,hg3,j3,m3,c3,hS3⟩;have hx3:=(hg3.block rb (by omega) (by simp;omega)).trans HX2.out;have HS3:=aA hS3;have HG3:=aA hg3;have HX3:=aA hx3;have t0:w3.cell? ⟨rb,0,none⟩=some (.int .i32 0):=(by simp [zz,hx3]);have t1:w3.cell? ⟨rb,1,none⟩=some (.int .i64 0):=(by simp [zz,hx3]);have t2:w3.cell? ⟨rb,2,none⟩=some (.string ⟨#[]⟩):=(by simp [zz,hx3]);have tt0:=λv=>iJ (v:=v) t0;have t3:∀i,w3.frozen? ⟨rb,i,none⟩=false:=(λi=>by simp [zx,hx3]);clear hg3 hS3 hx3)
     | go_in)
    refine bodyPost_ret (by simp [results,zv,go_sem,tt0,t1,t2];try rfl) rfl ?_;exact HFIN.out _ (gZ (gZ (gZ (HG2.out.trans HG3.out) hrw _) hrw _) hrw _) ⟨_,_,_,HS3.out.setTok3 HX3.out _ _ _⟩
   ·have hn39:aP s p1≠39:=λe=>h39 ((eQ s p1 hlt 39 (by omega)).1 e)
    by_cases h36:aD s p1=36
    ·have hg36:=(eQ s p1 hlt 36 (by omega)).2 h36;have htq:=aUs hlet' h39 h36;obtain ⟨K,Q,hKQ,hCX⟩ : ∃(K:Int) (Q:Nat),(∀w',w.grownBy w' (some pb)->(∃j m c,bH B w' pb s Q g j m c k a wd vC vP vM)->qD B pb s p f g k a wd vC vP vM w (.returned (fU K p1 ⟨#[]⟩)) w')/\Calls zt 78 #[.pointer (some ⟨pb,0,none⟩)] w2 λe w'=>e=.returned (.agg #[.int .i32 K,.int .i64 p1,.string ⟨#[]⟩])/\w2.grownBy w' (some pb)/\∃j m c,bH B w' pb s Q g j m c k a wd vC vP vM:=by
      by_cases hF:tN s p1
      ·rw [if_pos (show p1+6<=s.size/\s.extract p1 (p1+6)=⟨#[36,102,97,108,115,101]⟩ from hF)] at htq;refine ⟨36,p1+6,λw' hg hS=>⟨hg,by rw [HTK.out,htq];exact ⟨rfl,hS⟩⟩,(aFf HS2.out).mono ?_⟩;rintro e w' ⟨hg,hr | hr⟩
       ·exact ⟨hr.2.1,hg,hr.2.2⟩
       ·exact absurd hF hr.1
      ·rw [if_neg (show ¬(p1+6<=s.size/\s.extract p1 (p1+6)=⟨#[36,102,97,108,115,101]⟩) from hF)] at htq;refine ⟨-2,p1,λw' hg hS=>⟨hg,by rw [HTK.out,htq];exact ⟨rfl,hS⟩⟩,(aFf HS2.out).mono ?_⟩;rintro e w' ⟨hg,hr | hr⟩
       ·exact absurd hr.1 hF
       ·exact ⟨hr.2.1,hg,_,_,_,hr.2.2⟩
     have HFIN:=aA hKQ;have CX:=aA hCX;rw [hg36] at b0 CL CU;clear hKQ hCX hsm hlg htq hg36 hn39;go_wp2_with (first
      | (go_at_call 74;refine (aB CL _).mono ?_;rintro e wq ⟨rfl,rfl⟩)
      | (go_at_call 76;refine (aB CU _).mono ?_;rintro e wq ⟨rfl,rfl⟩)
      | (go_at_call 78;refine (aB CX).mono ?_;rintro e w3 ⟨rfl,hg3,j3,m3,c3,hS3⟩;have hx3:=(hg3.block rb (by omega) (by simp;omega)).trans HX2.out;have HS3:=aA hS3;have HG3:=aA hg3;have HX3:=aA hx3;have t0:w3.cell? ⟨rb,0,none⟩=some (.int .i32 0):=(by simp [zz,hx3]);have t1:w3.cell? ⟨rb,1,none⟩=some (.int .i64 0):=(by simp [zz,hx3]);have t2:w3.cell? ⟨rb,2,none⟩=some (.string ⟨#[]⟩):=(by simp [zz,hx3]);have tt0:=λv=>iJ (v:=v) t0;have t3:∀i,w3.frozen? ⟨rb,i,none⟩=false:=(λi=>by simp [zx,hx3]);clear hg3 hS3 hx3)
      | go_in)
     refine bodyPost_ret (by simp [results,zv,go_sem,tt0,t1,t2];try rfl) rfl ?_;exact HFIN.out _ (gZ (gZ (gZ (HG2.out.trans HG3.out) hrw _) hrw _) hrw _) ⟨_,_,_,HS3.out.setTok3 HX3.out _ _ _⟩
    ·have hn36:aP s p1≠36:=λe=>h36 ((eQ s p1 hlt 36 (by omega)).1 e)
     have htm:=aUt hlet' h39 h36;have hmk:=aNc s p1 hlt;have CM:=aA (aGb (aP s p1) w2 (aBl s p1));rw [hmk] at CM;have hn1:=yZ s p1 hlt;cases hm:pK (aD s p1)
     ·rw [hm] at CM htm;have HFIN:Hid (∀w',w.grownBy w' (some pb)->(∃j m c,bH B w' pb s p1 g j m c k a wd vC vP vM)->qD B pb s p f g k a wd vC vP vM w (.returned (fU (-2) p1 ⟨#[]⟩)) w'):=aA λw' hg hS=>⟨hg,by rw [HTK.out,htm];exact ⟨rfl,hS⟩⟩
      clear hsm hlg htm hmk hm;generalize aP s p1=cc at *;have q39:(cc == 39)=false:=by simpa using hn39
      have q36:(cc == 36)=false:=by simpa using hn36
      have qe:(cc == -1)=false:=by simpa using hn1
      go_wp2_with (first
       | (go_at_call 74;refine (aB CL _).mono ?_;rintro e wq ⟨rfl,rfl⟩)
       | (go_at_call 76;refine (aB CU _).mono ?_;rintro e wq ⟨rfl,rfl⟩)
       | (go_at_call 79;refine (aB CM).mono ?_;rintro e w4 ⟨rfl,hb4⟩;have HB4:=aA hb4;have hx4:=(hb4.block rb (by omega)).trans HX2.out;have HX4:=aA hx4;have hf4:=(hb4.block fb hfz).trans HFB.out;have q0:w4.cell? ⟨fb,0,none⟩=some (.int .i32 (cc)):=(by unfold zz;rw [hf4];rfl);have q1:w4.cell? ⟨fb,1,none⟩=some (.int .i64 p1):=(by unfold zz;rw [hf4];rfl);have hS4:=HS2.out.below hb4;have g0:=hS4.box.c0;have gf:=hS4.box.soft 0;have HS4:=aA hS4;clear hb4 hx4 hf4 hS4)
       | (go_at_call 80;refine (uW HS4.out).mono ?_;rintro e w3 ⟨rfl,hb3⟩;unfold fU;have hsz:=HB4.out.size;have hx3:=(hb3.block rb (by omega)).trans HX4.out;have HS3:=aA (HS4.out.below hb3);have HG3:=aA ((mA HB4.out (some pb)).trans (mA hb3 (some pb)));have HX3:=aA hx3;have t0:w3.cell? ⟨rb,0,none⟩=some (.int .i32 0):=(by simp [zz,hx3]);have t1:w3.cell? ⟨rb,1,none⟩=some (.int .i64 0):=(by simp [zz,hx3]);have t2:w3.cell? ⟨rb,2,none⟩=some (.string ⟨#[]⟩):=(by simp [zz,hx3]);have tt0:=λv=>iJ (v:=v) t0;have t3:∀i,w3.frozen? ⟨rb,i,none⟩=false:=(λi=>by simp [zx,hx3]);clear hb3 hx3)
       | go_in)
      refine bodyPost_ret (by simp [results,zv,go_sem,tt0,t1,t2];try rfl) rfl ?_;exact HFIN.out _ (gZ (gZ (gZ (HG2.out.trans HG3.out) hrw _) hrw _) hrw _) ⟨_,_,_,HS3.out.setTok3 HX3.out _ _ _⟩
     ·rw [hm] at CM htm;have hlow:aD s p1<128:=by unfold pK at hm;simp at hm;omega
      obtain ⟨hgl,hw1⟩:=lF s p1 hlt hlow;have hkp:dO (aD s p1)=aP s p1:=by
       rw [hgl];have hor:aD s p1=124\/aD s p1=126\/aD s p1=40\/aD s p1=41\/aD s p1=44\/aD s p1=46:=by unfold pK at hm;simp at hm;omega
       generalize aD s p1=bb at hor ⊢;rcases hor with rfl | rfl | rfl | rfl | rfl | rfl <;> rfl
      have HFIN:Hid (∀w',w.grownBy w' (some pb)->(∃j m c,bH B w' pb s (p1+1) g j m c k a wd vC vP vM)->qD B pb s p f g k a wd vC vP vM w (.returned (fU (aP s p1) p1 ⟨#[]⟩)) w'):=aA λw' hg hS=>⟨hg,by rw [HTK.out,htm];exact ⟨by rw [<-hkp],hS⟩⟩
      obtain ⟨m',c',rfl,rfl⟩:=HS2.out.more hlt;clear hsm hlg htm hmk hm hgl hkp;generalize aP s p1=cc at *;have q39:(cc == 39)=false:=by simpa using hn39
      have q36:(cc == 36)=false:=by simpa using hn36
      go_wp2_with (first
       | (go_at_call 74;refine (aB CL _).mono ?_;rintro e wq ⟨rfl,rfl⟩)
       | (go_at_call 76;refine (aB CU _).mono ?_;rintro e wq ⟨rfl,rfl⟩)
       | (go_at_call 79;refine (aB CM).mono ?_;rintro e w4 ⟨rfl,hb4⟩;have HB4:=aA hb4;have hx4:=(hb4.block rb (by omega)).trans HX2.out;have hf4:=(hb4.block fb hfz).trans HFB.out;have hS4:=HS2.out.below hb4;have g0:=hS4.box.c0;have gf:=hS4.box.soft 0;have HS5:=aA (hS4.step hlt);have cY:∀u,(w4.setCell ⟨pb,0,none⟩ u).heap[rb]?=some (.cells #[.int .i32 0,.int .i64 0,.string ⟨#[]⟩] 75)/\(w4.setCell ⟨pb,0,none⟩ u).heap[fb]?=some (.cells #[.int .i32 cc,.int .i64 p1] 128):=(λu=>⟨by rw [Below.heap_setCell _ _ _ _ (show rb≠pb by omega)];exact hx4,by rw [Below.heap_setCell _ _ _ _ (show fb≠pb by omega)];exact hf4⟩);have q0:∀u,(w4.setCell ⟨pb,0,none⟩ u).cell? ⟨fb,0,none⟩=some (.int .i32 cc):=(λu=>by unfold zz;rw [(cY u).2];rfl);have q1:∀u,(w4.setCell ⟨pb,0,none⟩ u).cell? ⟨fb,1,none⟩=some (.int .i64 p1):=(λu=>by unfold zz;rw [(cY u).2];rfl);have t0:∀u,(w4.setCell ⟨pb,0,none⟩ u).cell? ⟨rb,0,none⟩=some (.int .i32 0):=(λu=>by unfold zz;rw [(cY u).1];rfl);have t1:∀u,(w4.setCell ⟨pb,0,none⟩ u).cell? ⟨rb,1,none⟩=some (.int .i64 0):=(λu=>by unfold zz;rw [(cY u).1];rfl);have t2:∀u,(w4.setCell ⟨pb,0,none⟩ u).cell? ⟨rb,2,none⟩=some (.string ⟨#[]⟩):=(λu=>by unfold zz;rw [(cY u).1];rfl);have t3:∀u i,(w4.setCell ⟨pb,0,none⟩ u).frozen? ⟨rb,i,none⟩=false:=(λu i=>by simp [zx,(cY u).1]);have tt0:=λu v=>iJ (v:=v) (t0 u);have HCY:=aA cY;clear hb4 hx4 hf4 hS4 cY)
       | go_in)
      refine bodyPost_ret (by simp [results,zv,go_sem,tt0,t1,t2];try rfl) rfl ?_;have hg5:=qY (j:=0) (HG2.out.trans (mA HB4.out (some pb))) (.slice (some ⟨g,j1*2+2,none⟩) (m'+1) (c'+1));have hS5:=HS5.out;rw [hw1] at hS5;exact HFIN.out _ (gZ (gZ (gZ hg5 hrw _) hrw _) hrw _) ⟨_,_,_,hS5.setTok3 (HCY.out _).1 _ _ _⟩
 ·have hpe:p1=s.size:=by omega
  have hge:=nE s p1 hlt;have CM:=aA (aGb (aP s p1) w2 (aBl s p1));rw [hge] at CM CL CU b0;rw [show qI (-1)=false by decide] at CM;rw [show fR (-1)=false by decide] at CL;rw [show eU (-1)=false by decide] at CU;rw [hge] at HFB;have HFIN:Hid (∀w',w.grownBy w' (some pb)->(∃j m c,bH B w' pb s p1 g j m c k a wd vC vP vM)->qD B pb s p f g k a wd vC vP vM w (.returned (fU (-1) p1 ⟨#[]⟩)) w'):=aA λw' hg hS=>⟨hg,by rw [HN1.out,if_neg hlt,<-hpe];exact ⟨rfl,hS⟩⟩
  clear hge hpe;go_wp2_with (first
   | (go_at_call 74;refine (aB CL _).mono ?_;rintro e wq ⟨rfl,rfl⟩)
   | (go_at_call 76;refine (aB CU _).mono ?_;rintro e wq ⟨rfl,rfl⟩)
   | (go_at_call 79;refine (aB CM).mono ?_;rintro e w4 ⟨rfl,hb4⟩;have HB4:=aA hb4;have hx4:=(hb4.block rb (by omega)).trans HX2.out;have hf4:=(hb4.block fb hfz).trans HFB.out;have HX4:=aA hx4;have HS4:=aA (HS2.out.below hb4);have q0:w4.cell? ⟨fb,0,none⟩=some (.int .i32 (-1)):=(by unfold zz;rw [hf4];rfl);have q1:w4.cell? ⟨fb,1,none⟩=some (.int .i64 p1):=(by unfold zz;rw [hf4];rfl);have t0:w4.cell? ⟨rb,0,none⟩=some (.int .i32 0):=(by simp [zz,hx4]);have t1:w4.cell? ⟨rb,1,none⟩=some (.int .i64 0):=(by simp [zz,hx4]);have t2:w4.cell? ⟨rb,2,none⟩=some (.string ⟨#[]⟩):=(by simp [zz,hx4]);have tt0:=λv=>iJ (v:=v) t0;have t3:∀i,w4.frozen? ⟨rb,i,none⟩=false:=(λi=>by simp [zx,hx4]);clear hb4 hx4 hf4)
   | go_in)
  refine bodyPost_ret (by simp [results,zv,go_sem,tt0,t1,t2];try rfl) rfl ?_;exact HFIN.out _ (gZ (gZ (gZ (HG2.out.trans (mA HB4.out (some pb))) hrw _) hrw _) hrw _) ⟨_,_,_,HS4.out.setTok3 HX4.out _ _ _⟩
end
theorem aNd(h:eV s k=.bad p):p=k:=by
 unfold eV at h;repeat' split at h
 all_goals first | (cases h;done) | (simp only [Nx.bad.injEq] at h;exact h.symm)
theorem aNe:eV s k≠.stop p:=by
 intro h;unfold eV at h;repeat' split at h
 all_goals cases h
theorem aFi{e:Nat}{t:Tk}(hp:k<s.size)(h:eV s k=.tok t e):k<e/\e<=s.size:=by
 unfold eV at h;split at h
 ·rename_i hl;split at h
  ·cases h
  ·simp only [Nx.tok.injEq] at h;rw [<-h.2];exact ⟨aUp hp hl,aUm (by omega)⟩
 ·split at h
  ·split at h
   ·rename_i n e' hq;simp only [Nx.tok.injEq] at h;rw [<-h.2];have:=aUo hq;omega
   ·cases h
  ·split at h
   ·split at h
    ·rename_i hc;simp only [Nx.tok.injEq] at h;rw [<-h.2];omega
    ·cases h
   ·split at h
    ·simp only [Nx.tok.injEq] at h;rw [<-h.2];omega
    ·cases h
theorem aNf(s:ByteArray):∀n f g q,s.size+1-q<=n->q<=s.size->s.size<q+f->s.size<q+g->cW s f q=cW s g q:=by
 intro n;induction n with
 | zero=>intro f g q h hq;omega
 | succ n ih=>
  intro f g q h hq hf hg;obtain ⟨f',rfl⟩ : ∃f',f=f'+1:=⟨f-1,by omega⟩;obtain ⟨g',rfl⟩ : ∃g',g=g'+1:=⟨g-1,by omega⟩;rw [cW,cW];by_cases hp:q<s.size
  ·rw [if_pos hp,if_pos hp];by_cases hgp:nP (aD s q)=true
   ·rw [if_pos hgp,if_pos hgp];exact ih _ _ _ (by omega) (by omega) (by omega) (by omega)
   ·rw [if_neg hgp,if_neg hgp];by_cases h37:aD s q=37
    ·rw [if_pos h37,if_pos h37];have h1:=zU hp h37;have h2:=aCu (s:=s) (p:=q) hq;exact ih _ _ _ (by omega) h2 (by omega) (by omega)
    ·rw [if_neg h37,if_neg h37];cases ht:eV s q with
     | tok t e=>
      obtain ⟨h1,h2⟩:=aFi hp ht;simp only;rw [ih f' g' e (by omega) h2 (by omega) (by omega)]
     | bad p=>rfl
     | stop p=>rfl
  ·rw [if_neg hp,if_neg hp]
def eB(s:ByteArray)(q:Nat):List Tk:=eW (cW s (s.size+1-q) q)
theorem yR{q f:Nat}(hq:q<=s.size)(hf:s.size<q+f):eW (cW s f q)=eB s q:=by unfold eB;rw [aNf s _ f (s.size+1-q) q (zy _) hq hf (by omega)]
theorem aNg(s:ByteArray):∀n f q,s.size+1-q<=n->q<=s.size->s.size<q+f->
  match qX s f q with
  | .tok t e=>eB s q=t :: eB s e/\e<=s.size/\t.kind≠101/\t.kind≠63
  | .bad p=>eB s q=[⟨63,⟨#[]⟩,p⟩]/\p<=s.size
  | .stop p=>eB s q=[⟨101,⟨#[]⟩,p⟩]/\p<=s.size:=by
 intro n;induction n with
 | zero=>intro f q h hq;omega
 | succ n ih=>
  intro f q h hq hf;obtain ⟨f',rfl⟩ : ∃f',f=f'+1:=⟨f-1,by omega⟩;rw [qX,<-yR hq hf,cW];by_cases hp:q<s.size
  ·rw [if_pos hp,if_pos hp];by_cases hgp:nP (aD s q)=true
   ·rw [if_pos hgp,if_pos hgp,yR (q:=q+1) (by omega) (by omega)];exact ih _ _ (by omega) (by omega) (by omega)
   ·rw [if_neg hgp,if_neg hgp];by_cases h37:aD s q=37
    ·rw [if_pos h37,if_pos h37];have h1:=zU hp h37;have h2:=aCu (s:=s) (p:=q) hq;rw [yR h2 (by omega)];exact ih _ _ (by omega) h2 (by omega)
    ·rw [if_neg h37,if_neg h37];cases ht:eV s q with
     | tok t e=>
      obtain ⟨h1,h2⟩:=aFi hp ht;simp only;refine ⟨?_,h2,aIa ht⟩;rw [<-yR h2 (show s.size<e+f' by omega)];rfl
     | bad p=>
      have hpq:p=q:=aNd ht;subst hpq;exact ⟨rfl,hq⟩
     | stop p=>exact absurd ht aNe
  ·rw [if_neg hp,if_neg hp];exact ⟨rfl,hq⟩
def gP:List Nat:=[110,118,102,101,63,124,126,40,41,44,46]
theorem aBe:∀a∈gP,∀b∈gP,dO a=dO b->a=b:=by decide
theorem aNh{e:Nat}{t:Tk}(h:eV s k=.tok t e):t.kind∈gP:=by
 unfold eV at h;split at h
 ·split at h
  ·cases h
  ·simp only [Nx.tok.injEq] at h;rw [<-h.1];simp only;split <;> decide
 ·split at h
  ·split at h
   ·simp only [Nx.tok.injEq] at h;rw [<-h.1];show (110:Nat)∈gP;decide
   ·cases h
  ·split at h
   ·split at h
    ·simp only [Nx.tok.injEq] at h;rw [<-h.1];show (102:Nat)∈gP;decide
    ·cases h
   ·split at h
    ·rename_i hm;simp only [Nx.tok.injEq] at h;rw [<-h.1];simp only;generalize aD s k=b at hm ⊢;have hor:b=124\/b=126\/b=40\/b=41\/b=44\/b=46:=by unfold pK at hm;simp at hm;omega
     rcases hor with rfl | rfl | rfl | rfl | rfl | rfl <;> decide
    ·cases h
theorem aNi(s:ByteArray):∀f k,∀t∈(cW s f k).1,t.kind∈gP:=by
 intro f;induction f with
 | zero=>intro k;simp [cW]
 | succ f ih=>
  intro k;rw [cW];split
  ·split
   ·exact ih _
   ·split
    ·exact ih _
    ·split
     ·rename_i t e ht;intro u hu;rcases List.mem_cons.1 hu with rfl | hu
      ·exact aNh ht
      ·exact ih _ u hu
     ·simp
  ·intro t ht;simp at ht;rw [ht];show (101:Nat)∈gP;decide
theorem aNj{r:List Tk×Option Nat}(h:∀t∈r.1,t.kind∈gP):∀t∈eW r,t.kind∈gP:=by
 obtain ⟨L,b⟩:=r;intro t ht;unfold eW at ht;rcases List.mem_append.1 ht with ht | ht
 ·exact h t ht
 ·cases b with
  | none=>simp at ht
  | some p=>
   simp at ht;rw [ht];show (63:Nat)∈gP;decide
theorem aNk(s:ByteArray)(q i:Nat):(aE (eB s q) i).kind∈gP:=by
 unfold aE;by_cases h:i<(eB s q).length
 ·rw [zu,zs h,Option.getD_some];exact aNj (aNi s _ _) _ (List.getElem_mem _)
 ·rw [zu,List.getElem?_eq_none (by omega)];decide
theorem aNl{r:List Tk}{t:Tk}(h:T.drop i=t :: r):i<T.length/\aE T i=t/\T.drop (i+1)=r:=by
 have hl:i<T.length:=Classical.byContradiction λhn=>by rw [List.drop_of_length_le (by omega)] at h;cases h
 rw [List.drop_eq_getElem_cons hl] at h;simp only [List.cons.injEq] at h;exact ⟨hl,by unfold aE;rw [zu,zs hl];exact h.1,h.2⟩
section
variable {w:World}{pb:Nat}{left:Value}{k a:Int}{wd:ByteArray}{vC vP vM:Value}
theorem bL.setTok(h:bL w pb left k a wd vC vP vM)(k' a':Int)(wd':ByteArray):bL (((w.setCell ⟨pb,1,none⟩ (.int .i32 k')).setCell ⟨pb,2,none⟩ (.int .i64 a')).setCell ⟨pb,3,none⟩ (.string wd')) pb left k' a' wd' vC vP vM:=by have h1:bL (w.setCell ⟨pb,1,none⟩ (.int .i32 k')) pb left k' a wd vC vP vM:=heap_setCell_same w pb 1 _ _ _ h;have h2:bL ((w.setCell ⟨pb,1,none⟩ (.int .i32 k')).setCell ⟨pb,2,none⟩ (.int .i64 a')) pb left k' a' wd vC vP vM:=heap_setCell_same _ pb 2 _ _ _ h1;exact heap_setCell_same _ pb 3 _ _ _ h2
theorem bL.rows(h:bL w pb left k a wd vC vP vM)(k' a':Int)(wd':ByteArray){B:Nat}{e:TypeId}{size:Nat}{v:Value}{n:Nat}{xs:List Value}(ho:w.ownsRow B e size v n xs)(he:e≠82):(((w.setCell ⟨pb,1,none⟩ (.int .i32 k')).setCell ⟨pb,2,none⟩ (.int .i64 a')).setCell ⟨pb,3,none⟩ (.string wd')).ownsRow B e size v n xs:=by have h1:bL (w.setCell ⟨pb,1,none⟩ (.int .i32 k')) pb left k' a wd vC vP vM:=heap_setCell_same w pb 1 _ _ _ h;have h2:bL ((w.setCell ⟨pb,1,none⟩ (.int .i32 k')).setCell ⟨pb,2,none⟩ (.int .i64 a')) pb left k' a' wd vC vP vM:=heap_setCell_same _ pb 2 _ _ _ h1;exact h2.row (h1.row (h.row ho he 1 _) he 2 _) he 3 _
end
structure PP(B:Nat)(w:World)(pb:Nat)(s:ByteArray)(T:List Tk)(i g q j m c:Nat)(vC vP vM:Value):Prop where
 sc:bH B w pb s q g j m c (dO (aE T i).kind) (aE T i).pos (aE T i).txt vC vP vM
 lt:i<T.length
 on:(aE T i).kind≠101->(aE T i).kind≠63->eB s q=T.drop (i+1)
def dK(B:Nat)(w:World)(pb:Nat)(s:ByteArray)(T:List Tk)(i g:Nat)(vC vP vM:Value):Prop:=∃q j m c,PP B w pb s T i g q j m c vC vP vM
theorem aFj{B:Nat}{w1:World}{pb:Nat}{g q:Nat}{k a:Int}{wd:ByteArray}{vC vP vM:Value}{e:Ending}{f:Nat}(hq:q<=s.size)(hf:s.size<q+f)(hT:eB s q=T.drop i)(hr:qD B pb s q f g k a wd vC vP vM w e w1) :
  e=.returned (.agg #[.int .i32 (dO (aE T i).kind),.int .i64 (aE T i).pos,.string (aE T i).txt])/\w.grownBy w1 (some pb)/\(∃left,bL w1 pb left k a wd vC vP vM)/\
  dK B (((w1.setCell ⟨pb,1,none⟩ (.int .i32 (dO (aE T i).kind))).setCell ⟨pb,2,none⟩ (.int .i64 (aE T i).pos)).setCell ⟨pb,3,none⟩ (.string (aE T i).txt)) pb s T i g vC vP vM:=by
 obtain ⟨hg,hr⟩:=hr;have hn:=aNg s _ f q (zy _) hq hf;have fin:∀(t:Tk) (q':Nat) (r:List Tk),T.drop i=t :: r->(t.kind≠101->t.kind≠63->eB s q'=r)->e=.returned (fU (dO t.kind) t.pos t.txt)->(∃j m c,bH B w1 pb s q' g j m c k a wd vC vP vM)->e=.returned (.agg #[.int .i32 (dO (aE T i).kind),.int .i64 (aE T i).pos,.string (aE T i).txt])/\w.grownBy w1 (some pb)/\(∃left,bL w1 pb left k a wd vC vP vM)/\dK B (((w1.setCell ⟨pb,1,none⟩ (.int .i32 (dO (aE T i).kind))).setCell ⟨pb,2,none⟩ (.int .i64 (aE T i).pos)).setCell ⟨pb,3,none⟩ (.string (aE T i).txt)) pb s T i g vC vP vM:=by
  intro t q' r hd hon he hS;obtain ⟨hl,htk,hdr⟩:=aNl hd;obtain ⟨j,m,c,hS⟩:=hS;rw [htk];refine ⟨he,hg,⟨_,hS.box⟩,q',j,m,c,⟨?_,hl,?_⟩⟩
  ·rw [htk];exact ⟨hS.box.setTok _ _ _,hS.high,hS.box.rows _ _ _ hS.row (by decide),hS.len,hS.drop,hS.le⟩
  ·rw [htk,hdr];exact hon
 cases hx:qX s f q with
 | tok t e'=>
  rw [hx] at hr hn;obtain ⟨n1,_,_,_⟩:=hn;exact fin t e' _ (by rw [<-hT,n1]) (λ_ _=>rfl) hr.1 hr.2
 | bad p=>
  rw [hx] at hr hn;exact fin ⟨63,⟨#[]⟩,p⟩ p [] (by rw [<-hT,hn.1]) (λ_ h=>absurd rfl h) hr.1 hr.2
 | stop p=>
  rw [hx] at hr hn;exact fin ⟨101,⟨#[]⟩,p⟩ p [] (by rw [<-hT,hn.1]) (λh _=>absurd rfl h) hr.1 hr.2
theorem lE{B:Nat}{pb:Nat}{g:Nat}{vC vP vM:Value}(kd:Nat)(hkd:kd∈gP)(h101:kd≠101)(h63:kd≠63)(hT:∀i,(aE T i).kind∈gP)(hs:s.size<=3000)(h:dK B w pb s T i g vC vP vM) :
  Calls zt 81 #[.pointer (some ⟨pb,0,none⟩),.int .i32 (dO kd)] w λe w'=>e=.returned (.bool (decide ((aE T i).kind=kd)))/\w.grownBy w' (some pb)/\dK B w' pb s T (if (aE T i).kind=kd then i+1 else i) g vC vP vM:=by
 obtain ⟨q,j,m,c,hP⟩:=h;have d1:=hP.sc.box.c1;by_cases hk:(aE T i).kind=kd
 ·rw [if_pos hk,decide_eq_true hk];have CN:=aA ((aFh (s.size+1) hP.sc hs (by omega)).mono λe w1 hr=>aFj hP.sc.le (by omega) (hP.on (by rw [hk];exact h101) (by rw [hk];exact h63)) hr);rw [hk] at d1 CN;clear hk hP;generalize dO kd=K at *;generalize aE T (i+1)=t at CN;obtain ⟨tk,tx,tp⟩:=t;simp only at CN;go_enter Tryz.func81,Tryz.ntmps81;go_wp2_with (first
   | (go_at_call 49;refine (aB CN).mono ?_;rintro e w1 ⟨rfl,hg1,⟨left,hb1⟩,hP1⟩;have e1:=hb1.c1;have e2:=hb1.c2;have e3:=hb1.c3;have ef:=hb1.soft;have HG1:=aA hg1;have HP1:=aA hP1;clear hg1 hP1 hb1)
   | go_in)
  go_ret;exact ⟨rfl,qY (qY (qY HG1.out _) _) _,HP1.out⟩
 ·rw [if_neg hk,decide_eq_false hk];have hne:(dO (aE T i).kind != dO kd)=true:=by simp;exact λe=>hk (aBe _ (hT i) _ hkd e)
  have HP:=aA hP;clear hP;go_enter Tryz.func81,Tryz.ntmps81;go_wp2;go_ret;exact ⟨rfl,World.grownBy.refl _ _,q,j,m,c,HP.out⟩
end Go.Proofs.YtcldkjcpofjmhaaGreatDoor
