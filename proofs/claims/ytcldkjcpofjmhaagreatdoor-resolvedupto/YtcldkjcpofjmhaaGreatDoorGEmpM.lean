import Derived.Test.YtcldkjcpofjmhaaGreatDoorGWordM
import Derived.Test.YtcldkjcpofjmhaaGreatDoorOOrderM
import Derived.Test.YtcldkjcpofjmhaaGreatDoorXCutM
import Derived.Shelf.RegionOpen
import Derived.OwnWalkIn
import Derived.TacticsInMore
import Derived.LoopNIn
import Derived.LoopIn
open Bool renaming and_eq_false_iff→zw
open List renaming getElem?_eq_getElem→zt,prefix_append→zr,prefix_refl→zq,getElem_mem→zp
open Nat renaming le_refl→zy
namespace Go.Proofs.YtcldkjcpofjmhaaGreatDoor
open _root_.Go.Proofs.Tryz renaming results49→zv,prog→zu
open World renaming cell?→zz,frozen?→zx
set_option maxHeartbeats 4000000
set_option maxRecDepth 100000
section
open Go.RowKit
abbrev fB:ByteArray:=⟨#[36,102,97,108,115,101]⟩
def sU(s:ByteArray)(p:Nat):Prop:=p+6<=s.size/\s.extract p (p+6)=fB
theorem yD:∀i,i<6->aC fB i<128:=by
 have:∀i:Fin 6,aC fB i.1<128:=by decide
 exact λi hi=>this ⟨i,hi⟩
theorem aEn{s:ByteArray}{p:Nat}:sU s p↔p+6<=s.size/\∀i,i<6->aC s (p+i)=aC fB i:=by
 unfold sU;constructor
 ·rintro ⟨h1,h2⟩;refine ⟨h1,λi hi=>?_⟩;have:aC (s.extract p (p+6)) i=aC fB i:=by rw [h2]
  rw [<-this,gE (s.extract p (p+6)) i (by rw [ByteArray.size_extract];omega),gE s (p+i) (by omega),ByteArray.getElem_extract]
 ·rintro ⟨h1,h2⟩;refine ⟨h1,?_⟩;apply ByteArray.ext;apply Array.ext
  ·have:(s.extract p (p+6)).size=6:=by rw [ByteArray.size_extract];omega
   exact this
  ·intro i hi1 hi2;have hi6:i<6:=hi2;have e:=h2 i hi6;rw [gE s (p+i) (by omega),gE fB i hi6] at e;have e1:(s.extract p (p+6))[i]'hi1=s[p+i]'(by omega):=ByteArray.getElem_extract ..;have e2:=UInt8.toNat_inj.1 e;exact e1.trans e2
def aM7(B pb:Nat)(s:ByteArray)(p g j m c:Nat)(k a:Int)(wd:ByteArray)(vC vP vM:Value)(w:World)(e:Ending)(w':World):Prop:=
 w.grownBy w' (some pb)/\((sU s p/\e=.returned (fL 36 p ⟨#[]⟩)/\∃j' m' c',bG B w' pb s (p+6) g j' m' c' k a wd vC vP vM)\/(¬sU s p/\e=.returned (fL (-2) p ⟨#[]⟩)/\bG B w' pb s p g j m c k a wd vC vP vM))
section
variable {B:Nat}{pb:Nat}{s:ByteArray}{p g j m c:Nat}{k a:Int}{wd:ByteArray}{vC vP vM:Value}
theorem aEo{w:World}(h:bG B w pb s p g j m c k a wd vC vP vM) :
  Calls zu 78 #[.pointer (some ⟨pb,0,none⟩)] w λe w'=>aM7 B pb s p g j m c k a wd vC vP vM w e w':=by
 have d0:=h.box.c0;have d1:=h.at0.2;have e0:∀o,(w.alloc o).cell? ⟨pb,0,none⟩=some (.slice (some ⟨g,j*2,none⟩) (m+1) (c+1)):=λo=>Below.at' ((Below.refl _ w).alloc (zy _) o) (zy _) d0
 have e1:∀o,(w.alloc o).cell? ⟨g,j*2+1,none⟩=some (.int .i64 p):=λo=>Below.at' ((Below.refl _ w).alloc (zy _) o) (zy _) d1
 have HB0:Hid (∀o o2,Below w.heap.size w ((w.alloc o).alloc o2)):=aA λo o2=>((Below.refl _ _).alloc (zy _) o).alloc (by simp) o2
 have HX0:Hid (∀o o2,((w.alloc o).alloc o2).heap[w.heap.size]?=some o/\((w.alloc o).alloc o2).heap[w.heap.size+1]?=some o2/\((w.alloc o).alloc o2).heap.size=w.heap.size+2):=aA λo o2=>⟨by show ((w.heap.push _).push _)[w.heap.size]?=_;simp [Array.getElem?_push],by
  show ((w.heap.push o).push o2)[w.heap.size+1]?=_;have h:((w.heap.push o).push o2)[(w.heap.push o).size]?=some o2:=by rw [Array.getElem?_push];exact if_pos rfl
  rwa [Array.size_push] at h,by simp⟩
 have HS:=aA h;have hpb:=h.box.lt;clear h d0 d1;go_enter Tryz.func78,Tryz.ntmps78;go_wp2;have hb1:=HB0.out (.cells #[.int .i32 0,.int .i64 0,.string ⟨#[]⟩] 75) (.cells #[.int .i32 36,.int .i64 p,.string ⟨#[]⟩] 75);have HS1:=aA (HS.out.below hb1);obtain ⟨hx1,hy1,hz1⟩:=HX0.out (.cells #[.int .i32 0,.int .i64 0,.string ⟨#[]⟩] 75) (.cells #[.int .i32 36,.int .i64 p,.string ⟨#[]⟩] 75);have HB1:=aA hb1;have HX1:=aA hx1;have HY1:=aA hy1;clear hb1 hx1 hy1 HB0 HX0 e0 e1;generalize (w.alloc (.cells #[.int .i32 0,.int .i64 0,.string ⟨#[]⟩] 75)).alloc (.cells #[.int .i32 36,.int .i64 p,.string ⟨#[]⟩] 75)=w2 at *;obtain ⟨rb,hrbe⟩ : ∃rb,w.heap.size=rb:=⟨_,rfl⟩;rw [hrbe] at hz1 HX1 HY1 hpb;simp only [hrbe];have HRB:=aA hrbe;clear hrbe;go_loopg [] 6 (λq wr=>∃i:Nat,q+i=6/\wr.heap[rb+2]?=some (.stringIter fB i)/\Below w2.heap.size w2 wr/\p+i<=s.size/\∀x,x<i->aC s (p+x)=aC fB x);case atStart=>
  refine ⟨0,rfl,?_,(Below.refl _ w2).alloc (zy _) _,HS.out.le,λx hx=>by omega⟩;have:=World.iter_heap w2 fB 0;rw [hz1] at this;simpa using this
 case round=>
  obtain ⟨i,hqi,hit,hfar,hpi,hall⟩:=hrel;have HIT:=aA hit;have HALL:=aA hall;have HW2:=aA hfar;have hlow:∀x,x<i->aC s (p+x)<128:=λx hx=>by rw [hall x hx];exact yD x (by omega)
  obtain ⟨hd,him⟩:=HS1.out.letters i hpi hlow;have HD:=aA hd;by_cases hi6:i<6
  ·have hp:i<fB.size:=hi6;have hc:(fB[i]'hp).toNat<128:=by have:=yD i hi6;rw [gE fB i hp] at this;exact this
   have hnx:∀ty,(Instr.next (.pointer (some ⟨rb+2,0,none⟩)) true ty).run zu wr=_:=λty=>Lib.run_next_ascii_at wr (rb+2) fB i ty hit hp hc
   have HI2:=aA (Lib.iterAt_heap wr (rb+2) fB i (i+1) hit);have hfar2:=Lib.below_iterAt hfar (k:=rb+2) (by omega) fB (i+1);have hSi:=HS1.out.below hfar2;have a0:=(hSi.cells i (p+i) hd hpi him).1;have d0:=hSi.box.c0;have HSI:=aA hSi;have HF2:=aA hfar2;have HXI:Hid ((wr.iterAt (rb+2) fB (i+1)).heap[rb]?=some (.cells #[.int .i32 0,.int .i64 0,.string ⟨#[]⟩] 75)):=aA ((hfar2.block rb (by omega)).trans HX1.out);have hbi:(fB[i]'hp).toNat=aC fB i:=(gE fB i hp).symm;have himi:(i:Int)<(m:Int)+1:=by omega
   have hi0:(0:Int)<=(i:Int):=by omega
   by_cases heq:aO s (p+i)=(aC fB i:Int)
   ·have hlt:p+i<s.size:=Classical.byContradiction λhn=>by rw [mQ s _ hn] at heq;omega
    have hbe:=(eJ s (p+i) hlt (aC fB i) (yD i hi6)).1 heq;rw [heq,<-hbi] at a0;clear hit hall hfar hd hSi hfar2;go_wp2;go_roundg (6-(i+1));case measure=>omega
    case rel=>exact ⟨i+1,by omega,HI2.out,HF2.out,by omega,λx hx=>by
     by_cases e:x=i
     ·subst e;exact hbe
     ·exact HALL.out x (by omega)⟩
   ·have HNF:Hid (¬sU s p):=aA λhF=>by
     obtain ⟨h1,h2⟩:=aEn.1 hF;exact heq ((eJ s (p+i) (by omega) (aC fB i) (yD i hi6)).2 (h2 i hi6))
    have CB:=aA (uH HSI.out);unfold fL at CB;rw [hbi] at hnx;generalize aO s (p+i)=cc at *;have hne:(cc != (aC fB i:Int))=true:=by simpa using heq
    clear hit hall hfar hd hSi hfar2 hbi;go_wp2_with (first
     | (go_at_call 80;refine (aB CB).mono ?_;rintro e w3 ⟨rfl,hb3⟩;have hx3:=(hb3.block rb (by have:=HW2.out.size;simp only [Lib.iterAt_size];omega)).trans HXI.out;have HB3:=aA hb3;have t0:w3.cell? ⟨rb,0,none⟩=some (.int .i32 0):=(by simp [zz,hx3]);have t1:w3.cell? ⟨rb,1,none⟩=some (.int .i64 0):=(by simp [zz,hx3]);have t2:w3.cell? ⟨rb,2,none⟩=some (.string ⟨#[]⟩):=(by simp [zz,hx3]);have tt0:=iF (v:=.int .i32 (-2)) t0;have t3:∀i,w3.frozen? ⟨rb,i,none⟩=false:=(λi=>by simp [zx,hx3]);clear hb3 hx3)
     | go_in)
    refine bodyPost_ret (by simp [results,Tryz.results78,go_sem,tt0,t1,t2];try rfl) rfl ?_;have hbw:Below w.heap.size w (wr.iterAt (rb+2) fB (i+1)):=HB1.out.trans (HF2.out.mono HB1.out.size);have hfin:Below w.heap.size w w3:=hbw.trans (HB3.out.mono hbw.size);have hrw:w.heap.size<=rb:=by rw [HRB.out];exact zy _
    have hf2:=eV (eV (eV hfin (p:=⟨rb,0,none⟩) hrw (.int .i32 (-2))) (p:=⟨rb,1,none⟩) hrw (.int .i64 p)) (p:=⟨rb,2,none⟩) hrw (.string ⟨#[]⟩);exact ⟨lO hf2 _,Or.inr ⟨HNF.out,rfl,HS.out.below hf2⟩⟩
  ·obtain rfl:i=6:=by omega
   have hp:¬6<fB.size:=by decide
   have hnx:∀ty,(Instr.next (.pointer (some ⟨rb+2,0,none⟩)) true ty).run zu wr=_:=λty=>Lib.run_next_end_at wr (rb+2) fB 6 ty hit hp
   have HYF:Hid (sU s p):=aA (aEn.2 ⟨hpi,hall⟩);have hSi:=HS1.out.below hfar;have d0:=hSi.box.c0;have f0:=hSi.box.soft 0;have hX9:=(hfar.block rb (by omega)).trans HX1.out;have hT9:=(hfar.block (rb+1) (by omega)).trans HY1.out;obtain ⟨m',rfl⟩ : ∃m',m=m'+6:=⟨m-6,by omega⟩;obtain ⟨c',rfl⟩ : ∃c',c=c'+6:=⟨c-6,by have:=HS.out.mc;omega⟩;have hpr:pb≠rb:=by omega
   have hpt:pb≠rb+1:=by omega
   have cY:∀u,(wr.setCell ⟨pb,0,none⟩ u).heap[rb]?=some (.cells #[.int .i32 0,.int .i64 0,.string ⟨#[]⟩] 75)/\(wr.setCell ⟨pb,0,none⟩ u).heap[rb+1]?=some (.cells #[.int .i32 36,.int .i64 p,.string ⟨#[]⟩] 75):=λu=>⟨by rw [Below.heap_setCell _ _ _ _ hpr.symm];exact hX9,by rw [Below.heap_setCell _ _ _ _ hpt.symm];exact hT9⟩
   have z0:∀u,(wr.setCell ⟨pb,0,none⟩ u).cell? ⟨rb,0,none⟩=some (.int .i32 0):=λu=>by simp [zz,(cY u).1]
   have z1:∀u,(wr.setCell ⟨pb,0,none⟩ u).cell? ⟨rb,1,none⟩=some (.int .i64 0):=λu=>by simp [zz,(cY u).1]
   have z2:∀u,(wr.setCell ⟨pb,0,none⟩ u).cell? ⟨rb,2,none⟩=some (.string ⟨#[]⟩):=λu=>by simp [zz,(cY u).1]
   have z3:∀u i,(wr.setCell ⟨pb,0,none⟩ u).frozen? ⟨rb,i,none⟩=false:=λu i=>by simp [zx,(cY u).1]
   have z4:∀u,(wr.setCell ⟨pb,0,none⟩ u).cell? ⟨rb+1,0,none⟩=some (.int .i32 36):=λu=>by simp [zz,(cY u).2]
   have z5:∀u,(wr.setCell ⟨pb,0,none⟩ u).cell? ⟨rb+1,1,none⟩=some (.int .i64 p):=λu=>by simp [zz,(cY u).2]
   have z6:∀u,(wr.setCell ⟨pb,0,none⟩ u).cell? ⟨rb+1,2,none⟩=some (.string ⟨#[]⟩):=λu=>by simp [zz,(cY u).2]
   have zz0:=λu=>iF (v:=.int .i32 36) (z0 u)
   have hm1:m'+6+1-6=m'+1:=by omega
   have hc1:c'+6+1-6=c'+1:=by omega
   have hlb:(6:Int)<=(m':Int)+6+1:=by omega
   clear cY hit hall hfar hd hSi hX9 hT9;go_wp2;refine bodyPost_ret (by simp [results,Tryz.results78,go_sem,zz0,z1,z2];try rfl) rfl ?_;have hJ:=bG.jump 6 (p+6) m' c' HS.out HD.out hpi;have hbw:Below w.heap.size w wr:=HB1.out.trans (HW2.out.mono HB1.out.size);have hY:Below (w.setCell ⟨pb,0,none⟩ (.slice (some ⟨g,j*2+6*2,none⟩) (m'+1) (c'+1))).heap.size (w.setCell ⟨pb,0,none⟩ (.slice (some ⟨g,j*2+6*2,none⟩) (m'+1) (c'+1))) (wr.setCell ⟨pb,0,none⟩ (.slice (some ⟨g,j*2+6*2,none⟩) (m'+1) (c'+1))):=aB8 hbw (HS.out.box.lt) _;have hrw:(w.setCell ⟨pb,0,none⟩ (.slice (some ⟨g,j*2+6*2,none⟩) (m'+1) (c'+1))).heap.size<=rb:=by rw [<-HRB.out];simp [World.setCell]
   have hf2:=eV (eV (eV hY (p:=⟨rb,0,none⟩) hrw (.int .i32 36)) (p:=⟨rb,1,none⟩) hrw (.int .i64 p)) (p:=⟨rb,2,none⟩) hrw (.string ⟨#[]⟩);have hg0:w.grownBy (w.setCell ⟨pb,0,none⟩ (.slice (some ⟨g,j*2+6*2,none⟩) (m'+1) (c'+1))) (some pb):=bQ _ _ _;exact ⟨hg0.trans (lO hf2 _),Or.inl ⟨HYF.out,rfl,_,_,_,hJ.below hf2⟩⟩
end
def dK(k:Nat):Int:=if k=110 then 97 else if k=118 then 65 else if k=102 then 36 else if k=101 then -1 else if k=63 then -2 else k
theorem aM8(s:ByteArray)(p:Nat)(h:p<s.size):fJ (aO s p)=fJ (aC s p):=by
 by_cases hb:aC s p<128
 ·rw [(kW s p h hb).1]
 ·have h2:fJ (aC s p:Int)=false:=by simp only [fJ,zw,decide_eq_false_iff_not];omega
  rw [h2];rcases vY s p h (by omega) with e | e <;> (simp only [fJ,zw,decide_eq_false_iff_not];omega)
theorem aM9(s:ByteArray)(p:Nat)(h:p<s.size):eO (aO s p)=eO (aC s p):=by
 by_cases hb:aC s p<128
 ·rw [(kW s p h hb).1]
 ·have h2:eO (aC s p:Int)=false:=by simp only [eO,zw,decide_eq_false_iff_not];omega
  rw [h2];rcases vY s p h (by omega) with e | e <;> (simp only [eO,zw,decide_eq_false_iff_not];omega)
theorem aMa(s:ByteArray)(p:Nat)(h:p<s.size):pU (aO s p)=pD (aC s p):=by
 unfold pU pD;have q:∀c:Nat,c<128->(aO s p=(c:Int))=(aC s p=c):=λc hc=>propext (eJ s p h c hc)
 have q1:(aO s p=124)=(aC s p=124):=q 124 (by omega);have q2:(aO s p=126)=(aC s p=126):=q 126 (by omega);have q3:(aO s p=40)=(aC s p=40):=q 40 (by omega);have q4:(aO s p=41)=(aC s p=41):=q 41 (by omega);have q5:(aO s p=44)=(aC s p=44):=q 44 (by omega);have q6:(aO s p=46)=(aC s p=46):=q 46 (by omega);simp only [q1,q2,q3,q4,q5,q6]
section
variable {B:Nat}{w W:World}{pb:Nat}{s:ByteArray}{p g j m c:Nat}{k a:Int}{wd:ByteArray}{vC vP vM:Value}
theorem bG.setTok{rb:Nat}{cs:Array Value}(h:bG B W pb s p g j m c k a wd vC vP vM)(hx:W.heap[rb]?=some (.cells cs 75))(i:Nat)(u:Value):bG B (W.setCell ⟨rb,i,none⟩ u) pb s p g j m c k a wd vC vP vM/\∃cs',(W.setCell ⟨rb,i,none⟩ u).heap[rb]?=some (.cells cs' 75):=by
 have hne:pb≠rb:=by rintro rfl;have:=h.box;unfold bL at this;rw [hx] at this;simp at this
 refine ⟨⟨?_,h.high,?_,h.len,h.drop,h.le⟩,?_⟩
 ·unfold bL;rw [Below.heap_setCell _ _ _ _ hne];exact h.box
 ·refine ownsRow_setCell_other h.row ?_ u;intro e;obtain ⟨_,⟨e2,_⟩ | ⟨g',cap,cur,e2,_,hh,_⟩⟩:=h.row
  ·simp at e2
  ·simp at e2;obtain ⟨rfl,_⟩:=e2;simp [Value.ownBlock] at e;subst e;rw [hx] at hh;simp at hh
 ·refine ⟨cs.set! i u,?_⟩;have:=heap_setCell_same W rb i cs 75 u hx;simpa using this
theorem bG.setTok3{rb:Nat}{cs:Array Value}(h:bG B W pb s p g j m c k a wd vC vP vM)(hx:W.heap[rb]?=some (.cells cs 75))(u0 u1 u2:Value):bG B (((W.setCell ⟨rb,0,none⟩ u0).setCell ⟨rb,1,none⟩ u1).setCell ⟨rb,2,none⟩ u2) pb s p g j m c k a wd vC vP vM:=by obtain ⟨h1,c1,x1⟩:=h.setTok hx 0 u0;obtain ⟨h2,c2,x2⟩:=h1.setTok x1 1 u1;exact (h2.setTok x2 2 u2).1
end
theorem gX{w W:World}{pb rb i:Nat}(h:w.grownBy W (some pb))(hr:w.heap.size<=rb)(u:Value):w.grownBy (W.setCell ⟨rb,i,none⟩ u) (some pb):=
 ⟨h.os,h.tape,h.output,by have:=h.size;simpa [World.setCell] using this,λk hk hne=>by rw [Below.heap_setCell _ _ _ _ (by intro e;simp at e;omega)];exact h.block k hk hne⟩
def pS(B pb:Nat)(s:ByteArray)(p f g:Nat)(k a:Int)(wd:ByteArray)(vC vP vM:Value)(w:World)(e:Ending)(w':World):Prop:=
 w.grownBy w' (some pb)/\
  match qM s f p with
  | .tok t q=>e=.returned (fL (dK t.kind) t.pos t.txt)/\∃j m c,bG B w' pb s q g j m c k a wd vC vP vM
  | .bad q=>e=.returned (fL (-2) q ⟨#[]⟩)/\∃j m c,bG B w' pb s q g j m c k a wd vC vP vM
  | .stop q=>e=.returned (fL (-1) q ⟨#[]⟩)/\∃j m c,bG B w' pb s q g j m c k a wd vC vP vM
theorem aEp{s:ByteArray}{p:Nat}(hl:(fJ (aC s p) || eO (aC s p))=true):gY (aC s p)=true:=by unfold gY;rw [Bool.or_eq_true] at hl;rcases hl with h | h <;> simp [h]
section
variable {B:Nat}{w:World}{pb:Nat}{s:ByteArray}{p g j m c:Nat}{k a:Int}{wd:ByteArray}{vC vP vM:Value}
theorem aEq(f:Nat)(h:bG B w pb s p g j m c k a wd vC vP vM)(hs:s.size<=3000)(hf:s.size<p+f) :
  Calls zu 49 #[.pointer (some ⟨pb,0,none⟩)] w λe w'=>pS B pb s p f g k a wd vC vP vM w e w':=by
 obtain ⟨hn1,hn2,hn3⟩:=aN9 s f p hf h.le;have CS:=aA (λo=>aNa f (h.below ((Below.refl w.heap.size w).alloc (zy _) o)) hf);have HX0:Hid (∀o,(w.alloc o).heap[w.heap.size]?=some o):=aA λo=>by show (w.heap.push _)[w.heap.size]?=_;simp
 have hpb:=h.box.lt;obtain ⟨p1,hp1⟩ : ∃p1,kX s f p=p1:=⟨_,rfl⟩;rw [hp1] at hn1 hn2 hn3 CS;have HN1:=aA hn1;clear h hp1 hn1;go_enter Tryz.func49,Tryz.ntmps49;go_upto_region 3 with (first
  | (go_at_call 73;refine (aB CS _).mono ?_;rintro e w1 ⟨rfl,hg1,j1,m1,c1,hS1⟩;have hx1:=(hg1.block w.heap.size (by simp) (by simp;omega)).trans (HX0.out _);have HS1:=aA hS1;have HX1:=aA hx1;have d0:=hS1.box.c0;have d1:=hS1.at0.1;have d2:=hS1.at0.2;have HG1:Hid (w.grownBy w1 (some pb)):=aA ((lO ((Below.refl w.heap.size w).alloc (zy _) _) (some pb)).trans hg1);have hz1:=hg1.size;clear hg1 hS1 hx1)
  | go_in)
 have hb2:=(Below.refl w1.heap.size w1).alloc (zy _) (.cells #[.int .i32 (aO s p1),.int .i64 p1] 128);have HS2:=aA (HS1.out.below hb2);have hx2:=hb2.block w.heap.size (by simp at hz1;omega);rw [HX1.out] at hx2;have HX2:=aA hx2;have HG2:=aA (HG1.out.trans (lO hb2 (some pb)));have hfb:(w1.alloc (.cells #[.int .i32 (aO s p1),.int .i64 p1] 128)).heap[w1.heap.size]?=some (.cells #[.int .i32 (aO s p1),.int .i64 p1] 128):=by show (w1.heap.push _)[w1.heap.size]?=_;simp
 have b0:(w1.alloc (.cells #[.int .i32 (aO s p1),.int .i64 p1] 128)).cell? ⟨w1.heap.size,0,none⟩=some (.int .i32 (aO s p1)):=by unfold zz;rw [hfb];rfl
 have b1:(w1.alloc (.cells #[.int .i32 (aO s p1),.int .i64 p1] 128)).cell? ⟨w1.heap.size,1,none⟩=some (.int .i64 p1):=by unfold zz;rw [hfb];rfl
 have hfz:w1.heap.size<(w1.alloc (.cells #[.int .i32 (aO s p1),.int .i64 p1] 128)).heap.size:=by simp
 have HFB:=aA hfb;have hrw:w.heap.size<=w.heap.size:=zy _;have hrf:w.heap.size<w1.heap.size:=by simp at hz1;omega
 clear hb2 hx2 hfb HS1 HX1 HG1 HX0 CS d0 d1 d2 hz1;generalize w1.alloc (.cells #[.int .i32 (aO s p1),.int .i64 p1] 128)=w2 at *;generalize w1.heap.size=fb at *;obtain ⟨rb,hrbe⟩ : ∃rb,w.heap.size=rb:=⟨_,rfl⟩;rw [hrbe] at HX2 hpb hrf;simp only [hrbe];have hrw:w.heap.size<=rb:=by omega
 clear hrbe;have CL:=aA (λwx=>aIi (aO s p1) wx);have CU:=aA (λwx=>aIj (aO s p1) wx);by_cases hlt:p1<s.size
 ·have HTK:Hid (qM s f p=eP s p1):=aA (by rw [HN1.out,if_pos hlt]);obtain ⟨hgap,h37⟩:=hn3 hlt;have hsm:=aM8 s p1 hlt;have hlg:=aM9 s p1 hlt;rw [hsm] at CL;rw [hlg] at CU;by_cases hlet:(fJ (aC s p1) || eO (aC s p1))=true
  ·have hin:=aEp hlet;have htw:=aTi hlet;by_cases hsl:fJ (aC s p1)=true
   ·have hll:eO (aC s p1:Int)=false:=by simp only [fJ,Bool.and_eq_true,decide_eq_true_eq] at hsl;simp only [eO,zw,decide_eq_false_iff_not];omega
    rw [hll] at htw;rw [hsl] at CL;obtain ⟨K,Q,T,hKQ,hCX⟩ : ∃(K:Int) (Q:Nat) (T:ByteArray),(∀w',w.grownBy w' (some pb)->(∃j m c,bG B w' pb s Q g j m c k a wd vC vP vM)->pS B pb s p f g k a wd vC vP vM w (.returned (fL K p1 T)) w')/\Calls zu 75 #[.pointer (some ⟨pb,0,none⟩),.int .i32 97] w2 λe w'=>e=.returned (.agg #[.int .i32 K,.int .i64 p1,.string T])/\w2.grownBy w' (some pb)/\∃j m c,bG B w' pb s Q g j m c k a wd vC vP vM:=by
     by_cases h20:eN s p1-p1 > 20
     ·refine ⟨-2,p1,⟨#[]⟩,λw' hg hS=>⟨hg,by rw [HTK.out,htw,if_pos h20];exact ⟨rfl,hS⟩⟩,(yP 97 HS2.out hs hlt hin).mono ?_⟩;rintro e w' ⟨hg,hr⟩;rw [if_pos h20] at hr;exact ⟨hr.1,hg,_,_,_,hr.2⟩
     ·refine ⟨97,eN s p1,s.extract p1 (eN s p1),λw' hg hS=>⟨hg,by rw [HTK.out,htw,if_neg h20];exact ⟨rfl,hS⟩⟩,(yP 97 HS2.out hs hlt hin).mono ?_⟩;rintro e w' ⟨hg,hr⟩;rw [if_neg h20] at hr;exact ⟨hr.1,hg,hr.2⟩
    have HFIN:=aA hKQ;have CX:=aA hCX;clear hKQ hCX hsm hlg htw;generalize aO s p1=cc at *;go_wp2_with (first
     | (go_at_call 74;refine (aB CL _).mono ?_;rintro e wq ⟨rfl,rfl⟩)
     | (go_at_call 75;refine (aB CX).mono ?_;rintro e w3 ⟨rfl,hg3,j3,m3,c3,hS3⟩;have hx3:=(hg3.block rb (by omega) (by simp;omega)).trans HX2.out;have HS3:=aA hS3;have HG3:=aA hg3;have HX3:=aA hx3;have t0:w3.cell? ⟨rb,0,none⟩=some (.int .i32 0):=(by simp [zz,hx3]);have t1:w3.cell? ⟨rb,1,none⟩=some (.int .i64 0):=(by simp [zz,hx3]);have t2:w3.cell? ⟨rb,2,none⟩=some (.string ⟨#[]⟩):=(by simp [zz,hx3]);have tt0:=λv=>iF (v:=v) t0;have t3:∀i,w3.frozen? ⟨rb,i,none⟩=false:=(λi=>by simp [zx,hx3]);clear hg3 hS3 hx3)
     | go_in)
    refine bodyPost_ret (by simp [results,zv,go_sem,tt0,t1,t2];try rfl) rfl ?_;exact HFIN.out _ (gX (gX (gX (HG2.out.trans HG3.out) hrw _) hrw _) hrw _) ⟨_,_,_,HS3.out.setTok3 HX3.out _ _ _⟩
   ·have hsf:fJ (aC s p1:Int)=false:=by simpa using hsl
    have hll:eO (aC s p1:Int)=true:=by rw [hsf] at hlet;simpa using hlet
    rw [hll] at htw CU;rw [hsf] at CL;obtain ⟨K,Q,T,hKQ,hCX⟩ : ∃(K:Int) (Q:Nat) (T:ByteArray),(∀w',w.grownBy w' (some pb)->(∃j m c,bG B w' pb s Q g j m c k a wd vC vP vM)->pS B pb s p f g k a wd vC vP vM w (.returned (fL K p1 T)) w')/\Calls zu 75 #[.pointer (some ⟨pb,0,none⟩),.int .i32 65] w2 λe w'=>e=.returned (.agg #[.int .i32 K,.int .i64 p1,.string T])/\w2.grownBy w' (some pb)/\∃j m c,bG B w' pb s Q g j m c k a wd vC vP vM:=by
     by_cases h20:eN s p1-p1 > 20
     ·refine ⟨-2,p1,⟨#[]⟩,λw' hg hS=>⟨hg,by rw [HTK.out,htw,if_pos h20];exact ⟨rfl,hS⟩⟩,(yP 65 HS2.out hs hlt hin).mono ?_⟩;rintro e w' ⟨hg,hr⟩;rw [if_pos h20] at hr;exact ⟨hr.1,hg,_,_,_,hr.2⟩
     ·refine ⟨65,eN s p1,s.extract p1 (eN s p1),λw' hg hS=>⟨hg,by rw [HTK.out,htw,if_neg h20];exact ⟨rfl,hS⟩⟩,(yP 65 HS2.out hs hlt hin).mono ?_⟩;rintro e w' ⟨hg,hr⟩;rw [if_neg h20] at hr;exact ⟨hr.1,hg,hr.2⟩
    have HFIN:=aA hKQ;have CX:=aA hCX;clear hKQ hCX hsm hlg htw;generalize aO s p1=cc at *;go_wp2_with (first
     | (go_at_call 74;refine (aB CL _).mono ?_;rintro e wq ⟨rfl,rfl⟩)
     | (go_at_call 76;refine (aB CU _).mono ?_;rintro e wq ⟨rfl,rfl⟩)
     | (go_at_call 75;refine (aB CX).mono ?_;rintro e w3 ⟨rfl,hg3,j3,m3,c3,hS3⟩;have hx3:=(hg3.block rb (by omega) (by simp;omega)).trans HX2.out;have HS3:=aA hS3;have HG3:=aA hg3;have HX3:=aA hx3;have t0:w3.cell? ⟨rb,0,none⟩=some (.int .i32 0):=(by simp [zz,hx3]);have t1:w3.cell? ⟨rb,1,none⟩=some (.int .i64 0):=(by simp [zz,hx3]);have t2:w3.cell? ⟨rb,2,none⟩=some (.string ⟨#[]⟩):=(by simp [zz,hx3]);have tt0:=λv=>iF (v:=v) t0;have t3:∀i,w3.frozen? ⟨rb,i,none⟩=false:=(λi=>by simp [zx,hx3]);clear hg3 hS3 hx3)
     | go_in)
    refine bodyPost_ret (by simp [results,zv,go_sem,tt0,t1,t2];try rfl) rfl ?_;exact HFIN.out _ (gX (gX (gX (HG2.out.trans HG3.out) hrw _) hrw _) hrw _) ⟨_,_,_,HS3.out.setTok3 HX3.out _ _ _⟩
  ·have hsf:fJ (aC s p1:Int)=false:=by simp at hlet;exact hlet.1
   have hlf:eO (aC s p1:Int)=false:=by simp at hlet;exact hlet.2
   have hlet':(fJ (aC s p1) || eO (aC s p1))=false:=by rw [hsf,hlf];rfl
   rw [hsf] at CL;rw [hlf] at CU;by_cases h39:aC s p1=39
   ·have hg39:=(eJ s p1 hlt 39 (by omega)).2 h39;have htq:=aTj hlet' h39;obtain ⟨K,Q,T,hKQ,hCX⟩ : ∃(K:Int) (Q:Nat) (T:ByteArray),(∀w',w.grownBy w' (some pb)->(∃j m c,bG B w' pb s Q g j m c k a wd vC vP vM)->pS B pb s p f g k a wd vC vP vM w (.returned (fL K p1 T)) w')/\Calls zu 77 #[.pointer (some ⟨pb,0,none⟩)] w2 λe w'=>e=.returned (.agg #[.int .i32 K,.int .i64 p1,.string T])/\w2.grownBy w' (some pb)/\∃j m c,bG B w' pb s Q g j m c k a wd vC vP vM:=by
     cases hq:nD s p1 with
     | none=>
      rw [hq] at htq;refine ⟨-2,p1,⟨#[]⟩,λw' hg hS=>⟨hg,by rw [HTK.out,htq];exact ⟨rfl,hS⟩⟩,(aFq HS2.out hs hg39).mono ?_⟩;rintro e w' ⟨hg,hr⟩;rw [hq] at hr;exact ⟨hr.1,hg,_,_,_,hr.2⟩
     | some r=>
      obtain ⟨n,q⟩:=r;rw [hq] at htq;refine ⟨97,q,n,λw' hg hS=>⟨hg,by rw [HTK.out,htq];exact ⟨rfl,hS⟩⟩,(aFq HS2.out hs hg39).mono ?_⟩;rintro e w' ⟨hg,hr⟩;rw [hq] at hr;exact ⟨hr.1,hg,hr.2⟩
    have HFIN:=aA hKQ;have CX:=aA hCX;rw [hg39] at b0 CL CU;clear hKQ hCX hsm hlg htq hg39;go_wp2_with (first
     | (go_at_call 74;refine (aB CL _).mono ?_;rintro e wq ⟨rfl,rfl⟩)
     | (go_at_call 76;refine (aB CU _).mono ?_;rintro e wq ⟨rfl,rfl⟩)
     | (go_at_call 77;refine (aB CX).mono ?_;rintro e w3 ⟨rfl,hg3,j3,m3,c3,hS3⟩;have hx3:=(hg3.block rb (by omega) (by simp;omega)).trans HX2.out;have HS3:=aA hS3;have HG3:=aA hg3;have HX3:=aA hx3;have t0:w3.cell? ⟨rb,0,none⟩=some (.int .i32 0):=(by simp [zz,hx3]);have t1:w3.cell? ⟨rb,1,none⟩=some (.int .i64 0):=(by simp [zz,hx3]);have t2:w3.cell? ⟨rb,2,none⟩=some (.string ⟨#[]⟩):=(by simp [zz,hx3]);have tt0:=λv=>iF (v:=v) t0;have t3:∀i,w3.frozen? ⟨rb,i,none⟩=false:=(λi=>by simp [zx,hx3]);clear hg3 hS3 hx3)
     | go_in)
    refine bodyPost_ret (by simp [results,zv,go_sem,tt0,t1,t2];try rfl) rfl ?_;exact HFIN.out _ (gX (gX (gX (HG2.out.trans HG3.out) hrw _) hrw _) hrw _) ⟨_,_,_,HS3.out.setTok3 HX3.out _ _ _⟩
   ·have hn39:aO s p1≠39:=λe=>h39 ((eJ s p1 hlt 39 (by omega)).1 e)
    by_cases h36:aC s p1=36
    ·have hg36:=(eJ s p1 hlt 36 (by omega)).2 h36;have htq:=aTk hlet' h39 h36;obtain ⟨K,Q,hKQ,hCX⟩ : ∃(K:Int) (Q:Nat),(∀w',w.grownBy w' (some pb)->(∃j m c,bG B w' pb s Q g j m c k a wd vC vP vM)->pS B pb s p f g k a wd vC vP vM w (.returned (fL K p1 ⟨#[]⟩)) w')/\Calls zu 78 #[.pointer (some ⟨pb,0,none⟩)] w2 λe w'=>e=.returned (.agg #[.int .i32 K,.int .i64 p1,.string ⟨#[]⟩])/\w2.grownBy w' (some pb)/\∃j m c,bG B w' pb s Q g j m c k a wd vC vP vM:=by
      by_cases hF:sU s p1
      ·rw [if_pos (show p1+6<=s.size/\s.extract p1 (p1+6)=⟨#[36,102,97,108,115,101]⟩ from hF)] at htq;refine ⟨36,p1+6,λw' hg hS=>⟨hg,by rw [HTK.out,htq];exact ⟨rfl,hS⟩⟩,(aEo HS2.out).mono ?_⟩;rintro e w' ⟨hg,hr | hr⟩
       ·exact ⟨hr.2.1,hg,hr.2.2⟩
       ·exact absurd hF hr.1
      ·rw [if_neg (show ¬(p1+6<=s.size/\s.extract p1 (p1+6)=⟨#[36,102,97,108,115,101]⟩) from hF)] at htq;refine ⟨-2,p1,λw' hg hS=>⟨hg,by rw [HTK.out,htq];exact ⟨rfl,hS⟩⟩,(aEo HS2.out).mono ?_⟩;rintro e w' ⟨hg,hr | hr⟩
       ·exact absurd hr.1 hF
       ·exact ⟨hr.2.1,hg,_,_,_,hr.2.2⟩
     have HFIN:=aA hKQ;have CX:=aA hCX;rw [hg36] at b0 CL CU;clear hKQ hCX hsm hlg htq hg36 hn39;go_wp2_with (first
      | (go_at_call 74;refine (aB CL _).mono ?_;rintro e wq ⟨rfl,rfl⟩)
      | (go_at_call 76;refine (aB CU _).mono ?_;rintro e wq ⟨rfl,rfl⟩)
      | (go_at_call 78;refine (aB CX).mono ?_;rintro e w3 ⟨rfl,hg3,j3,m3,c3,hS3⟩;have hx3:=(hg3.block rb (by omega) (by simp;omega)).trans HX2.out;have HS3:=aA hS3;have HG3:=aA hg3;have HX3:=aA hx3;have t0:w3.cell? ⟨rb,0,none⟩=some (.int .i32 0):=(by simp [zz,hx3]);have t1:w3.cell? ⟨rb,1,none⟩=some (.int .i64 0):=(by simp [zz,hx3]);have t2:w3.cell? ⟨rb,2,none⟩=some (.string ⟨#[]⟩):=(by simp [zz,hx3]);have tt0:=λv=>iF (v:=v) t0;have t3:∀i,w3.frozen? ⟨rb,i,none⟩=false:=(λi=>by simp [zx,hx3]);clear hg3 hS3 hx3)
      | go_in)
     refine bodyPost_ret (by simp [results,zv,go_sem,tt0,t1,t2];try rfl) rfl ?_;exact HFIN.out _ (gX (gX (gX (HG2.out.trans HG3.out) hrw _) hrw _) hrw _) ⟨_,_,_,HS3.out.setTok3 HX3.out _ _ _⟩
    ·have hn36:aO s p1≠36:=λe=>h36 ((eJ s p1 hlt 36 (by omega)).1 e)
     have htm:=aTl hlet' h39 h36;have hmk:=aMa s p1 hlt;have CM:=aA (aF6 (aO s p1) w2 (aB6 s p1));rw [hmk] at CM;have hn1:=yI s p1 hlt;cases hm:pD (aC s p1)
     ·rw [hm] at CM htm;have HFIN:Hid (∀w',w.grownBy w' (some pb)->(∃j m c,bG B w' pb s p1 g j m c k a wd vC vP vM)->pS B pb s p f g k a wd vC vP vM w (.returned (fL (-2) p1 ⟨#[]⟩)) w'):=aA λw' hg hS=>⟨hg,by rw [HTK.out,htm];exact ⟨rfl,hS⟩⟩
      clear hsm hlg htm hmk hm;generalize aO s p1=cc at *;have q39:(cc == 39)=false:=by simpa using hn39
      have q36:(cc == 36)=false:=by simpa using hn36
      have qe:(cc == -1)=false:=by simpa using hn1
      go_wp2_with (first
       | (go_at_call 74;refine (aB CL _).mono ?_;rintro e wq ⟨rfl,rfl⟩)
       | (go_at_call 76;refine (aB CU _).mono ?_;rintro e wq ⟨rfl,rfl⟩)
       | (go_at_call 79;refine (aB CM).mono ?_;rintro e w4 ⟨rfl,hb4⟩;have HB4:=aA hb4;have hx4:=(hb4.block rb (by omega)).trans HX2.out;have HX4:=aA hx4;have hf4:=(hb4.block fb hfz).trans HFB.out;have q0:w4.cell? ⟨fb,0,none⟩=some (.int .i32 (cc)):=(by unfold zz;rw [hf4];rfl);have q1:w4.cell? ⟨fb,1,none⟩=some (.int .i64 p1):=(by unfold zz;rw [hf4];rfl);have hS4:=HS2.out.below hb4;have g0:=hS4.box.c0;have gf:=hS4.box.soft 0;have HS4:=aA hS4;clear hb4 hx4 hf4 hS4)
       | (go_at_call 80;refine (uH HS4.out).mono ?_;rintro e w3 ⟨rfl,hb3⟩;unfold fL;have hsz:=HB4.out.size;have hx3:=(hb3.block rb (by omega)).trans HX4.out;have HS3:=aA (HS4.out.below hb3);have HG3:=aA ((lO HB4.out (some pb)).trans (lO hb3 (some pb)));have HX3:=aA hx3;have t0:w3.cell? ⟨rb,0,none⟩=some (.int .i32 0):=(by simp [zz,hx3]);have t1:w3.cell? ⟨rb,1,none⟩=some (.int .i64 0):=(by simp [zz,hx3]);have t2:w3.cell? ⟨rb,2,none⟩=some (.string ⟨#[]⟩):=(by simp [zz,hx3]);have tt0:=λv=>iF (v:=v) t0;have t3:∀i,w3.frozen? ⟨rb,i,none⟩=false:=(λi=>by simp [zx,hx3]);clear hb3 hx3)
       | go_in)
      refine bodyPost_ret (by simp [results,zv,go_sem,tt0,t1,t2];try rfl) rfl ?_;exact HFIN.out _ (gX (gX (gX (HG2.out.trans HG3.out) hrw _) hrw _) hrw _) ⟨_,_,_,HS3.out.setTok3 HX3.out _ _ _⟩
     ·rw [hm] at CM htm;have hlow:aC s p1<128:=by unfold pD at hm;simp at hm;omega
      obtain ⟨hgl,hw1⟩:=kW s p1 hlt hlow;have hkp:dK (aC s p1)=aO s p1:=by
       rw [hgl];have hor:aC s p1=124\/aC s p1=126\/aC s p1=40\/aC s p1=41\/aC s p1=44\/aC s p1=46:=by unfold pD at hm;simp at hm;omega
       generalize aC s p1=bb at hor ⊢;rcases hor with rfl | rfl | rfl | rfl | rfl | rfl <;> rfl
      have HFIN:Hid (∀w',w.grownBy w' (some pb)->(∃j m c,bG B w' pb s (p1+1) g j m c k a wd vC vP vM)->pS B pb s p f g k a wd vC vP vM w (.returned (fL (aO s p1) p1 ⟨#[]⟩)) w'):=aA λw' hg hS=>⟨hg,by rw [HTK.out,htm];exact ⟨by rw [<-hkp],hS⟩⟩
      obtain ⟨m',c',rfl,rfl⟩:=HS2.out.more hlt;clear hsm hlg htm hmk hm hgl hkp;generalize aO s p1=cc at *;have q39:(cc == 39)=false:=by simpa using hn39
      have q36:(cc == 36)=false:=by simpa using hn36
      go_wp2_with (first
       | (go_at_call 74;refine (aB CL _).mono ?_;rintro e wq ⟨rfl,rfl⟩)
       | (go_at_call 76;refine (aB CU _).mono ?_;rintro e wq ⟨rfl,rfl⟩)
       | (go_at_call 79;refine (aB CM).mono ?_;rintro e w4 ⟨rfl,hb4⟩;have HB4:=aA hb4;have hx4:=(hb4.block rb (by omega)).trans HX2.out;have hf4:=(hb4.block fb hfz).trans HFB.out;have hS4:=HS2.out.below hb4;have g0:=hS4.box.c0;have gf:=hS4.box.soft 0;have HS5:=aA (hS4.step hlt);have cY:∀u,(w4.setCell ⟨pb,0,none⟩ u).heap[rb]?=some (.cells #[.int .i32 0,.int .i64 0,.string ⟨#[]⟩] 75)/\(w4.setCell ⟨pb,0,none⟩ u).heap[fb]?=some (.cells #[.int .i32 cc,.int .i64 p1] 128):=(λu=>⟨by rw [Below.heap_setCell _ _ _ _ (show rb≠pb by omega)];exact hx4,by rw [Below.heap_setCell _ _ _ _ (show fb≠pb by omega)];exact hf4⟩);have q0:∀u,(w4.setCell ⟨pb,0,none⟩ u).cell? ⟨fb,0,none⟩=some (.int .i32 cc):=(λu=>by unfold zz;rw [(cY u).2];rfl);have q1:∀u,(w4.setCell ⟨pb,0,none⟩ u).cell? ⟨fb,1,none⟩=some (.int .i64 p1):=(λu=>by unfold zz;rw [(cY u).2];rfl);have t0:∀u,(w4.setCell ⟨pb,0,none⟩ u).cell? ⟨rb,0,none⟩=some (.int .i32 0):=(λu=>by unfold zz;rw [(cY u).1];rfl);have t1:∀u,(w4.setCell ⟨pb,0,none⟩ u).cell? ⟨rb,1,none⟩=some (.int .i64 0):=(λu=>by unfold zz;rw [(cY u).1];rfl);have t2:∀u,(w4.setCell ⟨pb,0,none⟩ u).cell? ⟨rb,2,none⟩=some (.string ⟨#[]⟩):=(λu=>by unfold zz;rw [(cY u).1];rfl);have t3:∀u i,(w4.setCell ⟨pb,0,none⟩ u).frozen? ⟨rb,i,none⟩=false:=(λu i=>by simp [zx,(cY u).1]);have tt0:=λu v=>iF (v:=v) (t0 u);have HCY:=aA cY;clear hb4 hx4 hf4 hS4 cY)
       | go_in)
      refine bodyPost_ret (by simp [results,zv,go_sem,tt0,t1,t2];try rfl) rfl ?_;have hg5:=qN (j:=0) (HG2.out.trans (lO HB4.out (some pb))) (.slice (some ⟨g,j1*2+2,none⟩) (m'+1) (c'+1));have hS5:=HS5.out;rw [hw1] at hS5;exact HFIN.out _ (gX (gX (gX hg5 hrw _) hrw _) hrw _) ⟨_,_,_,hS5.setTok3 (HCY.out _).1 _ _ _⟩
 ·have hpe:p1=s.size:=by omega
  have hge:=mQ s p1 hlt;have CM:=aA (aF6 (aO s p1) w2 (aB6 s p1));rw [hge] at CM CL CU b0;rw [show pU (-1)=false by decide] at CM;rw [show fJ (-1)=false by decide] at CL;rw [show eO (-1)=false by decide] at CU;rw [hge] at HFB;have HFIN:Hid (∀w',w.grownBy w' (some pb)->(∃j m c,bG B w' pb s p1 g j m c k a wd vC vP vM)->pS B pb s p f g k a wd vC vP vM w (.returned (fL (-1) p1 ⟨#[]⟩)) w'):=aA λw' hg hS=>⟨hg,by rw [HN1.out,if_neg hlt,<-hpe];exact ⟨rfl,hS⟩⟩
  clear hge hpe;go_wp2_with (first
   | (go_at_call 74;refine (aB CL _).mono ?_;rintro e wq ⟨rfl,rfl⟩)
   | (go_at_call 76;refine (aB CU _).mono ?_;rintro e wq ⟨rfl,rfl⟩)
   | (go_at_call 79;refine (aB CM).mono ?_;rintro e w4 ⟨rfl,hb4⟩;have HB4:=aA hb4;have hx4:=(hb4.block rb (by omega)).trans HX2.out;have hf4:=(hb4.block fb hfz).trans HFB.out;have HX4:=aA hx4;have HS4:=aA (HS2.out.below hb4);have q0:w4.cell? ⟨fb,0,none⟩=some (.int .i32 (-1)):=(by unfold zz;rw [hf4];rfl);have q1:w4.cell? ⟨fb,1,none⟩=some (.int .i64 p1):=(by unfold zz;rw [hf4];rfl);have t0:w4.cell? ⟨rb,0,none⟩=some (.int .i32 0):=(by simp [zz,hx4]);have t1:w4.cell? ⟨rb,1,none⟩=some (.int .i64 0):=(by simp [zz,hx4]);have t2:w4.cell? ⟨rb,2,none⟩=some (.string ⟨#[]⟩):=(by simp [zz,hx4]);have tt0:=λv=>iF (v:=v) t0;have t3:∀i,w4.frozen? ⟨rb,i,none⟩=false:=(λi=>by simp [zx,hx4]);clear hb4 hx4 hf4)
   | go_in)
  refine bodyPost_ret (by simp [results,zv,go_sem,tt0,t1,t2];try rfl) rfl ?_;exact HFIN.out _ (gX (gX (gX (HG2.out.trans (lO HB4.out (some pb))) hrw _) hrw _) hrw _) ⟨_,_,_,HS4.out.setTok3 HX4.out _ _ _⟩
end
theorem aMb{s:ByteArray}{k p:Nat}(h:eP s k=.bad p):p=k:=by
 unfold eP at h;repeat' split at h
 all_goals first | (cases h;done) | (simp only [Nx.bad.injEq] at h;exact h.symm)
theorem aMc{s:ByteArray}{k p:Nat}:eP s k≠.stop p:=by
 intro h;unfold eP at h;repeat' split at h
 all_goals cases h
theorem aEr{s:ByteArray}{k e:Nat}{t:Tk}(hp:k<s.size)(h:eP s k=.tok t e):k<e/\e<=s.size:=by
 unfold eP at h;split at h
 ·rename_i hl;split at h
  ·cases h
  ·simp only [Nx.tok.injEq] at h;rw [<-h.2];exact ⟨aTh hp hl,aTe (by omega)⟩
 ·split at h
  ·split at h
   ·rename_i n e' hq;simp only [Nx.tok.injEq] at h;rw [<-h.2];have:=aTg hq;omega
   ·cases h
  ·split at h
   ·split at h
    ·rename_i hc;simp only [Nx.tok.injEq] at h;rw [<-h.2];omega
    ·cases h
   ·split at h
    ·simp only [Nx.tok.injEq] at h;rw [<-h.2];omega
    ·cases h
theorem aMd(s:ByteArray):∀n f g q,s.size+1-q<=n->q<=s.size->s.size<q+f->s.size<q+g->cQ s f q=cQ s g q:=by
 intro n;induction n with
 | zero=>intro f g q h hq;omega
 | succ n ih=>
  intro f g q h hq hf hg;obtain ⟨f',rfl⟩ : ∃f',f=f'+1:=⟨f-1,by omega⟩;obtain ⟨g',rfl⟩ : ∃g',g=g'+1:=⟨g-1,by omega⟩;rw [cQ,cQ];by_cases hp:q<s.size
  ·rw [if_pos hp,if_pos hp];by_cases hgp:nE (aC s q)=true
   ·rw [if_pos hgp,if_pos hgp];exact ih _ _ _ (by omega) (by omega) (by omega) (by omega)
   ·rw [if_neg hgp,if_neg hgp];by_cases h37:aC s q=37
    ·rw [if_pos h37,if_pos h37];have h1:=zM hp h37;have h2:=aCh (s:=s) (p:=q) hq;exact ih _ _ _ (by omega) h2 (by omega) (by omega)
    ·rw [if_neg h37,if_neg h37];cases ht:eP s q with
     | tok t e=>
      obtain ⟨h1,h2⟩:=aEr hp ht;simp only;rw [ih f' g' e (by omega) h2 (by omega) (by omega)]
     | bad p=>rfl
     | stop p=>rfl
  ·rw [if_neg hp,if_neg hp]
def dV(s:ByteArray)(q:Nat):List Tk:=eQ (cQ s (s.size+1-q) q)
theorem yE{s:ByteArray}{q f:Nat}(hq:q<=s.size)(hf:s.size<q+f):eQ (cQ s f q)=dV s q:=by unfold dV;rw [aMd s _ f (s.size+1-q) q (zy _) hq hf (by omega)]
theorem aMe(s:ByteArray):∀n f q,s.size+1-q<=n->q<=s.size->s.size<q+f->
  match qM s f q with
  | .tok t e=>dV s q=t :: dV s e/\e<=s.size/\t.kind≠101/\t.kind≠63
  | .bad p=>dV s q=[⟨63,⟨#[]⟩,p⟩]/\p<=s.size
  | .stop p=>dV s q=[⟨101,⟨#[]⟩,p⟩]/\p<=s.size:=by
 intro n;induction n with
 | zero=>intro f q h hq;omega
 | succ n ih=>
  intro f q h hq hf;obtain ⟨f',rfl⟩ : ∃f',f=f'+1:=⟨f-1,by omega⟩;rw [qM,<-yE hq hf,cQ];by_cases hp:q<s.size
  ·rw [if_pos hp,if_pos hp];by_cases hgp:nE (aC s q)=true
   ·rw [if_pos hgp,if_pos hgp,yE (q:=q+1) (by omega) (by omega)];exact ih _ _ (by omega) (by omega) (by omega)
   ·rw [if_neg hgp,if_neg hgp];by_cases h37:aC s q=37
    ·rw [if_pos h37,if_pos h37];have h1:=zM hp h37;have h2:=aCh (s:=s) (p:=q) hq;rw [yE h2 (by omega)];exact ih _ _ (by omega) h2 (by omega)
    ·rw [if_neg h37,if_neg h37];cases ht:eP s q with
     | tok t e=>
      obtain ⟨h1,h2⟩:=aEr hp ht;simp only;refine ⟨?_,h2,aHy ht⟩;rw [<-yE h2 (show s.size<e+f' by omega)];rfl
     | bad p=>
      have hpq:p=q:=aMb ht;subst hpq;exact ⟨rfl,hq⟩
     | stop p=>exact absurd ht aMc
  ·rw [if_neg hp,if_neg hp];exact ⟨rfl,hq⟩
end
section
open Go.RowKit Go.Shelf Go.WideMaps
attribute [local go_sem] Oper.semAt_some
def lJ(c:List Lt)(i:Nat):Option Nd:=(c[i]?).bind λx=>x.2[0]?
def kV(c d:List Lt)(i m:Nat):List (Nat×Nat):=((List.range m).filter λj=>decide (lJ c i=lJ d j)).map λj=>(i,j)
def lK(c d:List Lt)(m:Nat):List (Nat×Nat):=(List.range m).flatMap λi=>kV c d i d.length
def jU(c d:List Lt):List (Nat×Nat):=lK c d c.length
theorem aB0(c d:List Lt)(m:Nat):lK c d (m+1)=lK c d m++kV c d m d.length:=by simp [lK,List.range_succ]
theorem yF(c d:List Lt)(i m:Nat):kV c d i (m+1)=kV c d i m++if lJ c i=lJ d m then [(i,m)] else []:=by
 unfold kV;rw [List.range_succ,List.filter_append,List.map_append];congr 1
 by_cases h:lJ c i=lJ d m <;> simp [h]
theorem aMf(c d:List Lt){m n:Nat}(h:m<=n):lK c d m <+: lK c d n:=by
 obtain ⟨k,rfl⟩ : ∃k,n=m+k:=⟨n-m,by omega⟩;clear h;induction k with
 | zero=>exact zq _
 | succ k ih=>rw [<-Nat.add_assoc,aB0];exact ih.trans (zr _ _)
theorem aMg(c d:List Lt)(i:Nat){m n:Nat}(h:m<=n):kV c d i m <+: kV c d i n:=by
 obtain ⟨k,rfl⟩ : ∃k,n=m+k:=⟨n-m,by omega⟩;clear h;induction k with
 | zero=>exact zq _
 | succ k ih=>rw [<-Nat.add_assoc,yF];exact ih.trans (zr _ _)
theorem aMh{c d:List Lt}{i j:Nat}(hi:i<c.length)(hj:j<d.length)(h:lJ c i=lJ d j):(jU c d)[(lK c d i++kV c d i j).length]?=some (i,j):=by have h1:kV c d i (j+1) <+: kV c d i d.length:=aMg c d i (by omega);have h2:lK c d (i+1) <+: jU c d:=aMf c d (by omega);rw [yF,if_pos h] at h1;rw [aB0] at h2;obtain ⟨t1,e1⟩:=h1;obtain ⟨t2,e2⟩:=h2;rw [<-e2,<-e1];simp
def bS:List TypeId:=[119,147,116]
structure nX(B:Nat)(W:World)(b1 b2:Nat)(v1 v2:Value)(c d:List Lt):Prop where
 x1:Boxed W b1 22 v1
 x2:Boxed W b2 22 v2
 m1:bM B W v1 c
 m2:bM B W v2 d
theorem nX.kept{B:Nat}{W W':World}{b1 b2:Nat}{v1 v2:Value}{c d:List Lt}(h:nX B W b1 b2 v1 v2 c d)(k:dC bS W W'):nX B W' b1 b2 v1 v2 c d:=
 ⟨k.boxed h.x1 (by decide),k.boxed h.x2 (by decide),k.clause h.m1 (by decide) (by decide),k.clause h.m2 (by decide) (by decide)⟩
theorem nX.drawn{B:Nat}{W:World}{b1 b2:Nat}{v1 v2:Value}{c d:List Lt}(h:nX B W b1 b2 v1 v2 c d)(k:Nat):nX B (W.drewN k) b1 b2 v1 v2 c d:=
 h.kept (Mv.of_below (S:=bS) (B:=0) (aJ ⟨k,rfl⟩)).kps
theorem aEs{J:Nat->World->Prop}{N:Nat}(h:OwnFrom N J){s:Nat}{w:World}(hJ:J s w)(d:Nat):J s (w.drewN d):=
 h s w _ none hJ ⟨rfl,rfl,rfl,zy _,λ_ _ _=>rfl⟩ (λr e=>by cases e)
theorem aEt{c:List Lt}{i:Nat}(hi:i<c.length)(h:0<c[i].2.length):lJ c i=some c[i].2[0]:=by unfold lJ;rw [zt hi];simp [zt h]
theorem aEu(n b1 b2 B:Nat)(v1 v2:Value)(c d:List Lt)(hn:1<=n)(nc:jE c)(nd:jE d)(W:World)(hW:nX B W b1 b2 v1 v2 c d) :
  tD Fence.wide n zu 149 #[.pointer (some ⟨b1,0,none⟩),.pointer (some ⟨b2,0,none⟩)] (λ(x:Nat×Nat) args _=>args=#[.int .i64 x.1,.int .i64 x.2]) bS (jU c d) W:=by
 intro l J Jx hJ hJx hY h0;have hc8:=nc.len;have hd8:=nd.len;have HY:=aA hY;have HJ:=aA hJ;clear hY hJ;refine callsIn_of_wp Tryz.func149 rfl trivial ?_;simp only [Tryz.ntmps149,List.size_toArray,List.length_cons,List.length_nil,Nat.reduceAdd,Nat.reduceSub,Array.replicate_succ,Array.replicate_zero,List.push_toArray,List.append_toArray,List.nil_append,List.cons_append];obtain ⟨a1,c1,rfl,_,L1,_⟩:=hW.m1.lits nc;obtain ⟨a2,c2,rfl,_,L2,_⟩:=hW.m2.lits nd;have e1:=hW.x1.cell;have HW:=aA hW;clear hW L1 L2;gi_wp2
 clear e1;gi_loopw [8] (λp wr=>∃i:Nat,i<=c.length/\p=.int .i64 i/\nX B wr b1 b2 (.slice a1 c.length c1) (.slice a2 d.length c2) c d/\J (lK c d i).length wr) (λp _=>c.length-(intOf p).toNat)
 case atStart=>exact ⟨0,Nat.zero_le _,by go_num,HW.out,by simpa [lK] using h0⟩
 case round=>
  obtain ⟨i,hi,rfl,hI,hJs⟩:=hrel;have f2:=hI.x2.cell;have HI:=aA hI;have HJS:=aA hJs;clear hI hJs;by_cases hlt:i<c.length
  ·have hlti:(i:Int)<(c.length:Int):=by omega
   gi_wp2
   clear f2;gi_loopw [13] (λp wr=>∃j:Nat,j<=d.length/\p=.int .i64 j/\nX B wr b1 b2 (.slice a1 c.length c1) (.slice a2 d.length c2) c d/\J (lK c d i++kV c d i j).length wr) (λp _=>d.length-(intOf p).toNat)
   case atStart=>exact ⟨0,Nat.zero_le _,by go_num,HI.out,by simpa [kV] using HJS.out⟩
   case round=>
    obtain ⟨j,hj,rfl,hI,hJs⟩:=hrel;by_cases hltj:j<d.length
    ·have hltji:(j:Int)<(d.length:Int):=by omega
     obtain ⟨a1',c1',ea,_,L1,_⟩:=hI.m1.lits nc;obtain ⟨a2',c2',eb,_,L2,_⟩:=hI.m2.lits nd;cases ea;cases eb;obtain ⟨g1,o1,aa,ac,rfl,k1,k2,k3⟩:=L1.cell i hlt;obtain ⟨g2,o2,ba,bc,rfl,q1,q2,q3⟩:=L2.cell j hltj;have hx0:=(nc.nodes (zp hlt)).2.1;have hy0:=(nd.nodes (zp hltj)).2.1;obtain ⟨g3,o3,rfl,s1,s2⟩:=k3.cell 0 hx0;obtain ⟨g4,o4,rfl,t1,t2⟩:=q3.cell 0 hy0;have hx1:=aEt hlt hx0;have hy1:=aEt hltj hy0;have e1:=hI.x1.cell;have e2:=hI.x2.cell;generalize hxe:c[i].2[0]=xe at *;generalize hye:d[j].2[0]=ye at *;obtain ⟨xs,xn⟩:=xe;obtain ⟨ys,yn⟩:=ye;simp only [Nat.zero_mul,Nat.add_zero] at s1 s2 t1 t2;have hm1:(0:Int)<(c[i].2.length:Int):=by omega
     have hm2:(0:Int)<(d[j].2.length:Int):=by omega
     clear hxe hye hx0 hy0 k3 q3 L1 L2;generalize c[i].2.length=m1 at *;generalize d[j].2.length=m2 at *;have hqn:=rF xs ys xn yn;have hqg:=sP;have hnbq:=rE (xs,xn) (ys,yn);simp only at hnbq;have HI:=aA hI;have HJS:=aA hJs;clear hI hJs k1 q1;by_cases hll:(xs,xn)=(ys,yn)
     ·rw [decide_eq_true hll] at hnbq;have hmix:zu.follows .mixedOrders=true:=by kernel_rfl
      have hhd:lJ c i=lJ d j:=by rw [hx1,hy1,hll]
      gi_wp2
      refine aDk [_,_,_,_,_,_,_,_,_,_,_,_,_,_,_,_,_,_,_] [_,_,_] rfl (aKd rfl) hmix (by kernel_rfl) (by kernel_rfl) ?_;repeat (gi_big_quiet_step (fail))
      refine wpQuietIn_nil ?_;rintro _ ⟨nq,rfl⟩;obtain ⟨fn,tmps,assign,body,hy,hR⟩:=HY.out _ (i,j) #[.int .i64 i,.int .i64 j] (wr.drewN nq) (aMh hlt hltj hhd) (aEs HJ.out HJS.out nq) rfl;refine wpAnyIn_ready (rs:=[19]) (by kernel_rfl) (by simp) ?_;refine AllReadyIn.cons rfl (λK hK=>?_) AllReadyIn.nil;go_simp;refine hR.mono ?_;rintro e W3 (⟨rfl,hJ3,hk3⟩ | ⟨rfl,hJx3,_⟩)
      ·refine hK _ _ ?_;clear hK K;refine wpAnyIn_ready (rs:=[20]) (by kernel_rfl) (by simp) ?_;refine AllReadyIn.cons rfl (λK hK=>?_) AllReadyIn.nil;go_simp;refine hK _ _ ?_;clear hK K;refine wpAnyIn_ready (rs:=[21]) (by kernel_rfl) (by simp) ?_;refine AllReadyIn.cons rfl (λK hK=>?_) AllReadyIn.nil;go_simp;refine hK _ _ ?_;clear hK K;refine wpAnyIn_done (by kernel_rfl) ?_ _;gi_wp2
       go_roundw;case rel=>exact ⟨j+1,by omega,by go_num,(HI.out.drawn nq).kept hk3.1,by rw [yF,if_pos hhd,<-List.append_assoc,List.length_append];exact hJ3⟩
       case measure=>simp [intOf];omega
      ·refine hK _ _ ?_;clear hK K;refine wpAnyIn_ready (rs:=[20]) (by kernel_rfl) (by simp) ?_;refine AllReadyIn.cons rfl (λK hK=>?_) AllReadyIn.nil;go_simp;refine hK _ _ ?_;clear hK K;refine wpAnyIn_ready (rs:=[21]) (by kernel_rfl) (by simp) ?_;refine AllReadyIn.cons rfl (λK hK=>?_) AllReadyIn.nil;go_simp;refine hK _ _ ?_;clear hK K;refine wpAnyIn_done (by kernel_rfl) ?_ _;gi_wp2
       refine bodyPost_ret (results_none rfl _ _ _) rfl ?_;exact ⟨⟨_,rfl⟩,.inr ⟨_,hJx3⟩⟩
     ·rw [decide_eq_false hll] at hnbq;have hmix:zu.follows .mixedOrders=true:=by kernel_rfl
      gi_wp2
      refine aDk [_,_,_,_,_,_,_,_,_,_,_,_,_,_,_,_,_,_,_] [_,_,_] rfl (aKd rfl) hmix (by kernel_rfl) (by kernel_rfl) ?_;repeat (gi_big_quiet_step (fail))
      refine wpQuietIn_nil ?_;rintro _ ⟨nq,rfl⟩;refine wpAnyIn_ready (rs:=[19]) (by kernel_rfl) (by simp) ?_;refine AllReadyIn.cons rfl (λK hK=>?_) AllReadyIn.nil;go_simp;refine ⟨λ_ _=>trivial,hK _ _ ?_⟩;clear hK K;refine wpAnyIn_ready (rs:=[20]) (by kernel_rfl) (by simp) ?_;refine AllReadyIn.cons rfl (λK hK=>?_) AllReadyIn.nil;go_simp;refine hK _ _ ?_;clear hK K;refine wpAnyIn_ready (rs:=[21]) (by kernel_rfl) (by simp) ?_;refine AllReadyIn.cons rfl (λK hK=>?_) AllReadyIn.nil;go_simp;refine hK _ _ ?_;clear hK K;refine wpAnyIn_done (by kernel_rfl) ?_ _;gi_wp2
      go_roundw;case rel=>exact ⟨j+1,by omega,by go_num,HI.out.drawn nq,by rw [yF,if_neg (by rw [hx1,hy1];intro e;exact hll (Option.some.inj e)),List.append_nil];exact aEs HJ.out HJS.out nq⟩
      case measure=>simp [intOf];omega
    ·have hltji:¬(j:Int)<(d.length:Int):=by omega
     have hjd:j=d.length:=by omega
     have HI:=aA hI;have HJS:=aA hJs;clear hI hJs;gi_wp2
     go_roundw;case rel=>exact ⟨i+1,by omega,by go_num,HI.out,by rw [aB0,<-hjd];exact HJS.out⟩
     case measure=>simp [intOf];omega
  ·have hlti:¬(i:Int)<(c.length:Int):=by omega
   have hic:i=c.length:=by omega
   gi_wp2
   go_end0;exact ⟨⟨_,rfl⟩,.inl (by unfold jU;rw [<-hic];exact HJS.out)⟩
end
end Go.Proofs.YtcldkjcpofjmhaaGreatDoor
