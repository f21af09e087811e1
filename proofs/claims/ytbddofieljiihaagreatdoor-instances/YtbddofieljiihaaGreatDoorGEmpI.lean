/- The program's scanner: the clause that is false. The program's scanner: the next token. The program's parser: the token at hand, and how it goes past one. The program's parser: its state, take, and how it is made. -/
import Derived.Test.YtbddofieljiihaaGreatDoorGWordI
namespace Go.Proofs.YtbddofieljiihaaGreatDoor
open Go.RowKit
set_option maxRecDepth 100000
abbrev fB:ByteArray:=⟨#[36,102,97,108,115,101]⟩
def qT (s:ByteArray) (p:Nat):Prop:=p+6≤s.size∧s.extract p (p+6)=fB
theorem vT:∀i,i < 6→aC fB i < 128:=by
 have:∀i:Fin 6,aC fB i.1 < 128:=by decide
 exact fun i hi=>this ⟨i,hi⟩
theorem aD1 {s:ByteArray} {p:Nat}:qT s p↔p+6≤s.size∧∀i,i < 6→aC s (p+i)=aC fB i:=by
 unfold qT
 constructor
 ·rintro ⟨h1,h2⟩
  refine ⟨h1,fun i hi=>?_⟩
  have:aC (s.extract p (p+6)) i=aC fB i:=by rw [h2]
  rw [←this,kR (s.extract p (p+6)) i (by rw [ByteArray.size_extract];omega),kR s (p+i) (by omega),ByteArray.getElem_extract]
 ·rintro ⟨h1,h2⟩
  refine ⟨h1,?_⟩
  apply ByteArray.ext
  apply Array.ext
  ·have:(s.extract p (p+6)).size=6:=by rw [ByteArray.size_extract];omega
   exact this
  ·intro i hi1 hi2
   have hi6:i < 6:=hi2
   have e:=h2 i hi6
   rw [kR s (p+i) (by omega),kR fB i hi6] at e
   have e1:(s.extract p (p+6))[i]'hi1=s[p+i]'(by omega):=ByteArray.getElem_extract ..
   have e2:=UInt8.toNat_inj.1 e
   exact e1.trans e2
def aL2 (B pb:Nat) (s:ByteArray) (p g j m c:Nat) (k a:Int) (wd:ByteArray) (vC vP vM:Value) (w:World) (e:Ending) (w':World):Prop:=
 w.grownBy w' (some pb)∧((qT s p∧e=.returned (eQ 36 p ⟨#[]⟩)∧∃j' m' c',bB B w' pb s (p+6) g j' m' c' k a wd vC vP vM)∨(¬qT s p∧e=.returned (eQ (-2) p ⟨#[]⟩)∧bB B w' pb s p g j m c k a wd vC vP vM))
section
variable {B:Nat} {pb:Nat} {s:ByteArray} {p g j m c:Nat} {k a:Int} {wd:ByteArray} {vC vP vM:Value}
set_option maxHeartbeats 3000000 in
theorem aD2 {w:World} (h:bB B w pb s p g j m c k a wd vC vP vM) :
  Calls Tryz.prog 71 #[.pointer (some ⟨pb,0,none⟩)] w fun e w'=>aL2 B pb s p g j m c k a wd vC vP vM w e w':=by
 have d0:=h.box.c0
 have d1:=h.at0.2
 have e0:∀o,(w.alloc o).cell? ⟨pb,0,none⟩=some (.slice (some ⟨g,j * 2,none⟩) (m+1) (c+1)):=fun o=>Below.at' ((Below.refl _ w).alloc (Nat.le_refl _) o) (Nat.le_refl _) d0
 have e1:∀o,(w.alloc o).cell? ⟨g,j * 2+1,none⟩=some (.int .i64 p):=fun o=>Below.at' ((Below.refl _ w).alloc (Nat.le_refl _) o) (Nat.le_refl _) d1
 have HB0:Hid (∀o o2,Below w.heap.size w ((w.alloc o).alloc o2)):=aA fun o o2=>((Below.refl _ _).alloc (Nat.le_refl _) o).alloc (by simp) o2
 have HX0:Hid (∀o o2,((w.alloc o).alloc o2).heap[w.heap.size]?=some o∧((w.alloc o).alloc o2).heap[w.heap.size+1]?=some o2∧((w.alloc o).alloc o2).heap.size=w.heap.size+2):=aA fun o o2=>⟨by show ((w.heap.push _).push _)[w.heap.size]?=_;simp [Array.getElem?_push],by
  show ((w.heap.push o).push o2)[w.heap.size+1]?=_
  have h:((w.heap.push o).push o2)[(w.heap.push o).size]?=some o2:=by rw [Array.getElem?_push];exact if_pos rfl
  rwa [Array.size_push] at h,by simp⟩
 have HS:=aA h
 have hpb:=h.box.lt
 clear h d0 d1
 go_enter Tryz.func71,Tryz.ntmps71
 go_wp2
 have hb1:=HB0.out (.cells #[.int .i32 0,.int .i64 0,.string ⟨#[]⟩] 59) (.cells #[.int .i32 36,.int .i64 p,.string ⟨#[]⟩] 59)
 have HS1:=aA (HS.out.below hb1)
 obtain ⟨hx1,hy1,hz1⟩:=HX0.out (.cells #[.int .i32 0,.int .i64 0,.string ⟨#[]⟩] 59) (.cells #[.int .i32 36,.int .i64 p,.string ⟨#[]⟩] 59)
 have HB1:=aA hb1
 have HX1:=aA hx1
 have HY1:=aA hy1
 clear hb1 hx1 hy1 HB0 HX0 e0 e1
 generalize (w.alloc (.cells #[.int .i32 0,.int .i64 0,.string ⟨#[]⟩] 59)).alloc (.cells #[.int .i32 36,.int .i64 p,.string ⟨#[]⟩] 59)=w2 at *
 obtain ⟨rb,hrbe⟩ : ∃rb,w.heap.size=rb:=⟨_,rfl⟩
 rw [hrbe] at hz1 HX1 HY1 hpb
 simp only [hrbe]
 have HRB:=aA hrbe
 clear hrbe
 go_loopg [] 6 (fun q wr=>∃i:Nat,q+i=6∧wr.heap[rb+2]?=some (.stringIter fB i)∧Below w2.heap.size w2 wr∧p+i≤s.size∧∀x,x < i→aC s (p+x)=aC fB x)
 case atStart=>
  refine ⟨0,rfl,?_,(Below.refl _ w2).alloc (Nat.le_refl _) _,HS.out.le,fun x hx=>by omega⟩
  have:=World.iter_heap w2 fB 0
  rw [hz1] at this
  simpa using this
 case round=>
  obtain ⟨i,hqi,hit,hfar,hpi,hall⟩:=hrel
  have HIT:=aA hit
  have HALL:=aA hall
  have HW2:=aA hfar
  have hlow:∀x,x < i→aC s (p+x) < 128:=fun x hx=>by rw [hall x hx];exact vT x (by omega)
  obtain ⟨hd,him⟩:=HS1.out.letters i hpi hlow
  have HD:=aA hd
  by_cases hi6:i < 6
  ·have hp:i < fB.size:=hi6
   have hc:(fB[i]'hp).toNat < 128:=by have:=vT i hi6;rw [kR fB i hp] at this;exact this
   have hnx:∀ty,(Instr.next (.pointer (some ⟨rb+2,0,none⟩)) true ty).run Tryz.prog wr=_:=fun ty=>Lib.run_next_ascii_at wr (rb+2) fB i ty hit hp hc
   have HI2:=aA (Lib.iterAt_heap wr (rb+2) fB i (i+1) hit)
   have hfar2:=Lib.below_iterAt hfar (k:=rb+2) (by omega) fB (i+1)
   have hSi:=HS1.out.below hfar2
   have a0:=(hSi.cells i (p+i) hd hpi him).1
   have d0:=hSi.box.c0
   have HSI:=aA hSi
   have HF2:=aA hfar2
   have HXI:Hid ((wr.iterAt (rb+2) fB (i+1)).heap[rb]?=some (.cells #[.int .i32 0,.int .i64 0,.string ⟨#[]⟩] 59)):=aA ((hfar2.block rb (by omega)).trans HX1.out)
   have hbi:(fB[i]'hp).toNat=aC fB i:=(kR fB i hp).symm
   have himi:(i:Int) < (m:Int)+1:=by omega
   have hi0:(0:Int)≤(i:Int):=by omega
   by_cases heq:aM s (p+i)=(aC fB i:Int)
   ·have hlt:p+i < s.size:=Classical.byContradiction fun hn=>by rw [lX s _ hn] at heq;omega
    have hbe:=(eC s (p+i) hlt (aC fB i) (vT i hi6)).1 heq
    rw [heq,←hbi] at a0
    clear hit hall hfar hd hSi hfar2
    go_wp2
    go_roundg (6 - (i+1))
    case measure=>omega
    case rel=>exact ⟨i+1,by omega,HI2.out,HF2.out,by omega,fun x hx=>by
     by_cases e:x=i
     ·subst e;exact hbe
     ·exact HALL.out x (by omega)⟩
   ·have HNF:Hid (¬qT s p):=aA fun hF=>by
     obtain ⟨h1,h2⟩:=aD1.1 hF
     exact heq ((eC s (p+i) (by omega) (aC fB i) (vT i hi6)).2 (h2 i hi6))
    have CB:=aA (rY HSI.out)
    unfold eQ at CB
    rw [hbi] at hnx
    generalize aM s (p+i)=cc at *
    have hne:(cc != (aC fB i:Int))=true:=by simpa using heq
    clear hit hall hfar hd hSi hfar2 hbi
    go_wp2_with (first
     | (go_at_call 73;refine (aB CB).mono ?_;rintro e w3 ⟨rfl,hb3⟩;have hx3:=(hb3.block rb (by have:=HW2.out.size;simp only [Lib.iterAt_size];omega)).trans HXI.out;have HB3:=aA hb3;have t0:w3.cell? ⟨rb,0,none⟩=some (.int .i32 0):=(by simp [World.cell?,hx3]);have t1:w3.cell? ⟨rb,1,none⟩=some (.int .i64 0):=(by simp [World.cell?,hx3]);have t2:w3.cell? ⟨rb,2,none⟩=some (.string ⟨#[]⟩):=(by simp [World.cell?,hx3]);have tt0:=gB (v:=.int .i32 (-2)) t0;have t3:∀i,w3.frozen? ⟨rb,i,none⟩=false:=(fun i=>by simp [World.frozen?,hx3]);clear hb3 hx3)
     | go_in)
    refine bodyPost_ret (by simp [results,Tryz.results71,go_sem,tt0,t1,t2];try rfl) rfl ?_
    have hbw:Below w.heap.size w (wr.iterAt (rb+2) fB (i+1)):=HB1.out.trans (HF2.out.mono HB1.out.size)
    have hfin:Below w.heap.size w w3:=hbw.trans (HB3.out.mono hbw.size)
    have hrw:w.heap.size≤rb:=by rw [HRB.out];exact Nat.le_refl _
    have hf2:=eJ (eJ (eJ hfin (p:=⟨rb,0,none⟩) hrw (.int .i32 (-2))) (p:=⟨rb,1,none⟩) hrw (.int .i64 p)) (p:=⟨rb,2,none⟩) hrw (.string ⟨#[]⟩)
    exact ⟨kX hf2 _,Or.inr ⟨HNF.out,rfl,HS.out.below hf2⟩⟩
  ·obtain rfl:i=6:=by omega
   have hp:¬6 < fB.size:=by decide
   have hnx:∀ty,(Instr.next (.pointer (some ⟨rb+2,0,none⟩)) true ty).run Tryz.prog wr=_:=fun ty=>Lib.run_next_end_at wr (rb+2) fB 6 ty hit hp
   have HYF:Hid (qT s p):=aA (aD1.2 ⟨hpi,hall⟩)
   have hSi:=HS1.out.below hfar
   have d0:=hSi.box.c0
   have f0:=hSi.box.soft 0
   have hX9:=(hfar.block rb (by omega)).trans HX1.out
   have hT9:=(hfar.block (rb+1) (by omega)).trans HY1.out
   obtain ⟨m',rfl⟩ : ∃m',m=m'+6:=⟨m - 6,by omega⟩
   obtain ⟨c',rfl⟩ : ∃c',c=c'+6:=⟨c - 6,by have:=HS.out.mc;omega⟩
   have hpr:pb≠rb:=by omega
   have hpt:pb≠rb+1:=by omega
   have cY:∀u,(wr.setCell ⟨pb,0,none⟩ u).heap[rb]?=some (.cells #[.int .i32 0,.int .i64 0,.string ⟨#[]⟩] 59)∧(wr.setCell ⟨pb,0,none⟩ u).heap[rb+1]?=some (.cells #[.int .i32 36,.int .i64 p,.string ⟨#[]⟩] 59):=fun u=>⟨by rw [Below.heap_setCell _ _ _ _ hpr.symm];exact hX9,by rw [Below.heap_setCell _ _ _ _ hpt.symm];exact hT9⟩
   have z0:∀u,(wr.setCell ⟨pb,0,none⟩ u).cell? ⟨rb,0,none⟩=some (.int .i32 0):=fun u=>by simp [World.cell?,(cY u).1]
   have z1:∀u,(wr.setCell ⟨pb,0,none⟩ u).cell? ⟨rb,1,none⟩=some (.int .i64 0):=fun u=>by simp [World.cell?,(cY u).1]
   have z2:∀u,(wr.setCell ⟨pb,0,none⟩ u).cell? ⟨rb,2,none⟩=some (.string ⟨#[]⟩):=fun u=>by simp [World.cell?,(cY u).1]
   have z3:∀u i,(wr.setCell ⟨pb,0,none⟩ u).frozen? ⟨rb,i,none⟩=false:=fun u i=>by simp [World.frozen?,(cY u).1]
   have z4:∀u,(wr.setCell ⟨pb,0,none⟩ u).cell? ⟨rb+1,0,none⟩=some (.int .i32 36):=fun u=>by simp [World.cell?,(cY u).2]
   have z5:∀u,(wr.setCell ⟨pb,0,none⟩ u).cell? ⟨rb+1,1,none⟩=some (.int .i64 p):=fun u=>by simp [World.cell?,(cY u).2]
   have z6:∀u,(wr.setCell ⟨pb,0,none⟩ u).cell? ⟨rb+1,2,none⟩=some (.string ⟨#[]⟩):=fun u=>by simp [World.cell?,(cY u).2]
   have zz0:=fun u=>gB (v:=.int .i32 36) (z0 u)
   have hm1:m'+6+1 - 6=m'+1:=by omega
   have hc1:c'+6+1 - 6=c'+1:=by omega
   have hlb:(6:Int)≤(m':Int)+6+1:=by omega
   clear cY hit hall hfar hd hSi hX9 hT9
   go_wp2
   refine bodyPost_ret (by simp [results,Tryz.results71,go_sem,zz0,z1,z2];try rfl) rfl ?_
   have hJ:=bB.jump 6 (p+6) m' c' HS.out HD.out hpi
   have hbw:Below w.heap.size w wr:=HB1.out.trans (HW2.out.mono HB1.out.size)
   have hY:Below (w.setCell ⟨pb,0,none⟩ (.slice (some ⟨g,j * 2+6 * 2,none⟩) (m'+1) (c'+1))).heap.size (w.setCell ⟨pb,0,none⟩ (.slice (some ⟨g,j * 2+6 * 2,none⟩) (m'+1) (c'+1))) (wr.setCell ⟨pb,0,none⟩ (.slice (some ⟨g,j * 2+6 * 2,none⟩) (m'+1) (c'+1))):=zM hbw (HS.out.box.lt) _
   have hrw:(w.setCell ⟨pb,0,none⟩ (.slice (some ⟨g,j * 2+6 * 2,none⟩) (m'+1) (c'+1))).heap.size≤rb:=by rw [←HRB.out];simp [World.setCell]
   have hf2:=eJ (eJ (eJ hY (p:=⟨rb,0,none⟩) hrw (.int .i32 36)) (p:=⟨rb,1,none⟩) hrw (.int .i64 p)) (p:=⟨rb,2,none⟩) hrw (.string ⟨#[]⟩)
   have hg0:w.grownBy (w.setCell ⟨pb,0,none⟩ (.slice (some ⟨g,j * 2+6 * 2,none⟩) (m'+1) (c'+1))) (some pb):=cB _ _ _
   exact ⟨hg0.trans (kX hf2 _),Or.inl ⟨HYF.out,rfl,_,_,_,hJ.below hf2⟩⟩
end
def cU (k:Nat):Int:=if k=110 then 97 else if k=118 then 65 else if k=102 then 36 else if k=101 then -1 else if k=63 then -2 else k
theorem aL3 (s:ByteArray) (p:Nat) (h:p < s.size):eH (aM s p)=eH (aC s p):=by
 by_cases hb:aC s p < 128
 ·rw [(kC s p h hb).1]
 ·have h2:eH (aC s p:Int)=false:=by simp only [eH,Bool.and_eq_false_iff,decide_eq_false_iff_not];omega
  rw [h2]
  rcases tP s p h (by omega) with e | e <;> (simp only [eH,Bool.and_eq_false_iff,decide_eq_false_iff_not];omega)
theorem aL4 (s:ByteArray) (p:Nat) (h:p < s.size):eD (aM s p)=eD (aC s p):=by
 by_cases hb:aC s p < 128
 ·rw [(kC s p h hb).1]
 ·have h2:eD (aC s p:Int)=false:=by simp only [eD,Bool.and_eq_false_iff,decide_eq_false_iff_not];omega
  rw [h2]
  rcases tP s p h (by omega) with e | e <;> (simp only [eD,Bool.and_eq_false_iff,decide_eq_false_iff_not];omega)
theorem aL5 (s:ByteArray) (p:Nat) (h:p < s.size):oM (aM s p)=nF (aC s p):=by
 unfold oM nF
 have q:∀c:Nat,c < 128→(aM s p=(c:Int))=(aC s p=c):=fun c hc=>propext (eC s p h c hc)
 have q1:(aM s p=124)=(aC s p=124):=q 124 (by omega)
 have q2:(aM s p=126)=(aC s p=126):=q 126 (by omega)
 have q3:(aM s p=40)=(aC s p=40):=q 40 (by omega)
 have q4:(aM s p=41)=(aC s p=41):=q 41 (by omega)
 have q5:(aM s p=44)=(aC s p=44):=q 44 (by omega)
 have q6:(aM s p=46)=(aC s p=46):=q 46 (by omega)
 simp only [q1,q2,q3,q4,q5,q6]
section
variable {B:Nat} {w W:World} {pb:Nat} {s:ByteArray} {p g j m c:Nat} {k a:Int} {wd:ByteArray} {vC vP vM:Value}
theorem bB.setTok {rb:Nat} {cs:Array Value} (h:bB B W pb s p g j m c k a wd vC vP vM) (hx:W.heap[rb]?=some (.cells cs 59)) (i:Nat) (u:Value):bB B (W.setCell ⟨rb,i,none⟩ u) pb s p g j m c k a wd vC vP vM∧∃cs',(W.setCell ⟨rb,i,none⟩ u).heap[rb]?=some (.cells cs' 59):=by
 have hne:pb≠rb:=by
  rintro rfl
  have:=h.box
  unfold bF at this
  rw [hx] at this
  simp at this
 refine ⟨⟨?_,h.high,?_,h.len,h.drop,h.le⟩,?_⟩
 ·unfold bF
  rw [Below.heap_setCell _ _ _ _ hne]
  exact h.box
 ·refine ownsRow_setCell_other h.row ?_ u
  intro e
  obtain ⟨_,⟨e2,_⟩ | ⟨g',cap,cur,e2,_,hh,_⟩⟩:=h.row
  ·simp at e2
  ·simp at e2
   obtain ⟨rfl,_⟩:=e2
   simp [Value.ownBlock] at e
   subst e
   rw [hx] at hh
   simp at hh
 ·refine ⟨cs.set! i u,?_⟩
  have:=heap_setCell_same W rb i cs 59 u hx
  simpa using this
theorem bB.setTok3 {rb:Nat} {cs:Array Value} (h:bB B W pb s p g j m c k a wd vC vP vM) (hx:W.heap[rb]?=some (.cells cs 59)) (u0 u1 u2:Value):bB B (((W.setCell ⟨rb,0,none⟩ u0).setCell ⟨rb,1,none⟩ u1).setCell ⟨rb,2,none⟩ u2) pb s p g j m c k a wd vC vP vM:=by
 obtain ⟨h1,c1,x1⟩:=h.setTok hx 0 u0
 obtain ⟨h2,c2,x2⟩:=h1.setTok x1 1 u1
 exact (h2.setTok x2 2 u2).1
end
theorem fU {w W:World} {pb rb i:Nat} (h:w.grownBy W (some pb)) (hr:w.heap.size≤rb) (u:Value):w.grownBy (W.setCell ⟨rb,i,none⟩ u) (some pb):=
 ⟨h.os,h.tape,h.output,by have:=h.size;simpa [World.setCell] using this,fun k hk hne=>by rw [Below.heap_setCell _ _ _ _ (by intro e;simp at e;omega)];exact h.block k hk hne⟩
def oK (B pb:Nat) (s:ByteArray) (p f g:Nat) (k a:Int) (wd:ByteArray) (vC vP vM:Value) (w:World) (e:Ending) (w':World):Prop:=
 w.grownBy w' (some pb)∧
  match oS s f p with
  | .tok t q=>e=.returned (eQ (cU t.kind) t.pos t.txt)∧∃j m c,bB B w' pb s q g j m c k a wd vC vP vM
  | .bad q=>e=.returned (eQ (-2) q ⟨#[]⟩)∧∃j m c,bB B w' pb s q g j m c k a wd vC vP vM
  | .stop q=>e=.returned (eQ (-1) q ⟨#[]⟩)∧∃j m c,bB B w' pb s q g j m c k a wd vC vP vM
theorem yZ {s:ByteArray} {p:Nat} (hl:(eH (aC s p) || eD (aC s p))=true):fA (aC s p)=true:=by
 unfold fA
 rw [Bool.or_eq_true] at hl
 rcases hl with h | h <;> simp [h]
section
variable {B:Nat} {w:World} {pb:Nat} {s:ByteArray} {p g j m c:Nat} {k a:Int} {wd:ByteArray} {vC vP vM:Value}
set_option maxHeartbeats 3000000 in
theorem aD3 (f:Nat) (h:bB B w pb s p g j m c k a wd vC vP vM) (hs:s.size≤3000) (hf:s.size < p+f) :
  Calls Tryz.prog 43 #[.pointer (some ⟨pb,0,none⟩)] w fun e w'=>oK B pb s p f g k a wd vC vP vM w e w':=by
 obtain ⟨hn1,hn2,hn3⟩:=aNb s f p hf h.le
 have CS:=aA (fun o=>aNc f (h.below ((Below.refl w.heap.size w).alloc (Nat.le_refl _) o)) hf)
 have HX0:Hid (∀o,(w.alloc o).heap[w.heap.size]?=some o):=aA fun o=>by show (w.heap.push _)[w.heap.size]?=_;simp
 have hpb:=h.box.lt
 obtain ⟨p1,hp1⟩ : ∃p1,kD s f p=p1:=⟨_,rfl⟩
 rw [hp1] at hn1 hn2 hn3 CS
 have HN1:=aA hn1
 clear h hp1 hn1
 go_enter Tryz.func43,Tryz.ntmps43
 go_upto_region 3 with (first
  | (go_at_call 66;refine (aB CS _).mono ?_;rintro e w1 ⟨rfl,hg1,j1,m1,c1,hS1⟩;have hx1:=(hg1.block w.heap.size (by simp) (by simp;omega)).trans (HX0.out _);have HS1:=aA hS1;have HX1:=aA hx1;have d0:=hS1.box.c0;have d1:=hS1.at0.1;have d2:=hS1.at0.2;have HG1:Hid (w.grownBy w1 (some pb)):=aA ((kX ((Below.refl w.heap.size w).alloc (Nat.le_refl _) _) (some pb)).trans hg1);have hz1:=hg1.size;clear hg1 hS1 hx1)
  | go_in)
 have hb2:=(Below.refl w1.heap.size w1).alloc (Nat.le_refl _) (.cells #[.int .i32 (aM s p1),.int .i64 p1] 128)
 have HS2:=aA (HS1.out.below hb2)
 have hx2:=hb2.block w.heap.size (by simp at hz1;omega)
 rw [HX1.out] at hx2
 have HX2:=aA hx2
 have HG2:=aA (HG1.out.trans (kX hb2 (some pb)))
 have hfb:(w1.alloc (.cells #[.int .i32 (aM s p1),.int .i64 p1] 128)).heap[w1.heap.size]?=some (.cells #[.int .i32 (aM s p1),.int .i64 p1] 128):=by show (w1.heap.push _)[w1.heap.size]?=_;simp
 have b0:(w1.alloc (.cells #[.int .i32 (aM s p1),.int .i64 p1] 128)).cell? ⟨w1.heap.size,0,none⟩=some (.int .i32 (aM s p1)):=by unfold World.cell?;rw [hfb];rfl
 have b1:(w1.alloc (.cells #[.int .i32 (aM s p1),.int .i64 p1] 128)).cell? ⟨w1.heap.size,1,none⟩=some (.int .i64 p1):=by unfold World.cell?;rw [hfb];rfl
 have hfz:w1.heap.size < (w1.alloc (.cells #[.int .i32 (aM s p1),.int .i64 p1] 128)).heap.size:=by simp
 have HFB:=aA hfb
 have hrw:w.heap.size≤w.heap.size:=Nat.le_refl _
 have hrf:w.heap.size < w1.heap.size:=by simp at hz1;omega
 clear hb2 hx2 hfb HS1 HX1 HG1 HX0 CS d0 d1 d2 hz1
 generalize w1.alloc (.cells #[.int .i32 (aM s p1),.int .i64 p1] 128)=w2 at *
 generalize w1.heap.size=fb at *
 obtain ⟨rb,hrbe⟩ : ∃rb,w.heap.size=rb:=⟨_,rfl⟩
 rw [hrbe] at HX2 hpb hrf
 simp only [hrbe]
 have hrw:w.heap.size≤rb:=by omega
 clear hrbe
 have CL:=aA (fun wx=>aF7 (aM s p1) wx)
 have CU:=aA (fun wx=>aF8 (aM s p1) wx)
 by_cases hlt:p1 < s.size
 ·have HTK:Hid (oS s f p=dZ s p1):=aA (by rw [HN1.out,if_pos hlt])
  obtain ⟨hgap,h37⟩:=hn3 hlt
  have hsm:=aL3 s p1 hlt
  have hlg:=aL4 s p1 hlt
  rw [hsm] at CL
  rw [hlg] at CU
  by_cases hlet:(eH (aC s p1) || eD (aC s p1))=true
  ·have hin:=yZ hlet
   have htw:=aPl hlet
   by_cases hsl:eH (aC s p1)=true
   ·have hll:eD (aC s p1:Int)=false:=by simp only [eH,Bool.and_eq_true,decide_eq_true_eq] at hsl;simp only [eD,Bool.and_eq_false_iff,decide_eq_false_iff_not];omega
    rw [hll] at htw
    rw [hsl] at CL
    obtain ⟨K,Q,T,hKQ,hCX⟩ : ∃(K:Int) (Q:Nat) (T:ByteArray),(∀w',w.grownBy w' (some pb)→(∃j m c,bB B w' pb s Q g j m c k a wd vC vP vM)→oK B pb s p f g k a wd vC vP vM w (.returned (eQ K p1 T)) w')∧Calls Tryz.prog 68 #[.pointer (some ⟨pb,0,none⟩),.int .i32 97] w2 fun e w'=>e=.returned (.agg #[.int .i32 K,.int .i64 p1,.string T])∧w2.grownBy w' (some pb)∧∃j m c,bB B w' pb s Q g j m c k a wd vC vP vM:=by
     by_cases h20:dH s p1 - p1 > 20
     ·refine ⟨-2,p1,⟨#[]⟩,fun w' hg hS=>⟨hg,by rw [HTK.out,htw,if_pos h20];exact ⟨rfl,hS⟩⟩,(wG 97 HS2.out hs hlt hin).mono ?_⟩
      rintro e w' ⟨hg,hr⟩
      rw [if_pos h20] at hr
      exact ⟨hr.1,hg,_,_,_,hr.2⟩
     ·refine ⟨97,dH s p1,s.extract p1 (dH s p1),fun w' hg hS=>⟨hg,by rw [HTK.out,htw,if_neg h20];exact ⟨rfl,hS⟩⟩,(wG 97 HS2.out hs hlt hin).mono ?_⟩
      rintro e w' ⟨hg,hr⟩
      rw [if_neg h20] at hr
      exact ⟨hr.1,hg,hr.2⟩
    have HFIN:=aA hKQ
    have CX:=aA hCX
    clear hKQ hCX hsm hlg htw
    generalize aM s p1=cc at *
    go_wp2_with (first
     | (go_at_call 67;refine (aB CL _).mono ?_;rintro e wq ⟨rfl,rfl⟩)
     | (go_at_call 68;refine (aB CX).mono ?_;rintro e w3 ⟨rfl,hg3,j3,m3,c3,hS3⟩;have hx3:=(hg3.block rb (by omega) (by simp;omega)).trans HX2.out;have HS3:=aA hS3;have HG3:=aA hg3;have HX3:=aA hx3;have t0:w3.cell? ⟨rb,0,none⟩=some (.int .i32 0):=(by simp [World.cell?,hx3]);have t1:w3.cell? ⟨rb,1,none⟩=some (.int .i64 0):=(by simp [World.cell?,hx3]);have t2:w3.cell? ⟨rb,2,none⟩=some (.string ⟨#[]⟩):=(by simp [World.cell?,hx3]);have tt0:=fun v=>gB (v:=v) t0;have t3:∀i,w3.frozen? ⟨rb,i,none⟩=false:=(fun i=>by simp [World.frozen?,hx3]);clear hg3 hS3 hx3)
     | go_in)
    refine bodyPost_ret (by simp [results,Tryz.results43,go_sem,tt0,t1,t2];try rfl) rfl ?_
    exact HFIN.out _ (fU (fU (fU (HG2.out.trans HG3.out) hrw _) hrw _) hrw _) ⟨_,_,_,HS3.out.setTok3 HX3.out _ _ _⟩
   ·have hsf:eH (aC s p1:Int)=false:=by simpa using hsl
    have hll:eD (aC s p1:Int)=true:=by rw [hsf] at hlet;simpa using hlet
    rw [hll] at htw CU
    rw [hsf] at CL
    obtain ⟨K,Q,T,hKQ,hCX⟩ : ∃(K:Int) (Q:Nat) (T:ByteArray),(∀w',w.grownBy w' (some pb)→(∃j m c,bB B w' pb s Q g j m c k a wd vC vP vM)→oK B pb s p f g k a wd vC vP vM w (.returned (eQ K p1 T)) w')∧Calls Tryz.prog 68 #[.pointer (some ⟨pb,0,none⟩),.int .i32 65] w2 fun e w'=>e=.returned (.agg #[.int .i32 K,.int .i64 p1,.string T])∧w2.grownBy w' (some pb)∧∃j m c,bB B w' pb s Q g j m c k a wd vC vP vM:=by
     by_cases h20:dH s p1 - p1 > 20
     ·refine ⟨-2,p1,⟨#[]⟩,fun w' hg hS=>⟨hg,by rw [HTK.out,htw,if_pos h20];exact ⟨rfl,hS⟩⟩,(wG 65 HS2.out hs hlt hin).mono ?_⟩
      rintro e w' ⟨hg,hr⟩
      rw [if_pos h20] at hr
      exact ⟨hr.1,hg,_,_,_,hr.2⟩
     ·refine ⟨65,dH s p1,s.extract p1 (dH s p1),fun w' hg hS=>⟨hg,by rw [HTK.out,htw,if_neg h20];exact ⟨rfl,hS⟩⟩,(wG 65 HS2.out hs hlt hin).mono ?_⟩
      rintro e w' ⟨hg,hr⟩
      rw [if_neg h20] at hr
      exact ⟨hr.1,hg,hr.2⟩
    have HFIN:=aA hKQ
    have CX:=aA hCX
    clear hKQ hCX hsm hlg htw
    generalize aM s p1=cc at *
    go_wp2_with (first
     | (go_at_call 67;refine (aB CL _).mono ?_;rintro e wq ⟨rfl,rfl⟩)
     | (go_at_call 69;refine (aB CU _).mono ?_;rintro e wq ⟨rfl,rfl⟩)
     | (go_at_call 68;refine (aB CX).mono ?_;rintro e w3 ⟨rfl,hg3,j3,m3,c3,hS3⟩;have hx3:=(hg3.block rb (by omega) (by simp;omega)).trans HX2.out;have HS3:=aA hS3;have HG3:=aA hg3;have HX3:=aA hx3;have t0:w3.cell? ⟨rb,0,none⟩=some (.int .i32 0):=(by simp [World.cell?,hx3]);have t1:w3.cell? ⟨rb,1,none⟩=some (.int .i64 0):=(by simp [World.cell?,hx3]);have t2:w3.cell? ⟨rb,2,none⟩=some (.string ⟨#[]⟩):=(by simp [World.cell?,hx3]);have tt0:=fun v=>gB (v:=v) t0;have t3:∀i,w3.frozen? ⟨rb,i,none⟩=false:=(fun i=>by simp [World.frozen?,hx3]);clear hg3 hS3 hx3)
     | go_in)
    refine bodyPost_ret (by simp [results,Tryz.results43,go_sem,tt0,t1,t2];try rfl) rfl ?_
    exact HFIN.out _ (fU (fU (fU (HG2.out.trans HG3.out) hrw _) hrw _) hrw _) ⟨_,_,_,HS3.out.setTok3 HX3.out _ _ _⟩
  ·have hsf:eH (aC s p1:Int)=false:=by simp at hlet;exact hlet.1
   have hlf:eD (aC s p1:Int)=false:=by simp at hlet;exact hlet.2
   have hlet':(eH (aC s p1) || eD (aC s p1))=false:=by rw [hsf,hlf];rfl
   rw [hsf] at CL
   rw [hlf] at CU
   by_cases h39:aC s p1=39
   ·have hg39:=(eC s p1 hlt 39 (by omega)).2 h39
    have htq:=aPm hlet' h39
    obtain ⟨K,Q,T,hKQ,hCX⟩ : ∃(K:Int) (Q:Nat) (T:ByteArray),(∀w',w.grownBy w' (some pb)→(∃j m c,bB B w' pb s Q g j m c k a wd vC vP vM)→oK B pb s p f g k a wd vC vP vM w (.returned (eQ K p1 T)) w')∧Calls Tryz.prog 70 #[.pointer (some ⟨pb,0,none⟩)] w2 fun e w'=>e=.returned (.agg #[.int .i32 K,.int .i64 p1,.string T])∧w2.grownBy w' (some pb)∧∃j m c,bB B w' pb s Q g j m c k a wd vC vP vM:=by
     cases hq:mC s p1 with
     | none=>
      rw [hq] at htq
      refine ⟨-2,p1,⟨#[]⟩,fun w' hg hS=>⟨hg,by rw [HTK.out,htq];exact ⟨rfl,hS⟩⟩,(aE7 HS2.out hs hg39).mono ?_⟩
      rintro e w' ⟨hg,hr⟩
      rw [hq] at hr
      exact ⟨hr.1,hg,_,_,_,hr.2⟩
     | some r=>
      obtain ⟨n,q⟩:=r
      rw [hq] at htq
      refine ⟨97,q,n,fun w' hg hS=>⟨hg,by rw [HTK.out,htq];exact ⟨rfl,hS⟩⟩,(aE7 HS2.out hs hg39).mono ?_⟩
      rintro e w' ⟨hg,hr⟩
      rw [hq] at hr
      exact ⟨hr.1,hg,hr.2⟩
    have HFIN:=aA hKQ
    have CX:=aA hCX
    rw [hg39] at b0 CL CU
    clear hKQ hCX hsm hlg htq hg39
    go_wp2_with (first
     | (go_at_call 67;refine (aB CL _).mono ?_;rintro e wq ⟨rfl,rfl⟩)
     | (go_at_call 69;refine (aB CU _).mono ?_;rintro e wq ⟨rfl,rfl⟩)
     | (go_at_call 70;refine (aB CX).mono ?_;rintro e w3 ⟨rfl,hg3,j3,m3,c3,hS3⟩;have hx3:=(hg3.block rb (by omega) (by simp;omega)).trans HX2.out;have HS3:=aA hS3;have HG3:=aA hg3;have HX3:=aA hx3;have t0:w3.cell? ⟨rb,0,none⟩=some (.int .i32 0):=(by simp [World.cell?,hx3]);have t1:w3.cell? ⟨rb,1,none⟩=some (.int .i64 0):=(by simp [World.cell?,hx3]);have t2:w3.cell? ⟨rb,2,none⟩=some (.string ⟨#[]⟩):=(by simp [World.cell?,hx3]);have tt0:=fun v=>gB (v:=v) t0;have t3:∀i,w3.frozen? ⟨rb,i,none⟩=false:=(fun i=>by simp [World.frozen?,hx3]);clear hg3 hS3 hx3)
     | go_in)
    refine bodyPost_ret (by simp [results,Tryz.results43,go_sem,tt0,t1,t2];try rfl) rfl ?_
    exact HFIN.out _ (fU (fU (fU (HG2.out.trans HG3.out) hrw _) hrw _) hrw _) ⟨_,_,_,HS3.out.setTok3 HX3.out _ _ _⟩
   ·have hn39:aM s p1≠39:=fun e=>h39 ((eC s p1 hlt 39 (by omega)).1 e)
    by_cases h36:aC s p1=36
    ·have hg36:=(eC s p1 hlt 36 (by omega)).2 h36
     have htq:=aPn hlet' h39 h36
     obtain ⟨K,Q,hKQ,hCX⟩ : ∃(K:Int) (Q:Nat),(∀w',w.grownBy w' (some pb)→(∃j m c,bB B w' pb s Q g j m c k a wd vC vP vM)→oK B pb s p f g k a wd vC vP vM w (.returned (eQ K p1 ⟨#[]⟩)) w')∧Calls Tryz.prog 71 #[.pointer (some ⟨pb,0,none⟩)] w2 fun e w'=>e=.returned (.agg #[.int .i32 K,.int .i64 p1,.string ⟨#[]⟩])∧w2.grownBy w' (some pb)∧∃j m c,bB B w' pb s Q g j m c k a wd vC vP vM:=by
      by_cases hF:qT s p1
      ·rw [if_pos (show p1+6≤s.size∧s.extract p1 (p1+6)=⟨#[36,102,97,108,115,101]⟩ from hF)] at htq
       refine ⟨36,p1+6,fun w' hg hS=>⟨hg,by rw [HTK.out,htq];exact ⟨rfl,hS⟩⟩,(aD2 HS2.out).mono ?_⟩
       rintro e w' ⟨hg,hr | hr⟩
       ·exact ⟨hr.2.1,hg,hr.2.2⟩
       ·exact absurd hF hr.1
      ·rw [if_neg (show ¬(p1+6≤s.size∧s.extract p1 (p1+6)=⟨#[36,102,97,108,115,101]⟩) from hF)] at htq
       refine ⟨-2,p1,fun w' hg hS=>⟨hg,by rw [HTK.out,htq];exact ⟨rfl,hS⟩⟩,(aD2 HS2.out).mono ?_⟩
       rintro e w' ⟨hg,hr | hr⟩
       ·exact absurd hr.1 hF
       ·exact ⟨hr.2.1,hg,_,_,_,hr.2.2⟩
     have HFIN:=aA hKQ
     have CX:=aA hCX
     rw [hg36] at b0 CL CU
     clear hKQ hCX hsm hlg htq hg36 hn39
     go_wp2_with (first
      | (go_at_call 67;refine (aB CL _).mono ?_;rintro e wq ⟨rfl,rfl⟩)
      | (go_at_call 69;refine (aB CU _).mono ?_;rintro e wq ⟨rfl,rfl⟩)
      | (go_at_call 71;refine (aB CX).mono ?_;rintro e w3 ⟨rfl,hg3,j3,m3,c3,hS3⟩;have hx3:=(hg3.block rb (by omega) (by simp;omega)).trans HX2.out;have HS3:=aA hS3;have HG3:=aA hg3;have HX3:=aA hx3;have t0:w3.cell? ⟨rb,0,none⟩=some (.int .i32 0):=(by simp [World.cell?,hx3]);have t1:w3.cell? ⟨rb,1,none⟩=some (.int .i64 0):=(by simp [World.cell?,hx3]);have t2:w3.cell? ⟨rb,2,none⟩=some (.string ⟨#[]⟩):=(by simp [World.cell?,hx3]);have tt0:=fun v=>gB (v:=v) t0;have t3:∀i,w3.frozen? ⟨rb,i,none⟩=false:=(fun i=>by simp [World.frozen?,hx3]);clear hg3 hS3 hx3)
      | go_in)
     refine bodyPost_ret (by simp [results,Tryz.results43,go_sem,tt0,t1,t2];try rfl) rfl ?_
     exact HFIN.out _ (fU (fU (fU (HG2.out.trans HG3.out) hrw _) hrw _) hrw _) ⟨_,_,_,HS3.out.setTok3 HX3.out _ _ _⟩
    ·have hn36:aM s p1≠36:=fun e=>h36 ((eC s p1 hlt 36 (by omega)).1 e)
     have htm:=aPo hlet' h39 h36
     have hmk:=aL5 s p1 hlt
     have CM:=aA (aE0 (aM s p1) w2 (zK s p1))
     rw [hmk] at CM
     have hn1:=wD s p1 hlt
     cases hm:nF (aC s p1)
     ·rw [hm] at CM htm
      have HFIN:Hid (∀w',w.grownBy w' (some pb)→(∃j m c,bB B w' pb s p1 g j m c k a wd vC vP vM)→oK B pb s p f g k a wd vC vP vM w (.returned (eQ (-2) p1 ⟨#[]⟩)) w'):=aA fun w' hg hS=>⟨hg,by rw [HTK.out,htm];exact ⟨rfl,hS⟩⟩
      clear hsm hlg htm hmk hm
      generalize aM s p1=cc at *
      have q39:(cc == 39)=false:=by simpa using hn39
      have q36:(cc == 36)=false:=by simpa using hn36
      have qe:(cc == -1)=false:=by simpa using hn1
      go_wp2_with (first
       | (go_at_call 67;refine (aB CL _).mono ?_;rintro e wq ⟨rfl,rfl⟩)
       | (go_at_call 69;refine (aB CU _).mono ?_;rintro e wq ⟨rfl,rfl⟩)
       | (go_at_call 72;refine (aB CM).mono ?_;rintro e w4 ⟨rfl,hb4⟩;have HB4:=aA hb4;have hx4:=(hb4.block rb (by omega)).trans HX2.out;have HX4:=aA hx4;have hf4:=(hb4.block fb hfz).trans HFB.out;have q0:w4.cell? ⟨fb,0,none⟩=some (.int .i32 (cc)):=(by unfold World.cell?;rw [hf4];rfl);have q1:w4.cell? ⟨fb,1,none⟩=some (.int .i64 p1):=(by unfold World.cell?;rw [hf4];rfl);have hS4:=HS2.out.below hb4;have g0:=hS4.box.c0;have gf:=hS4.box.soft 0;have HS4:=aA hS4;clear hb4 hx4 hf4 hS4)
       | (go_at_call 73;refine (rY HS4.out).mono ?_;rintro e w3 ⟨rfl,hb3⟩;unfold eQ;have hsz:=HB4.out.size;have hx3:=(hb3.block rb (by omega)).trans HX4.out;have HS3:=aA (HS4.out.below hb3);have HG3:=aA ((kX HB4.out (some pb)).trans (kX hb3 (some pb)));have HX3:=aA hx3;have t0:w3.cell? ⟨rb,0,none⟩=some (.int .i32 0):=(by simp [World.cell?,hx3]);have t1:w3.cell? ⟨rb,1,none⟩=some (.int .i64 0):=(by simp [World.cell?,hx3]);have t2:w3.cell? ⟨rb,2,none⟩=some (.string ⟨#[]⟩):=(by simp [World.cell?,hx3]);have tt0:=fun v=>gB (v:=v) t0;have t3:∀i,w3.frozen? ⟨rb,i,none⟩=false:=(fun i=>by simp [World.frozen?,hx3]);clear hb3 hx3)
       | go_in)
      refine bodyPost_ret (by simp [results,Tryz.results43,go_sem,tt0,t1,t2];try rfl) rfl ?_
      exact HFIN.out _ (fU (fU (fU (HG2.out.trans HG3.out) hrw _) hrw _) hrw _) ⟨_,_,_,HS3.out.setTok3 HX3.out _ _ _⟩
     ·rw [hm] at CM htm
      have hlow:aC s p1 < 128:=by unfold nF at hm;simp at hm;omega
      obtain ⟨hgl,hw1⟩:=kC s p1 hlt hlow
      have hkp:cU (aC s p1)=aM s p1:=by
       rw [hgl]
       have hor:aC s p1=124∨aC s p1=126∨aC s p1=40∨aC s p1=41∨aC s p1=44∨aC s p1=46:=by unfold nF at hm;simp at hm;omega
       generalize aC s p1=bb at hor ⊢
       rcases hor with rfl | rfl | rfl | rfl | rfl | rfl <;> rfl
      have HFIN:Hid (∀w',w.grownBy w' (some pb)→(∃j m c,bB B w' pb s (p1+1) g j m c k a wd vC vP vM)→oK B pb s p f g k a wd vC vP vM w (.returned (eQ (aM s p1) p1 ⟨#[]⟩)) w'):=aA fun w' hg hS=>⟨hg,by rw [HTK.out,htm];exact ⟨by rw [←hkp],hS⟩⟩
      obtain ⟨m',c',rfl,rfl⟩:=HS2.out.more hlt
      clear hsm hlg htm hmk hm hgl hkp
      generalize aM s p1=cc at *
      have q39:(cc == 39)=false:=by simpa using hn39
      have q36:(cc == 36)=false:=by simpa using hn36
      go_wp2_with (first
       | (go_at_call 67;refine (aB CL _).mono ?_;rintro e wq ⟨rfl,rfl⟩)
       | (go_at_call 69;refine (aB CU _).mono ?_;rintro e wq ⟨rfl,rfl⟩)
       | (go_at_call 72;refine (aB CM).mono ?_;rintro e w4 ⟨rfl,hb4⟩;have HB4:=aA hb4;have hx4:=(hb4.block rb (by omega)).trans HX2.out;have hf4:=(hb4.block fb hfz).trans HFB.out;have hS4:=HS2.out.below hb4;have g0:=hS4.box.c0;have gf:=hS4.box.soft 0;have HS5:=aA (hS4.step hlt);have cY:∀u,(w4.setCell ⟨pb,0,none⟩ u).heap[rb]?=some (.cells #[.int .i32 0,.int .i64 0,.string ⟨#[]⟩] 59)∧(w4.setCell ⟨pb,0,none⟩ u).heap[fb]?=some (.cells #[.int .i32 cc,.int .i64 p1] 128):=(fun u=>⟨by rw [Below.heap_setCell _ _ _ _ (show rb≠pb by omega)];exact hx4,by rw [Below.heap_setCell _ _ _ _ (show fb≠pb by omega)];exact hf4⟩);have q0:∀u,(w4.setCell ⟨pb,0,none⟩ u).cell? ⟨fb,0,none⟩=some (.int .i32 cc):=(fun u=>by unfold World.cell?;rw [(cY u).2];rfl);have q1:∀u,(w4.setCell ⟨pb,0,none⟩ u).cell? ⟨fb,1,none⟩=some (.int .i64 p1):=(fun u=>by unfold World.cell?;rw [(cY u).2];rfl);have t0:∀u,(w4.setCell ⟨pb,0,none⟩ u).cell? ⟨rb,0,none⟩=some (.int .i32 0):=(fun u=>by unfold World.cell?;rw [(cY u).1];rfl);have t1:∀u,(w4.setCell ⟨pb,0,none⟩ u).cell? ⟨rb,1,none⟩=some (.int .i64 0):=(fun u=>by unfold World.cell?;rw [(cY u).1];rfl);have t2:∀u,(w4.setCell ⟨pb,0,none⟩ u).cell? ⟨rb,2,none⟩=some (.string ⟨#[]⟩):=(fun u=>by unfold World.cell?;rw [(cY u).1];rfl);have t3:∀u i,(w4.setCell ⟨pb,0,none⟩ u).frozen? ⟨rb,i,none⟩=false:=(fun u i=>by simp [World.frozen?,(cY u).1]);have tt0:=fun u v=>gB (v:=v) (t0 u);have HCY:=aA cY;clear hb4 hx4 hf4 hS4 cY)
       | go_in)
      refine bodyPost_ret (by simp [results,Tryz.results43,go_sem,tt0,t1,t2];try rfl) rfl ?_
      have hg5:=oT (j:=0) (HG2.out.trans (kX HB4.out (some pb))) (.slice (some ⟨g,j1 * 2+2,none⟩) (m'+1) (c'+1))
      have hS5:=HS5.out
      rw [hw1] at hS5
      exact HFIN.out _ (fU (fU (fU hg5 hrw _) hrw _) hrw _) ⟨_,_,_,hS5.setTok3 (HCY.out _).1 _ _ _⟩
 ·have hpe:p1=s.size:=by omega
  have hge:=lX s p1 hlt
  have CM:=aA (aE0 (aM s p1) w2 (zK s p1))
  rw [hge] at CM CL CU b0
  rw [show oM (-1)=false by decide] at CM
  rw [show eH (-1)=false by decide] at CL
  rw [show eD (-1)=false by decide] at CU
  rw [hge] at HFB
  have HFIN:Hid (∀w',w.grownBy w' (some pb)→(∃j m c,bB B w' pb s p1 g j m c k a wd vC vP vM)→oK B pb s p f g k a wd vC vP vM w (.returned (eQ (-1) p1 ⟨#[]⟩)) w'):=aA fun w' hg hS=>⟨hg,by rw [HN1.out,if_neg hlt,←hpe];exact ⟨rfl,hS⟩⟩
  clear hge hpe
  go_wp2_with (first
   | (go_at_call 67;refine (aB CL _).mono ?_;rintro e wq ⟨rfl,rfl⟩)
   | (go_at_call 69;refine (aB CU _).mono ?_;rintro e wq ⟨rfl,rfl⟩)
   | (go_at_call 72;refine (aB CM).mono ?_;rintro e w4 ⟨rfl,hb4⟩;have HB4:=aA hb4;have hx4:=(hb4.block rb (by omega)).trans HX2.out;have hf4:=(hb4.block fb hfz).trans HFB.out;have HX4:=aA hx4;have HS4:=aA (HS2.out.below hb4);have q0:w4.cell? ⟨fb,0,none⟩=some (.int .i32 (-1)):=(by unfold World.cell?;rw [hf4];rfl);have q1:w4.cell? ⟨fb,1,none⟩=some (.int .i64 p1):=(by unfold World.cell?;rw [hf4];rfl);have t0:w4.cell? ⟨rb,0,none⟩=some (.int .i32 0):=(by simp [World.cell?,hx4]);have t1:w4.cell? ⟨rb,1,none⟩=some (.int .i64 0):=(by simp [World.cell?,hx4]);have t2:w4.cell? ⟨rb,2,none⟩=some (.string ⟨#[]⟩):=(by simp [World.cell?,hx4]);have tt0:=fun v=>gB (v:=v) t0;have t3:∀i,w4.frozen? ⟨rb,i,none⟩=false:=(fun i=>by simp [World.frozen?,hx4]);clear hb4 hx4 hf4)
   | go_in)
  refine bodyPost_ret (by simp [results,Tryz.results43,go_sem,tt0,t1,t2];try rfl) rfl ?_
  exact HFIN.out _ (fU (fU (fU (HG2.out.trans (kX HB4.out (some pb))) hrw _) hrw _) hrw _) ⟨_,_,_,HS4.out.setTok3 HX4.out _ _ _⟩
end
theorem aL6 {s:ByteArray} {k p:Nat} (h:dZ s k=.bad p):p=k:=by
 unfold dZ at h
 repeat' split at h
 all_goals first | (cases h;done) | (simp only [Nx.bad.injEq] at h;exact h.symm)
theorem aL7 {s:ByteArray} {k p:Nat}:dZ s k≠.stop p:=by
 intro h
 unfold dZ at h
 repeat' split at h
 all_goals cases h
theorem aD4 {s:ByteArray} {k e:Nat} {t:Tk} (hp:k < s.size) (h:dZ s k=.tok t e):k < e∧e≤s.size:=by
 unfold dZ at h
 split at h
 ·rename_i hl
  split at h
  ·cases h
  ·simp only [Nx.tok.injEq] at h
   rw [←h.2]
   exact ⟨aPk hp hl,aF2 (by omega)⟩
 ·split at h
  ·split at h
   ·rename_i n e' hq
    simp only [Nx.tok.injEq] at h
    rw [←h.2]
    have:=aPj hq
    omega
   ·cases h
  ·split at h
   ·split at h
    ·rename_i hc
     simp only [Nx.tok.injEq] at h
     rw [←h.2]
     omega
    ·cases h
   ·split at h
    ·simp only [Nx.tok.injEq] at h
     rw [←h.2]
     omega
    ·cases h
theorem aL8 (s:ByteArray):∀n f g q,s.size+1 - q≤n→q≤s.size→s.size < q+f→s.size < q+g→bU s f q=bU s g q:=by
 intro n
 induction n with
 | zero=>intro f g q h hq;omega
 | succ n ih=>
  intro f g q h hq hf hg
  obtain ⟨f',rfl⟩ : ∃f',f=f'+1:=⟨f - 1,by omega⟩
  obtain ⟨g',rfl⟩ : ∃g',g=g'+1:=⟨g - 1,by omega⟩
  rw [bU,bU]
  by_cases hp:q < s.size
  ·rw [if_pos hp,if_pos hp]
   by_cases hgp:mD (aC s q)=true
   ·rw [if_pos hgp,if_pos hgp]
    exact ih _ _ _ (by omega) (by omega) (by omega) (by omega)
   ·rw [if_neg hgp,if_neg hgp]
    by_cases h37:aC s q=37
    ·rw [if_pos h37,if_pos h37]
     have h1:=wR hp h37
     have h2:=aAh (s:=s) (p:=q) hq
     exact ih _ _ _ (by omega) h2 (by omega) (by omega)
    ·rw [if_neg h37,if_neg h37]
     cases ht:dZ s q with
     | tok t e=>
      obtain ⟨h1,h2⟩:=aD4 hp ht
      simp only
      rw [ih f' g' e (by omega) h2 (by omega) (by omega)]
     | bad p=>rfl
     | stop p=>rfl
  ·rw [if_neg hp,if_neg hp]
def dR (s:ByteArray) (q:Nat):List Tk:=dM (bU s (s.size+1 - q) q)
theorem vU {s:ByteArray} {q f:Nat} (hq:q≤s.size) (hf:s.size < q+f):dM (bU s f q)=dR s q:=by
 unfold dR
 rw [aL8 s _ f (s.size+1 - q) q (Nat.le_refl _) hq hf (by omega)]
theorem aL9 (s:ByteArray):∀n f q,s.size+1 - q≤n→q≤s.size→s.size < q+f→
  match oS s f q with
  | .tok t e=>dR s q=t :: dR s e∧e≤s.size∧t.kind≠101∧t.kind≠63
  | .bad p=>dR s q=[⟨63,⟨#[]⟩,p⟩]∧p≤s.size
  | .stop p=>dR s q=[⟨101,⟨#[]⟩,p⟩]∧p≤s.size:=by
 intro n
 induction n with
 | zero=>intro f q h hq;omega
 | succ n ih=>
  intro f q h hq hf
  obtain ⟨f',rfl⟩ : ∃f',f=f'+1:=⟨f - 1,by omega⟩
  rw [oS,←vU hq hf,bU]
  by_cases hp:q < s.size
  ·rw [if_pos hp,if_pos hp]
   by_cases hgp:mD (aC s q)=true
   ·rw [if_pos hgp,if_pos hgp,vU (q:=q+1) (by omega) (by omega)]
    exact ih _ _ (by omega) (by omega) (by omega)
   ·rw [if_neg hgp,if_neg hgp]
    by_cases h37:aC s q=37
    ·rw [if_pos h37,if_pos h37]
     have h1:=wR hp h37
     have h2:=aAh (s:=s) (p:=q) hq
     rw [vU h2 (by omega)]
     exact ih _ _ (by omega) h2 (by omega)
    ·rw [if_neg h37,if_neg h37]
     cases ht:dZ s q with
     | tok t e=>
      obtain ⟨h1,h2⟩:=aD4 hp ht
      simp only
      refine ⟨?_,h2,aFk ht⟩
      rw [←vU h2 (show s.size < e+f' by omega)]
      rfl
     | bad p=>
      have hpq:p=q:=aL6 ht
      subst hpq
      exact ⟨rfl,hq⟩
     | stop p=>exact absurd ht aL7
  ·rw [if_neg hp,if_neg hp]
   exact ⟨rfl,hq⟩
def fK:List Nat:=[110,118,102,101,63,124,126,40,41,44,46]
theorem zA:∀a∈fK,∀b∈fK,cU a=cU b→a=b:=by decide
theorem aLa {s:ByteArray} {k e:Nat} {t:Tk} (h:dZ s k=.tok t e):t.kind∈fK:=by
 unfold dZ at h
 split at h
 ·split at h
  ·cases h
  ·simp only [Nx.tok.injEq] at h
   rw [←h.1]
   simp only
   split <;> decide
 ·split at h
  ·split at h
   ·simp only [Nx.tok.injEq] at h
    rw [←h.1]
    show (110:Nat)∈fK
    decide
   ·cases h
  ·split at h
   ·split at h
    ·simp only [Nx.tok.injEq] at h
     rw [←h.1]
     show (102:Nat)∈fK
     decide
    ·cases h
   ·split at h
    ·rename_i hm
     simp only [Nx.tok.injEq] at h
     rw [←h.1]
     simp only
     generalize aC s k=b at hm ⊢
     have hor:b=124∨b=126∨b=40∨b=41∨b=44∨b=46:=by unfold nF at hm;simp at hm;omega
     rcases hor with rfl | rfl | rfl | rfl | rfl | rfl <;> decide
    ·cases h
theorem aLb (s:ByteArray):∀f k,∀t∈(bU s f k).1,t.kind∈fK:=by
 intro f
 induction f with
 | zero=>intro k;simp [bU]
 | succ f ih=>
  intro k
  rw [bU]
  split
  ·split
   ·exact ih _
   ·split
    ·exact ih _
    ·split
     ·rename_i t e ht
      intro u hu
      rcases List.mem_cons.1 hu with rfl | hu
      ·exact aLa ht
      ·exact ih _ u hu
     ·simp
  ·intro t ht
   simp at ht
   rw [ht]
   show (101:Nat)∈fK
   decide
theorem aLc {r:List Tk×Option Nat} (h:∀t∈r.1,t.kind∈fK):∀t∈dM r,t.kind∈fK:=by
 obtain ⟨L,b⟩:=r
 intro t ht
 unfold dM at ht
 rcases List.mem_append.1 ht with ht | ht
 ·exact h t ht
 ·cases b with
  | none=>simp at ht
  | some p=>
   simp at ht
   rw [ht]
   show (63:Nat)∈fK
   decide
theorem aLd (s:ByteArray) (q i:Nat):(aD (dR s q) i).kind∈fK:=by
 unfold aD
 by_cases h:i < (dR s q).length
 ·rw [List.getD_eq_getElem?_getD,List.getElem?_eq_getElem h,Option.getD_some]
  exact aLc (aLb s _ _) _ (List.getElem_mem _)
 ·rw [List.getD_eq_getElem?_getD,List.getElem?_eq_none (by omega)]
  decide
theorem aLe {T r:List Tk} {i:Nat} {t:Tk} (h:T.drop i=t :: r):i < T.length∧aD T i=t∧T.drop (i+1)=r:=by
 have hl:i < T.length:=Classical.byContradiction fun hn=>by rw [List.drop_of_length_le (by omega)] at h;cases h
 rw [List.drop_eq_getElem_cons hl] at h
 simp only [List.cons.injEq] at h
 exact ⟨hl,by unfold aD;rw [List.getD_eq_getElem?_getD,List.getElem?_eq_getElem hl];exact h.1,h.2⟩
section
variable {w:World} {pb:Nat} {left:Value} {k a:Int} {wd:ByteArray} {vC vP vM:Value}
theorem bF.setTok (h:bF w pb left k a wd vC vP vM) (k' a':Int) (wd':ByteArray):bF (((w.setCell ⟨pb,1,none⟩ (.int .i32 k')).setCell ⟨pb,2,none⟩ (.int .i64 a')).setCell ⟨pb,3,none⟩ (.string wd')) pb left k' a' wd' vC vP vM:=by
 have h1:bF (w.setCell ⟨pb,1,none⟩ (.int .i32 k')) pb left k' a wd vC vP vM:=heap_setCell_same w pb 1 _ _ _ h
 have h2:bF ((w.setCell ⟨pb,1,none⟩ (.int .i32 k')).setCell ⟨pb,2,none⟩ (.int .i64 a')) pb left k' a' wd vC vP vM:=heap_setCell_same _ pb 2 _ _ _ h1
 exact heap_setCell_same _ pb 3 _ _ _ h2
theorem bF.rows (h:bF w pb left k a wd vC vP vM) (k' a':Int) (wd':ByteArray) {B:Nat} {e:TypeId} {size:Nat} {v:Value} {n:Nat} {xs:List Value} (ho:w.ownsRow B e size v n xs) (he:e≠66):(((w.setCell ⟨pb,1,none⟩ (.int .i32 k')).setCell ⟨pb,2,none⟩ (.int .i64 a')).setCell ⟨pb,3,none⟩ (.string wd')).ownsRow B e size v n xs:=by
 have h1:bF (w.setCell ⟨pb,1,none⟩ (.int .i32 k')) pb left k' a wd vC vP vM:=heap_setCell_same w pb 1 _ _ _ h
 have h2:bF ((w.setCell ⟨pb,1,none⟩ (.int .i32 k')).setCell ⟨pb,2,none⟩ (.int .i64 a')) pb left k' a' wd vC vP vM:=heap_setCell_same _ pb 2 _ _ _ h1
 exact h2.row (h1.row (h.row ho he 1 _) he 2 _) he 3 _
end
structure PP (B:Nat) (w:World) (pb:Nat) (s:ByteArray) (T:List Tk) (i g q j m c:Nat) (vC vP vM:Value):Prop where
 sc:bB B w pb s q g j m c (cU (aD T i).kind) (aD T i).pos (aD T i).txt vC vP vM
 lt:i < T.length
 on:(aD T i).kind≠101→(aD T i).kind≠63→dR s q=T.drop (i+1)
def cL (B:Nat) (w:World) (pb:Nat) (s:ByteArray) (T:List Tk) (i g:Nat) (vC vP vM:Value):Prop:=∃q j m c,PP B w pb s T i g q j m c vC vP vM
theorem aD5 {B:Nat} {w w1:World} {pb:Nat} {s:ByteArray} {T:List Tk} {i g q:Nat} {k a:Int} {wd:ByteArray} {vC vP vM:Value} {e:Ending} {f:Nat} (hq:q≤s.size) (hf:s.size < q+f) (hT:dR s q=T.drop i) (hr:oK B pb s q f g k a wd vC vP vM w e w1) :
  e=.returned (.agg #[.int .i32 (cU (aD T i).kind),.int .i64 (aD T i).pos,.string (aD T i).txt])∧w.grownBy w1 (some pb)∧(∃left,bF w1 pb left k a wd vC vP vM)∧
  cL B (((w1.setCell ⟨pb,1,none⟩ (.int .i32 (cU (aD T i).kind))).setCell ⟨pb,2,none⟩ (.int .i64 (aD T i).pos)).setCell ⟨pb,3,none⟩ (.string (aD T i).txt)) pb s T i g vC vP vM:=by
 obtain ⟨hg,hr⟩:=hr
 have hn:=aL9 s _ f q (Nat.le_refl _) hq hf
 have fin:∀(t:Tk) (q':Nat) (r:List Tk),T.drop i=t :: r→(t.kind≠101→t.kind≠63→dR s q'=r)→e=.returned (eQ (cU t.kind) t.pos t.txt)→(∃j m c,bB B w1 pb s q' g j m c k a wd vC vP vM)→e=.returned (.agg #[.int .i32 (cU (aD T i).kind),.int .i64 (aD T i).pos,.string (aD T i).txt])∧w.grownBy w1 (some pb)∧(∃left,bF w1 pb left k a wd vC vP vM)∧cL B (((w1.setCell ⟨pb,1,none⟩ (.int .i32 (cU (aD T i).kind))).setCell ⟨pb,2,none⟩ (.int .i64 (aD T i).pos)).setCell ⟨pb,3,none⟩ (.string (aD T i).txt)) pb s T i g vC vP vM:=by
  intro t q' r hd hon he hS
  obtain ⟨hl,htk,hdr⟩:=aLe hd
  obtain ⟨j,m,c,hS⟩:=hS
  rw [htk]
  refine ⟨he,hg,⟨_,hS.box⟩,q',j,m,c,⟨?_,hl,?_⟩⟩
  ·rw [htk]
   exact ⟨hS.box.setTok _ _ _,hS.high,hS.box.rows _ _ _ hS.row (by decide),hS.len,hS.drop,hS.le⟩
  ·rw [htk,hdr];exact hon
 cases hx:oS s f q with
 | tok t e'=>
  rw [hx] at hr hn
  obtain ⟨n1,_,_,_⟩:=hn
  exact fin t e' _ (by rw [←hT,n1]) (fun _ _=>rfl) hr.1 hr.2
 | bad p=>
  rw [hx] at hr hn
  exact fin ⟨63,⟨#[]⟩,p⟩ p [] (by rw [←hT,hn.1]) (fun _ h=>absurd rfl h) hr.1 hr.2
 | stop p=>
  rw [hx] at hr hn
  exact fin ⟨101,⟨#[]⟩,p⟩ p [] (by rw [←hT,hn.1]) (fun h _=>absurd rfl h) hr.1 hr.2
set_option maxHeartbeats 2000000 in
theorem kB {B:Nat} {w:World} {pb:Nat} {s:ByteArray} {T:List Tk} {i g:Nat} {vC vP vM:Value} (kd:Nat) (hkd:kd∈fK) (h101:kd≠101) (h63:kd≠63) (hT:∀i,(aD T i).kind∈fK) (hs:s.size≤3000) (h:cL B w pb s T i g vC vP vM) :
  Calls Tryz.prog 74 #[.pointer (some ⟨pb,0,none⟩),.int .i32 (cU kd)] w fun e w'=>e=.returned (.bool (decide ((aD T i).kind=kd)))∧w.grownBy w' (some pb)∧cL B w' pb s T (if (aD T i).kind=kd then i+1 else i) g vC vP vM:=by
 obtain ⟨q,j,m,c,hP⟩:=h
 have d1:=hP.sc.box.c1
 by_cases hk:(aD T i).kind=kd
 ·rw [if_pos hk,decide_eq_true hk]
  have CN:=aA ((aD3 (s.size+1) hP.sc hs (by omega)).mono fun e w1 hr=>aD5 hP.sc.le (by omega) (hP.on (by rw [hk];exact h101) (by rw [hk];exact h63)) hr)
  rw [hk] at d1 CN
  clear hk hP
  generalize cU kd=K at *
  generalize aD T (i+1)=t at CN
  obtain ⟨tk,tx,tp⟩:=t
  simp only at CN
  go_enter Tryz.func74,Tryz.ntmps74
  go_wp2_with (first
   | (go_at_call 43;refine (aB CN).mono ?_;rintro e w1 ⟨rfl,hg1,⟨left,hb1⟩,hP1⟩;have e1:=hb1.c1;have e2:=hb1.c2;have e3:=hb1.c3;have ef:=hb1.soft;have HG1:=aA hg1;have HP1:=aA hP1;clear hg1 hP1 hb1)
   | go_in)
  go_ret
  exact ⟨rfl,oT (oT (oT HG1.out _) _) _,HP1.out⟩
 ·rw [if_neg hk,decide_eq_false hk]
  have hne:(cU (aD T i).kind != cU kd)=true:=by simp;exact fun e=>hk (zA _ (hT i) _ hkd e)
  have HP:=aA hP
  clear hP
  go_enter Tryz.func74,Tryz.ntmps74
  go_wp2
  go_ret
  exact ⟨rfl,World.grownBy.refl _ _,q,j,m,c,HP.out⟩
end Go.Proofs.YtbddofieljiihaaGreatDoor
