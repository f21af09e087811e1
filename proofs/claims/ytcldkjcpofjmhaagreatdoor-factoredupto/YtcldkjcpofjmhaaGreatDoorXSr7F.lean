import Derived.Test.YtcldkjcpofjmhaaGreatDoorXSr4F
import Derived.Test.YtcldkjcpofjmhaaGreatDoorPCopy0F
open List renaming mem_cons_of_mem→zx,length_eq_zero_iff→zv,mem_append→zt
open Nat renaming le_refl→zz,le_trans→zu
namespace Go.Proofs.YtcldkjcpofjmhaaGreatDoor
open World renaming cell?→zy
set_option maxHeartbeats 8000000
set_option maxRecDepth 100000
open Go.RowKit Go.Shelf Go.WideMaps
variable{L:List Cd}{ks:List Nat}{n:Nat}
def aAu(x:Cd)(r a b i j:Nat):Prop:=x.r=r/\x.a=a/\x.b=b/\x.i=i/\x.j=j
inductive iH(lim:Nat)(Q:Nat->List (aN×Value)->List Nat->Bool->Prop):List Cd->Nat->List (aN×Value)->List Nat->Bool->Prop
 | sat {L:List Cd} {n:Nat} {T:List (aN×Value)} {ks:List Nat} (hcv:∀x∈L,∀k∈ks,lA (aQ T k) x.c) (h:jB (λc=>ks.any λk=>cD (aQ T k) c) L.length L=none) (hq:Q 2 T ks false):iH lim Q L n T ks false
 | unsat {L L':List Cd} {n:Nat} {T:List (aN×Value)} {ks:List Nat} {b:Bool} {x:Cd} (s:aN) (hs:aAu x s.r s.a s.b s.i s.j/\x.c=s.c) (hcv:∀x∈L,∀k∈ks,lA (aQ T k) x.c) (h:jB (λc=>ks.any λk=>cD (aQ T k) c) L.length L=some (x,L')) (hc:s.c=[]) (hq:Q 1 (T++[(s,.slice x.ad x.ln x.cp)]) ks b):iH lim Q L n T ks b
 | out {L L':List Cd} {n:Nat} {T:List (aN×Value)} {ks:List Nat} {b:Bool} {x:Cd} (hcv:∀x∈L,∀k∈ks,lA (aQ T k) x.c) (h:jB (λc=>ks.any λk=>cD (aQ T k) c) L.length L=some (x,L')) (hc:x.c≠[]) (hl:T.length=lim) (hq:Q 3 T ks b):iH lim Q L n T ks b
 | take {L L':List Cd} {n:Nat} {T:List (aN×Value)} {ks:List Nat} {b:Bool} {x:Cd} (s:aN) (hs:aAu x s.r s.a s.b s.i s.j/\x.c=s.c) (hcv:∀x∈L,∀k∈ks,lA (aQ T k) x.c) (h:jB (λc=>ks.any λk=>cD (aQ T k) c) L.length L=some (x,L')) (hc:s.c≠[]) (hl:T.length≠lim) (hdv:∀k∈ks,lA s.c (aQ T k))
  (hF:∀y∈jV (T++[(s,.slice x.ad x.ln x.cp)]) T.length (dL T ks s.c),aAr y.1.c/\(y.2=0->dP y.1.c=true->dI y.1.c=true))
  (hLF:L'.length+(jV (T++[(s,.slice x.ad x.ln x.cp)]) T.length (dL T ks s.c)).length<=1000000) (hnF:n+(jV (T++[(s,.slice x.ad x.ln x.cp)]) T.length (dL T ks s.c)).length<=1000000)
  (next:∀L2 n2 b2,bX (jV (T++[(s,.slice x.ad x.ln x.cp)]) T.length (dL T ks s.c)) L' n b L2 n2 b2->iH lim Q L2 n2 (T++[(s,.slice x.ad x.ln x.cp)]) (dL T ks s.c) b2):iH lim Q L n T ks b
theorem bX.mem:∀(F:List (aN×Int)) {L L1:List Cd} {n n1:Nat} {b b1:Bool},bX F L n b L1 n1 b1->∀y∈L1,y∈L\/∃x∈F,x.2=0/\dP x.1.c=true/\y.c=x.1.c
 | [],L,L1,n,n1,b,b1,h,y,hy=>by
  obtain ⟨rfl,rfl,rfl⟩:=h;exact Or.inl hy
 | x :: F,L,L1,n,n1,b,b1,h,y,hy=>by
  unfold bX at h;split at h
  ·rcases bX.mem F h y hy with h1 | ⟨z,h1,h2⟩
   ·exact Or.inl h1
   ·exact Or.inr ⟨z,zx _ h1,h2⟩
  ·rename_i hc;have hc1:x.2=0:=Classical.byContradiction λe=>hc (Or.inl e)
   have hc2:dP x.1.c=true:=by
    cases hf:dP x.1.c
    ·exact absurd (Or.inr hf) hc
    ·rfl
   split at h
   ·rcases bX.mem F h y hy with h1 | ⟨z,h1,h2⟩
    ·exact Or.inl h1
    ·exact Or.inr ⟨z,zx _ h1,h2⟩
   ·obtain ⟨ad,cp,h⟩:=h;rcases bX.mem F h y hy with h1 | ⟨z,h1,h2⟩
    ·rcases zt.1 (aE7 _ _ _ _ h1) with h3 | h3
     ·exact Or.inl h3
     ·simp at h3;subst h3;exact Or.inr ⟨x,by simp,hc1,hc2,rfl⟩
    ·exact Or.inr ⟨z,zx _ h1,h2⟩
theorem aEb{cov:List Lt->Bool}:∀(f:Nat) {L L':List Cd} {x:Cd},jB cov f L=some (x,L')->x∈L/\(∀y∈L',y∈L)/\cov x.c=false
 | 0,L,L',x,h=>by cases h
 | f+1,[],L',x,h=>by cases h
 | f+1,z :: r,L',x,h=>by
  unfold jB at h;simp only at h;split at h
  ·obtain ⟨h1,h2,h3⟩:=aEb f h;exact ⟨yC h1,λy hy=>yC (h2 y hy),h3⟩
  ·rename_i hc;cases h;exact ⟨by simp,λy hy=>yC hy,by simpa using hc⟩
theorem aZr{T:List (aN×Value)}{c:List Lt}(h:∀k∈ks,k<T.length)(p:aN×Value):∀k∈dL T ks c,k<(T++[p]).length:=λk hk=>by
 simp [dL] at hk;simp;rcases hk with ⟨hk,_⟩ | rfl
 ·have:=h k hk;omega
 ·omega
theorem aZs(T:List (aN×Value))(ks:List Nat)(c:List Lt):(dL T ks c).length<=ks.length+1:=by have:=List.length_filter_le (λk=>!cD c (aQ T k)) ks;simp [dL];exact this
structure aAv(L:List Cd)(n:Nat)(T:List (aN×Value))(ks:List Nat):Prop where
 l:∀x∈L,dI x.c=true
 t:∀p∈T,dI p.1.c=true
 k:∀k∈ks,k<T.length
 kl:ks.length<=T.length
 ll:L.length<=1000000
 nn:n<=1000000
theorem aAv.take{L' L2:List Cd}{n2:Nat}{T:List (aN×Value)}{b b2:Bool}{x:Cd}{cov:List Lt->Bool}{f:Nat}(h:aAv L n T ks)(s:aN)(v:Value)(hs:x.c=s.c)(hn:jB cov f L=some (x,L')){F:List (aN×Int)}(hF:∀y∈F,aAr y.1.c/\(y.2=0->dP y.1.c=true->dI y.1.c=true))(hLF:L'.length+F.length<=1000000)(hnF:n+F.length<=1000000)(ht:bX F L' n b L2 n2 b2):aAv L2 n2 (T++[(s,v)]) (dL T ks s.c):=by
 obtain ⟨h1,h2,_⟩:=aEb _ hn;have hlen:=ht.len;refine ⟨λy hy=>?_,λp hp=>?_,aZr h.k _,?_,by omega,by omega⟩
 ·rcases ht.mem _ y hy with h3 | ⟨z,h3,h4,h5,h6⟩
  ·exact h.l y (h2 y h3)
  ·rw [h6];exact (hF z h3).2 h4 h5
 ·rcases zt.1 hp with hp | hp
  ·exact h.t p hp
  ·simp at hp;subst hp;show dI s.c=true;rw [<-hs];exact h.l x h1
 ·have:=aZs T ks s.c;have:=h.kl;simp;omega
def yD(w:World)(sb:Nat):Nat:=match w.cell? ⟨sb,2,none⟩ with | some (.slice _ n _)=>n | _=>0
theorem bI.steps{B:Nat}{W:World}{sb hp:Nat}{v vs vk:Value}{T:List (aN×Value)}{big:Bool}(h:bI B W sb hp v vs vk L n T ks big):yD W sb=T.length:=by obtain ⟨a,c,rfl⟩:=aS h.st.row;unfold yD;rw [h.cells.2.2.1]
def aZt(B sb hp lim:Nat)(Q:Nat->List (aN×Value)->List Nat->Bool->Prop)(w:World)(e:Ending)(w':World):Prop:=
 ∃(vd:Nat) (v' vs' vk':Value) (L':List Cd) (n':Nat) (T':List (aN×Value)) (ks':List Nat) (b':Bool),e=.returned (.int .i64 vd)/\bI B w' sb hp v' vs' vk' L' n' T' ks' b'/\Q vd T' ks' b'/\T'.length<=lim+1/\Mv oB B w w'
def aAw(B sb hp lim:Nat)(Q:Nat->List (aN×Value)->List Nat->Bool->Prop)(w wr:World):Prop:=
 ∃(v vs vk:Value) (L:List Cd) (n:Nat) (T:List (aN×Value)) (ks:List Nat) (b:Bool),bI B wr sb hp v vs vk L n T ks b/\iH lim Q L n T ks b/\aAv L n T ks/\T.length<=lim/\Mv oB B w wr/\B<=wr.heap.size
theorem bI.onest{B:Nat}{w w':World}{sb hp:Nat}{v vs vk vs':Value}{T:List (aN×Value)}{big:Bool}{p:aN×Value}(h:bI B w sb hp v vs vk L n T ks big)(hg:w.grownBy w' vs.ownBlock)(hp2:bM B w p.2 p.1.c)(hs:w'.ownsRow B 71 6 vs' (T.length+1) (jU T++kX p)) :
  w'.cell? ⟨sb,2,none⟩=some vs/\w'.frozen? ⟨sb,2,none⟩=false/\bI B (w'.setCell ⟨sb,2,none⟩ vs') sb hp v vs' vk L n (T++[p]) ks big/\Mv [119,71] B w (w'.setCell ⟨sb,2,none⟩ vs'):=by
 have hm:Mv [71] B w w':=aE9 h.st.row hg (by simp);have hbx:=hm.cells h.box (by decide);have hlt:=(Array.getElem?_eq_some_iff.1 hbx).1;have hm2:Mv [119] B w' (w'.setCell ⟨sb,2,none⟩ vs'):=Mv.of_grown (bR w' ⟨sb,2,none⟩ _) (λk hk=>by cases hk;exact ⟨h.base,_,_,hbx,by simp⟩);have hall:Mv [119,71] B w (w'.setCell ⟨sb,2,none⟩ vs'):=(hm.mono (by decide) (zz _)).trans (hm2.mono (by decide) (zz _));refine ⟨by simp [zy,hbx],by simp [World.frozen?,hbx],⟨?_,⟨hall.cells h.heap.box (by decide),hall.row h.heap.row (by decide),h.heap.base⟩,⟨?_,λq hq=>?_⟩,hall.row h.kp (by decide),λy hy=>⟨hall.clause (h.cl y hy).1 (by decide) (by decide),(h.cl y hy).2⟩,h.base⟩,hall⟩
 ·show (w'.heap.modify sb _)[sb]?=_;rw [Array.getElem?_eq_getElem (by rw [Array.size_modify];exact hlt),Array.getElem_modify_self,(Array.getElem?_eq_some_iff.1 hbx).2];rfl
 ·have:=hm2.row hs (by decide);simpa [jU] using this
 ·rcases zt.1 hq with hq | hq
  ·exact hall.clause (h.st.cl q hq) (by decide) (by decide)
  ·simp at hq;subst hq;exact hall.clause hp2 (by decide) (by decide)
theorem iH.cv{lim:Nat}{Q:Nat->List (aN×Value)->List Nat->Bool->Prop}{T:List (aN×Value)}{b:Bool}(h:iH lim Q L n T ks b):∀x∈L,∀k∈ks,lA (aQ T k) x.c:=by cases h <;> assumption
theorem aZu(B sb hp lim:Nat)(Q:Nat->List (aN×Value)->List Nat->Bool->Prop)(w:World)(h:aAw B sb hp lim Q w w)(hlim:lim<=100) :
  Calls Tryz.prog 40 #[.pointer (some ⟨sb,0,none⟩),.int .i64 (lim:Nat)] w λe w'=>aZt B sb hp lim Q w e w':=by
 have HH:=aA h;clear h;go_enter Tryz.func40,Tryz.ntmps40;go_wp2;go_loopw [] (λwr=>aAw B sb hp lim Q w wr) (λwr=>lim-yD wr sb);case atStart=>exact HH.out
 case round=>
  obtain ⟨v,vs,vk,L,n,T,ks,b,hI,hM,hO,hT,hmv,hB⟩:=hrel;have hkl:=hO.kl;have CN:=aA (aZo B sb hp v vs vk L n T ks b wr hI hM.cv hO.k (by omega) hO.ll hB);have hst:=hI.steps;have HST:=aA hst;have HM:=aA hM;have HO:=aA hO;have HMV:=aA hmv;clear hI hM hO hmv hst HH;go_wp2_with (first
   | (go_at_call 64;refine (aB CN).mono ?_)
   | go_in)
  clear CN;rintro e w2 ⟨v2,hm2,⟨hn,rfl,hS2⟩ | ⟨x,L',hn,rfl,hS2,hc,hln⟩⟩
  ·have hb:b=false/\Q 2 T ks false:=by
    cases HM.out with
    | sat _ h hq=>exact ⟨rfl,hq⟩
    | unsat s hs _ h=>rw [hn] at h;cases h
    | out _ h=>rw [hn] at h;cases h
    | take s hs _ h=>rw [hn] at h;cases h
   obtain ⟨rfl,hq⟩:=hb;have hbA:Below w2.heap.size w2 (w2.alloc (.cells #[.int .i64 0,.int .i64 0,.int .i64 0,.int .i64 0,.int .i64 0,.slice none 0 0] 71)):=(Below.refl _ w2).alloc (zz _) _;have hS3:=hS2.below hbA;have CC:=aA (aRz B sb hp v2 vs vk [] n T ks _ hS3);have HS3:=aA hS3;have HBA:=aA hbA;have HM2:=aA hm2;have HQ:=aA hq;unfold sY gY;clear hS3 hbA hm2 hS2 hn hq HM HO HST;go_wp2_with (first
    | (go_at_call 65;refine (aB CC).mono ?_;rintro e w3 ⟨rfl,hb3⟩;have HB3:=aA hb3;clear hb3)
    | go_in)
   go_ret;exact ⟨2,_,_,_,_,_,_,_,_,rfl,HS3.out.below HB3.out,HQ.out,by omega,((HMV.out.trans (HM2.out.mono (by decide) (zz _))).trans (Mv.of_below HBA.out)).trans (Mv.of_below HB3.out)⟩
  ·obtain ⟨xr,xa,xb,xi,xj,ad,ln,cp,wt,nm,xc⟩:=x;simp only at hc hln;subst hln;obtain ⟨va,vc,rfl⟩:=aS hS2.st.row;have HMV2:=aA (HMV.out.trans (hm2.mono (S':=oB) (by decide) (zz _)));have hB2:B<=w2.heap.size:=zu hB hm2.size;unfold sY;clear hm2 HMV;cases HM.out with
   | sat _ h hq=>rw [hn] at h;cases h
   | out _ h hc0 hl hq=>
    rw [hn] at h;cases h;have hbA:∀o,Below w2.heap.size w2 (w2.alloc o):=λo=>(Below.refl _ w2).alloc (zz _) _
    have c2:∀o,(w2.alloc o).cell? ⟨sb,2,none⟩=some (.slice va T.length vc):=λo=>(hS2.below (hbA o)).cells.2.2.1
    have hxz:((xc.length:Int) == 0)=false:=by
     have:xc.length≠0:=λe=>hc0 (zv.1 e)
     simpa using this
    have HS2:=aA hS2;have HQ:=aA hq;have HBA:=aA hbA;clear hS2 hn hq HM HO HST hbA hc hc0;rw [hl] at c2;go_wp2;go_ret;exact ⟨3,_,_,_,_,_,_,_,_,rfl,HS2.out.below (HBA.out _),HQ.out,by omega,HMV2.out.trans (Mv.of_below (HBA.out _))⟩
   | unsat s hs _ h hc0 hq=>
    rw [hn] at h;cases h;obtain ⟨r,a,b',i,j,c⟩:=s;simp only [aAu] at hs;obtain ⟨⟨rfl,rfl,rfl,rfl,rfl⟩,rfl⟩:=hs;simp only at hc0 hq;subst hc0;have hTl:T.length<=1000:=by omega
    have HC:=aA hc;have HS2:=aA hS2;have HQ:=aA hq;simp only [List.length_nil] at *;clear hS2 hn HM HO HST hc hq;go_upto_region 7 with (fail);obtain ⟨w3,hw3,hb3,hx3⟩ : ∃w3,w2.alloc (.cells #[.int .i64 r,.int .i64 a,.int .i64 b',.int .i64 i,.int .i64 j,.slice ad 0 cp] 71)=w3/\Below w2.heap.size w2 w3/\w3.heap[w2.heap.size]?=some (.cells #[.int .i64 r,.int .i64 a,.int .i64 b',.int .i64 i,.int .i64 j,.slice ad 0 cp] 71 (0,0)):=⟨_,rfl,(Below.refl _ w2).alloc (zz _) _,World.alloc_heap_new w2 _⟩;simp only [hw3];clear hw3;have hI:=HS2.out.below hb3;have c2:=hI.cells.2.2.1;have c2a:∀o,(w3.alloc o).cell? ⟨sb,2,none⟩=some (.slice va T.length vc):=λo=>Below.at' ((Below.refl _ w3).alloc (zz _) o) (zz _) c2
    have b0:w3.cell? ⟨w2.heap.size,0,none⟩=some (.int .i64 r):=by simp [zy,hx3]
    have b1:w3.cell? ⟨w2.heap.size,1,none⟩=some (.int .i64 a):=by simp [zy,hx3]
    have b2:w3.cell? ⟨w2.heap.size,2,none⟩=some (.int .i64 b'):=by simp [zy,hx3]
    have b3:w3.cell? ⟨w2.heap.size,3,none⟩=some (.int .i64 i):=by simp [zy,hx3]
    have b4:w3.cell? ⟨w2.heap.size,4,none⟩=some (.int .i64 j):=by simp [zy,hx3]
    have b5:w3.cell? ⟨w2.heap.size,5,none⟩=some (.slice ad 0 cp):=by simp [zy,hx3]
    have hs3:=hb3.size;have hId:=hI.below (aI ⟨1,rfl⟩);have hrow:w3.drew.ownsRow B 71 6 (.slice va T.length vc) T.length (jU T):=hId.st.row;have HI:=aA hId;have HB3:=aA hb3;have hmix:Tryz.prog.follows .mixedOrders=true:=by kernel_rfl
    have HCM:=aA ((HC.out.below hb3).below (aI ⟨1,rfl⟩));clear hI hx3 hId hb3 HC HS2;refine tV ?_;go_region_law (refine nM ?g1 (.tmp 31) (.tmp 33) 45 71 ?g2 (.agg #[.int .i64 0,.int .i64 0,.int .i64 0,.int .i64 0,.int .i64 0,.slice none 0 0]) 6 64 Tryz.underlying45 aAs ?g3 ?g4 ?g5 B _ T.length (jU T) ?g6 (hrow.alloc _) ?g7 ?g8 w3.heap.size 1 (kX (⟨r,a,b',i,j,[]⟩,.slice ad 0 cp)) ?g9 ?g10 (aI8 w3.drew #[.int .i64 r,.int .i64 a,.int .i64 b',.int .i64 i,.int .i64 j,.slice ad 0 cp] 71) (aAt (⟨r,a,b',i,j,[]⟩,.slice ad 0 cp) rfl) ?_;(case g1=>rfl);(case g2=>rfl);(case g3=>rfl);(case g4=>decide);(case g5=>decide);(case g6=>rfl);(case g7=>omega);(case g8=>simp;omega);(case g9=>rfl);(case g10=>rfl);intro v4 w4 ho4 hg4;obtain ⟨d0,f0,hI4,hm4⟩:=bI.onest (p:=(⟨r,a,b',i,j,[]⟩,.slice ad 0 cp)) (HI.out.below ((Below.refl _ w3.drew).alloc (zz _) _)) hg4 (HCM.out.below ((Below.refl _ w3.drew).alloc (zz _) _)) ho4;have HI4:=aA hI4;have HM4:=aA hm4;obtain ⟨va4,vc4,rfl⟩:=aS ho4;clear ho4 hg4 hI4 hm4);all_goals
     refine qT ?_;have HM5:=aA ((HMV2.out.trans (Mv.of_below (HB3.out.trans (((aI (w1:=w3.drew) ⟨1,rfl⟩).alloc (zz _) (.cells #[.int .i64 r,.int .i64 a,.int .i64 b',.int .i64 i,.int .i64 j,.slice ad 0 cp] 71)).mono hs3)))).trans (HM4.out.mono (S':=oB) (by decide) (zz _)));clear d0 f0 HM4 HI HB3 b0 b1 b2 b3 b4 b5 c2 c2a hrow HCM HMV2;go_wp2_with fail;go_ret;exact ⟨1,_,_,_,_,_,_,_,_,rfl,HI4.out,HQ.out,by simp;omega,HM5.out⟩
   | take s hs _ h hc0 hl hdv hF hLF hnF next=>
    rw [hn] at h;cases h;obtain ⟨r,a,b',i,j,c⟩:=s;simp only [aAu] at hs;obtain ⟨⟨rfl,rfl,rfl,rfl,rfl⟩,rfl⟩:=hs;simp only at hc0 hdv hF hLF hnF next
    have hbA:∀o,Below w2.heap.size w2 (w2.alloc o):=λo=>(Below.refl _ w2).alloc (zz _) _
    have c2:∀o,(w2.alloc o).cell? ⟨sb,2,none⟩=some (.slice va T.length vc):=λo=>(hS2.below (hbA o)).cells.2.2.1
    have hxz:((xc.length:Int) == 0)=false:=by
     have:xc.length≠0:=λe=>hc0 (zv.1 e)
     simpa using this
    have hlz:((T.length:Int) == (lim:Int))=false:=by simp;omega
    have hic:dI xc=true:=HO.out.l _ (aEb _ hn).1;have CT:=aA (λo=>aZq B sb hp v2 _ vk L' n T ks b ⟨r,a,b',i,j,xc⟩ ad cp (w2.alloc o) (hS2.below (hbA o)) (hc.below (hbA o)) hic HO.out.t hdv HO.out.k (by omega) (by omega) (zu hB2 (hbA o).size) _ rfl hF hLF hnF);have HNX:Hid (∀w5,(∃v' vs' vk' L2 n2 b2,bI B w5 sb hp v' vs' vk' L2 n2 (T++[(⟨r,a,b',i,j,xc⟩,.slice ad xc.length cp)]) (dL T ks xc) b2/\bX (jV (T++[(⟨r,a,b',i,j,xc⟩,.slice ad xc.length cp)]) T.length (dL T ks xc)) L' n b L2 n2 b2/\∃o,Mv oB B (w2.alloc o) w5)->aAw B sb hp lim Q w w5/\lim-yD w5 sb<lim-yD wr sb):=aA λw5 ⟨v',vs',vk',L2,n2,b2,h1,h2,o,h3⟩=>by
     refine ⟨⟨v',vs',vk',L2,n2,_,_,b2,h1,next _ _ _ h2,HO.out.take ⟨r,a,b',i,j,xc⟩ _ rfl hn hF hLF hnF h2,by simp;omega,(HMV2.out.trans (Mv.of_below (hbA o))).trans h3,zu (zu hB2 (hbA o).size) h3.size⟩,?_⟩;rw [h1.steps,HST.out];simp;omega
    unfold oY at CT;simp only at CT;clear hS2 hn HM HO HST hbA hc hc0 hF hLF hnF next hic hl HMV2 hdv
    generalize xc.length=cl at *;go_wp2_with (first
     | (go_at_call 66;refine (aB CT _).mono ?_;rintro e w5 ⟨⟨u,rfl⟩,v5,vs5,vk5,L5,n5,b5,h5,ht5,hm5⟩;have G:=aA (HNX.out w5 ⟨_,_,_,_,_,_,h5,ht5,_,hm5⟩);clear h5 ht5 hm5)
     | go_in)
    go_roundw;case rel=>exact G.out.1
    case measure=>exact G.out.2
end Go.Proofs.YtcldkjcpofjmhaaGreatDoor
