import Derived.Test.YtcldkjcpofjmhaaGreatDoorXSr0F
import Derived.Test.YtcldkjcpofjmhaaGreatDoorXFol1F
open Array renaming getElem?_eq_some_iff→zz,getElem?_eq_getElem→zy,getElem_modify_self→zx,size_modify→zv
open Nat renaming le_refl→zw
namespace Go.Proofs.YtcldkjcpofjmhaaGreatDoor
set_option maxRecDepth 100000
open Go.RowKit Go.Shelf Go.WideMaps
attribute [local go_sem] Oper.semAt_some
def bX:List (aN×Int)->List Cd->Nat->Bool->List Cd->Nat->Bool->Prop
 | [],L,n,b,L',n',b'=>L'=L/\n'=n/\b'=b
 | x :: r,L,n,b,L',n',b'=>
  if x.2≠0\/dP x.1.c=false then bX r L n true L' n' b'
  else if pW x.1.c=true then bX r L n b L' n' b'
  else ∃ad cp,bX r (fH L.length (L++[iF x.1 ad cp n]) L.length) (n+1) b L' n' b'
theorem bX.snoc{x:aN×Int}{L2:List Cd}{n2:Nat}{b2:Bool}:∀(F:List (aN×Int)) {L L1:List Cd} {n n1:Nat} {b b1:Bool},bX F L n b L1 n1 b1->bX [x] L1 n1 b1 L2 n2 b2->bX (F++[x]) L n b L2 n2 b2
 | [],L,L1,n,n1,b,b1,h,k=>by
  obtain ⟨rfl,rfl,rfl⟩:=h;exact k
 | y :: F,L,L1,n,n1,b,b1,h,k=>by
  show bX (y :: (F++[x])) L n b L2 n2 b2;unfold bX at h ⊢;split
  ·rename_i hc;rw [if_pos hc] at h;exact bX.snoc F h k
  ·rename_i hc;rw [if_neg hc] at h;split
   ·rename_i hi;rw [if_pos hi] at h;exact bX.snoc F h k
   ·rename_i hi;rw [if_neg hi] at h;obtain ⟨ad,cp,h⟩:=h;exact ⟨ad,cp,bX.snoc F h k⟩
theorem bX.len:∀(F:List (aN×Int)) {L L1:List Cd} {n n1:Nat} {b b1:Bool},bX F L n b L1 n1 b1->L1.length<=L.length+F.length/\n1<=n+F.length
 | [],L,L1,n,n1,b,b1,h=>by
  obtain ⟨rfl,rfl,rfl⟩:=h;simp
 | y :: F,L,L1,n,n1,b,b1,h=>by
  unfold bX at h;split at h
  ·have:=bX.len F h;simp;omega
  ·split at h
   ·have:=bX.len F h;simp;omega
   ·obtain ⟨ad,cp,h⟩:=h;have:=bX.len F h;rw [aL2] at this;simp at this ⊢;omega
theorem bI.bigged{B:Nat}{w:World}{sb hp:Nat}{v vs vk:Value}{L:List Cd}{n:Nat}{T:List (aN×Value)}{ks:List Nat}{big:Bool}(h:bI B w sb hp v vs vk L n T ks big)(b:Bool):bI B (w.setCell ⟨sb,4,none⟩ (.bool b)) sb hp v vs vk L n T ks b/\Mv [119] B w (w.setCell ⟨sb,4,none⟩ (.bool b)):=by have hlt:=(zz.1 h.box).1;have hm:Mv [119] B w (w.setCell ⟨sb,4,none⟩ (.bool b)):=Mv.of_grown (bR w ⟨sb,4,none⟩ _) (λk hk=>by cases hk;exact ⟨h.base,_,_,h.box,by simp⟩);refine ⟨⟨?_,⟨hm.cells h.heap.box (by decide),hm.row h.heap.row (by decide),h.heap.base⟩,h.st.kept hm.kps (by decide) (by decide) (by decide),hm.row h.kp (by decide),λx hx=>⟨hm.clause (h.cl x hx).1 (by decide) (by decide),(h.cl x hx).2⟩,h.base⟩,hm⟩;show (w.heap.modify sb _)[sb]?=_;rw [zy (by rw [zv];exact hlt),zx,(zz.1 h.box).2];rfl
theorem bI.rekept{B:Nat}{w w':World}{sb hp:Nat}{v vs vk vk':Value}{L:List Cd}{n:Nat}{T:List (aN×Value)}{ks ks':List Nat}{big:Bool}(h:bI B w sb hp v vs vk L n T ks big)(hm:Mv [3] B w w')(hk:dH B w' vk' ks'):bI B (w'.setCell ⟨sb,3,none⟩ vk') sb hp v vs vk' L n T ks' big/\Mv [3,119] B w (w'.setCell ⟨sb,3,none⟩ vk')/\w'.cell? ⟨sb,3,none⟩=some vk/\w'.frozen? ⟨sb,3,none⟩=false:=by have hbx:=hm.cells h.box (by decide);have hlt:=(zz.1 hbx).1;have hm2:Mv [119] B w' (w'.setCell ⟨sb,3,none⟩ vk'):=Mv.of_grown (bR w' ⟨sb,3,none⟩ _) (λk hk=>by cases hk;exact ⟨h.base,_,_,hbx,by simp⟩);refine ⟨⟨?_,⟨hm2.cells (hm.cells h.heap.box (by decide)) (by decide),hm2.row (hm.row h.heap.row (by decide)) (by decide),h.heap.base⟩,(h.st.kept hm.kps (by decide) (by decide) (by decide)).kept hm2.kps (by decide) (by decide) (by decide),hm2.row hk (by decide),λx hx=>⟨hm2.clause (hm.clause (h.cl x hx).1 (by decide) (by decide)) (by decide) (by decide),(h.cl x hx).2⟩,h.base⟩,(hm.mono (by decide) (zw _)).trans (hm2.mono (by decide) (zw _)),by simp [World.cell?,hbx],by simp [World.frozen?,hbx]⟩;show (w'.heap.modify sb _)[sb]?=_;rw [zy (by rw [zv];exact hlt),zx,(zz.1 hbx).2];rfl
theorem aZp(B sb hp:Nat)(v vs vk:Value)(L:List Cd)(n:Nat)(T:List (aN×Value))(ks:List Nat)(big:Bool)(b1 b2:Nat)(s:aN)(ad:Option Addr)(cp:Nat)(w:World)(h:bI B w sb hp v vs vk L n T ks big)(x1:w.heap[b1]?=some (.cells #[.int .i64 s.r,.int .i64 s.a,.int .i64 s.b,.int .i64 s.i,.int .i64 s.j,.slice ad s.c.length cp] 71 (0,0)))(x2:Boxed w b2 88 (.pointer (some ⟨sb,0,none⟩)))(hc:bM B w (.slice ad s.c.length cp) s.c)(hcv:∀k∈ks,lA s.c (aQ T k))(hks:∀k∈ks,k<T.length)(hl:ks.length<=1000000) :
  Calls Tryz.prog 98 #[vk,.func (.func 99) #[] #[.pointer (some ⟨b1,0,none⟩),.pointer (some ⟨b2,0,none⟩)]] w λe w'=>∃ka kn kc,e=.returned (.slice ka kn kc)/\dH B w' (.slice ka kn kc) (ks.filter λk=>!cD s.c (aQ T k))/\Mv [3] B w w':=by
 obtain ⟨ka,kc,rfl⟩:=h.kp.shape;obtain ⟨_,_,c2,_,_⟩:=h.cells;cases hany:ks.any (λk=>cD s.c (aQ T k))
 ·have hfil:(ks.filter λk=>!cD s.c (aQ T k))=ks:=by
   rw [List.filter_eq_self];intro k hk;cases hp:cD s.c (aQ T k)
   ·rfl
   ·rw [List.any_eq_true.2 ⟨k,hk,hp⟩] at hany;cases hany
  refine (aLz B b1 b2 (λk=>cD s.c (aQ T k)) ka kc ks w h.kp hl (λk hk wx hwx=>aLk B sb vs T b1 b2 k s ad cp wx (Below.at' hwx (zw _) c2) (h.st.kept (S:=[]) (bV hwx) (by simp) (by simp) (by simp)) ((hwx.block _ (zz.1 x1).1).trans x1) ((bV (S:=bT) hwx).boxed x2 (by decide)) (hc.below hwx) (hcv k hk) (hks k hk)) hany).mono ?_;rintro e w' ⟨rfl,hb⟩;exact ⟨ka,_,kc,rfl,by rw [hfil];exact aU h.kp hb (zw _),Mv.of_below hb⟩
 ·obtain ⟨k0,hk0,_⟩:=List.any_eq_true.1 hany;obtain ⟨i0,hi0,_⟩:=List.getElem_of_mem hk0;obtain ⟨g,rfl,_⟩:=h.kp.cell hi0;have hmv:∀wx,w.grownBy wx (some g)->Mv [3] B w wx:=λwx hwx=>Mv.of_grown hwx (λk hk=>by
   cases hk;obtain ⟨_,⟨e,_⟩ | ⟨g',cap',cur,e,hb,hh,_⟩⟩:=h.kp
   ·cases e
   ·simp at e;obtain ⟨rfl,_⟩:=e;exact ⟨hb,cur,_,hh,by simp⟩)
  refine (aM0 B b1 b2 (λk=>cD s.c (aQ T k)) g kc ks w h.kp hl (λk hk wx hwx=>?_) hany).mono ?_
  ·have hm:=hmv wx hwx;exact aLk B sb vs T b1 b2 k s ad cp wx (by have:=hm.cells h.box (by decide);simp [World.cell?,this]) (h.st.kept hm.kps (by decide) (by decide) (by decide)) (hm.cells x1 (by decide)) (hm.boxed x2 (by decide)) (hm.clause hc (by decide) (by decide)) (hcv k hk) (hks k hk)
  ·rintro e w' ⟨rfl,ho,hg⟩;exact ⟨_,_,kc,rfl,ho,hmv w' hg⟩
end Go.Proofs.YtcldkjcpofjmhaaGreatDoor
