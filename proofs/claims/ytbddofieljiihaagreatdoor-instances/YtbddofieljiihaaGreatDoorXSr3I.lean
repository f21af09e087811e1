/- The search: a clause is taken. -/
import Derived.Test.YtbddofieljiihaaGreatDoorXSr1I
import Derived.Test.YtbddofieljiihaaGreatDoorXFol1I
namespace Go.Proofs.YtbddofieljiihaaGreatDoor
open Go.RowKit Go.Shelf Go.WideMaps
set_option maxRecDepth 100000
attribute [local go_sem] Oper.semAt_some
def bR:List (aG×Int)→List Cd→Nat→Bool→List Cd→Nat→Bool→Prop
 | [],L,n,b,L',n',b'=>L'=L∧n'=n∧b'=b
 | x :: r,L,n,b,L',n',b'=>
  if x.2≠0∨dQ x.1.c=false then bR r L n true L' n' b'
  else if oE x.1.c=true then bR r L n b L' n' b'
  else ∃ad cp,bR r (gF L.length (L++[dP x.1 ad cp n]) L.length) (n+1) b L' n' b'
theorem bR.snoc {x:aG×Int} {L2:List Cd} {n2:Nat} {b2:Bool}:∀(F:List (aG×Int)) {L L1:List Cd} {n n1:Nat} {b b1:Bool},bR F L n b L1 n1 b1→bR [x] L1 n1 b1 L2 n2 b2→bR (F++[x]) L n b L2 n2 b2
 | [],L,L1,n,n1,b,b1,h,k=>by
  obtain ⟨rfl,rfl,rfl⟩:=h
  exact k
 | y :: F,L,L1,n,n1,b,b1,h,k=>by
  show bR (y :: (F++[x])) L n b L2 n2 b2
  unfold bR at h ⊢
  split
  ·rename_i hc
   rw [if_pos hc] at h
   exact bR.snoc F h k
  ·rename_i hc
   rw [if_neg hc] at h
   split
   ·rename_i hi
    rw [if_pos hi] at h
    exact bR.snoc F h k
   ·rename_i hi
    rw [if_neg hi] at h
    obtain ⟨ad,cp,h⟩:=h
    exact ⟨ad,cp,bR.snoc F h k⟩
theorem bR.len:∀(F:List (aG×Int)) {L L1:List Cd} {n n1:Nat} {b b1:Bool},bR F L n b L1 n1 b1→L1.length≤L.length+F.length∧n1≤n+F.length
 | [],L,L1,n,n1,b,b1,h=>by
  obtain ⟨rfl,rfl,rfl⟩:=h
  simp
 | y :: F,L,L1,n,n1,b,b1,h=>by
  unfold bR at h
  split at h
  ·have:=bR.len F h
   simp
   omega
  ·split at h
   ·have:=bR.len F h
    simp
    omega
   ·obtain ⟨ad,cp,h⟩:=h
    have:=bR.len F h
    rw [aHh] at this
    simp at this ⊢
    omega
theorem bC.bigged {B:Nat} {w:World} {sb hp:Nat} {v vs vk:Value} {L:List Cd} {n:Nat} {T:List (aG×Value)} {ks:List Nat} {big:Bool} (h:bC B w sb hp v vs vk L n T ks big) (b:Bool):bC B (w.setCell ⟨sb,4,none⟩ (.bool b)) sb hp v vs vk L n T ks b∧Mv [85] B w (w.setCell ⟨sb,4,none⟩ (.bool b)):=by
 have hlt:=(Array.getElem?_eq_some_iff.1 h.box).1
 have hm:Mv [85] B w (w.setCell ⟨sb,4,none⟩ (.bool b)):=Mv.of_grown (cB w ⟨sb,4,none⟩ _) (fun k hk=>by cases hk;exact ⟨h.base,_,_,h.box,by simp⟩)
 refine ⟨⟨?_,⟨hm.cells h.heap.box (by decide),hm.row h.heap.row (by decide),h.heap.base⟩,h.st.kept hm.kps (by decide) (by decide) (by decide),hm.row h.kp (by decide),fun x hx=>⟨hm.clause (h.cl x hx).1 (by decide) (by decide),(h.cl x hx).2⟩,h.base⟩,hm⟩
 show (w.heap.modify sb _)[sb]?=_
 rw [Array.getElem?_eq_getElem (by rw [Array.size_modify];exact hlt),Array.getElem_modify_self,(Array.getElem?_eq_some_iff.1 h.box).2]
 rfl
theorem bC.rekept {B:Nat} {w w':World} {sb hp:Nat} {v vs vk vk':Value} {L:List Cd} {n:Nat} {T:List (aG×Value)} {ks ks':List Nat} {big:Bool} (h:bC B w sb hp v vs vk L n T ks big) (hm:Mv [3] B w w') (hk:cZ B w' vk' ks'):bC B (w'.setCell ⟨sb,3,none⟩ vk') sb hp v vs vk' L n T ks' big∧Mv [3,85] B w (w'.setCell ⟨sb,3,none⟩ vk')∧w'.cell? ⟨sb,3,none⟩=some vk∧w'.frozen? ⟨sb,3,none⟩=false:=by
 have hbx:=hm.cells h.box (by decide)
 have hlt:=(Array.getElem?_eq_some_iff.1 hbx).1
 have hm2:Mv [85] B w' (w'.setCell ⟨sb,3,none⟩ vk'):=Mv.of_grown (cB w' ⟨sb,3,none⟩ _) (fun k hk=>by cases hk;exact ⟨h.base,_,_,hbx,by simp⟩)
 refine ⟨⟨?_,⟨hm2.cells (hm.cells h.heap.box (by decide)) (by decide),hm2.row (hm.row h.heap.row (by decide)) (by decide),h.heap.base⟩,(h.st.kept hm.kps (by decide) (by decide) (by decide)).kept hm2.kps (by decide) (by decide) (by decide),hm2.row hk (by decide),fun x hx=>⟨hm2.clause (hm.clause (h.cl x hx).1 (by decide) (by decide)) (by decide) (by decide),(h.cl x hx).2⟩,h.base⟩,(hm.mono (by decide) (Nat.le_refl _)).trans (hm2.mono (by decide) (Nat.le_refl _)),by simp [World.cell?,hbx],by simp [World.frozen?,hbx]⟩
 show (w'.heap.modify sb _)[sb]?=_
 rw [Array.getElem?_eq_getElem (by rw [Array.size_modify];exact hlt),Array.getElem_modify_self,(Array.getElem?_eq_some_iff.1 hbx).2]
 rfl
theorem aVr (B sb hp:Nat) (v vs vk:Value) (L:List Cd) (n:Nat) (T:List (aG×Value)) (ks:List Nat) (big:Bool) (b1 b2:Nat) (s:aG) (ad:Option Addr) (cp:Nat) (w:World) (h:bC B w sb hp v vs vk L n T ks big) (x1:w.heap[b1]?=some (.cells #[.int .i64 s.r,.int .i64 s.a,.int .i64 s.b,.int .i64 s.i,.int .i64 s.j,.slice ad s.c.length cp] 54 (0,0))) (x2:Boxed w b2 49 (.pointer (some ⟨sb,0,none⟩))) (hc:bK B w (.slice ad s.c.length cp) s.c) (hcv:∀k∈ks,kQ s.c (aK T k)) (hks:∀k∈ks,k < T.length) (hl:ks.length≤1000000) :
  Calls Tryz.prog 59 #[vk,.func (.func 60) #[] #[.pointer (some ⟨b1,0,none⟩),.pointer (some ⟨b2,0,none⟩)]] w fun e w'=>∃ka kn kc,e=.returned (.slice ka kn kc)∧cZ B w' (.slice ka kn kc) (ks.filter fun k=>!bX s.c (aK T k))∧Mv [3] B w w':=by
 obtain ⟨ka,kc,rfl⟩:=h.kp.shape
 obtain ⟨_,_,c2,_,_⟩:=h.cells
 cases hany:ks.any (fun k=>bX s.c (aK T k))
 ·have hfil:(ks.filter fun k=>!bX s.c (aK T k))=ks:=by
   rw [List.filter_eq_self]
   intro k hk
   cases hp:bX s.c (aK T k)
   ·rfl
   ·rw [List.any_eq_true.2 ⟨k,hk,hp⟩] at hany
    cases hany
  refine (aUq B b1 b2 (fun k=>bX s.c (aK T k)) ka kc ks w h.kp hl (fun k hk wx hwx=>aIg B sb vs T b1 b2 k s ad cp wx (Below.at' hwx (Nat.le_refl _) c2) (h.st.kept (S:=[]) (bO hwx) (by simp) (by simp) (by simp)) ((hwx.block _ (Array.getElem?_eq_some_iff.1 x1).1).trans x1) ((bO (S:=bM) hwx).boxed x2 (by decide)) (hc.below hwx) (hcv k hk) (hks k hk)) hany).mono ?_
  rintro e w' ⟨rfl,hb⟩
  exact ⟨ka,_,kc,rfl,by rw [hfil];exact aZ h.kp hb (Nat.le_refl _),Mv.of_below hb⟩
 ·obtain ⟨k0,hk0,_⟩:=List.any_eq_true.1 hany
  obtain ⟨i0,hi0,_⟩:=List.getElem_of_mem hk0
  obtain ⟨g,rfl,_⟩:=h.kp.cell hi0
  have hmv:∀wx,w.grownBy wx (some g)→Mv [3] B w wx:=fun wx hwx=>Mv.of_grown hwx (fun k hk=>by
   cases hk
   obtain ⟨_,⟨e,_⟩ | ⟨g',cap',cur,e,hb,hh,_⟩⟩:=h.kp
   ·cases e
   ·simp at e
    obtain ⟨rfl,_⟩:=e
    exact ⟨hb,cur,_,hh,by simp⟩)
  refine (aUr B b1 b2 (fun k=>bX s.c (aK T k)) g kc ks w h.kp hl (fun k hk wx hwx=>?_) hany).mono ?_
  ·have hm:=hmv wx hwx
   exact aIg B sb vs T b1 b2 k s ad cp wx (by have:=hm.cells h.box (by decide);simp [World.cell?,this]) (h.st.kept hm.kps (by decide) (by decide) (by decide)) (hm.cells x1 (by decide)) (hm.boxed x2 (by decide)) (hm.clause hc (by decide) (by decide)) (hcv k hk) (hks k hk)
  ·rintro e w' ⟨rfl,ho,hg⟩
   exact ⟨_,_,kc,rfl,ho,hmv w' hg⟩
end Go.Proofs.YtbddofieljiihaaGreatDoor
