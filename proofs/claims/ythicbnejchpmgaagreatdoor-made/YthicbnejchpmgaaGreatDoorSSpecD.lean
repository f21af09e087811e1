/- Pure: the tokens of a text, character by character. The document: the place behind letters, digits and _; a name in quotes. Pure: bounds of the places behind tokens; the cells of tokens. Pure: the clauses of tokens. The document's parser in memory; the token at hand; what cannot stand there. -/
import Derived.Test.YthicbnejchpmgaaGreatDoorText0D
import Derived.Test.YthicbnejchpmgaaGreatDoorUSpecD
import Derived.Laws.Rows
import Derived.OneCell
import Derived.Handy
import Derived.RegionTactic
import Derived.ChangeAlike
namespace Go.Proofs.YthicbnejchpmgaaGreatDoor
open Go.RowKit
set_option maxRecDepth 100000
def rK (s:ByteArray):Nat→Nat→Nat
 | 0,p=>p
 | f+1,p=>if p < s.size∧gE (aC s p)=true then rK s f (p+1) else p
def eB (s:ByteArray) (p:Nat):Nat:=rK s (s.size - p) p
theorem aAd {s:ByteArray} {p:Nat} (h:p < s.size) (hi:gE (aC s p)=true):eB s p=eB s (p+1):=by
 unfold eB
 obtain ⟨f,hf⟩ : ∃f,s.size - p=f+1:=⟨s.size - p - 1,by omega⟩
 rw [hf,show s.size - (p+1)=f by omega]
 simp only [rK]
 rw [if_pos ⟨h,hi⟩]
theorem aOs {s:ByteArray} {p:Nat} (h:¬(p < s.size∧gE (aC s p)=true)):eB s p=p:=by
 unfold eB
 cases hf:s.size - p with
 | zero=>rfl
 | succ f=>simp only [rK];rw [if_neg h]
theorem aAe (s:ByteArray):∀f p,p≤rK s f p∧(p≤s.size→rK s f p≤s.size):=by
 intro f
 induction f with
 | zero=>intro p;exact ⟨Nat.le_refl _,fun h=>h⟩
 | succ f ih=>
  intro p
  simp only [rK]
  split
  ·rename_i h
   have:=ih (p+1)
   exact ⟨by omega,fun _=>this.2 (by omega)⟩
  ·exact ⟨Nat.le_refl _,fun h=>h⟩
theorem aOt (s:ByteArray) (p:Nat):p≤eB s p:=(aAe s _ p).1
theorem aOu {s:ByteArray} {p:Nat} (h:p≤s.size):eB s p≤s.size:=(aAe s _ p).2 h
def fD (s:ByteArray):Nat→ByteArray→Nat→Option (ByteArray×Nat)
 | 0,_,_=>none
 | f+1,name,p=>
  if p < s.size then
   if aC s p=39 then (if gR name then some (name,p+1) else none)
   else
    if aC s p=92 then
     (if p+1 < s.size∧(aC s (p+1)=39∨aC s (p+1)=92) then fD s f (name++s.extract (p+1) (p+2)) (p+2) else none)
    else if bD s p=0∨aC s p=10 then none else fD s f (name++s.extract p (p+bD s p)) (p+bD s p)
  else none
def mG (s:ByteArray) (p:Nat):Option (ByteArray×Nat):=fD s s.size ⟨#[]⟩ (p+1)
def rL (s:ByteArray):Nat→Nat→Nat
 | 0,p=>p
 | f+1,p=>if p < s.size∧aC s p≠10 then rL s f (p+1) else p
def fQ (s:ByteArray) (p:Nat):Nat:=rL s (s.size - p) p
theorem aAf {s:ByteArray} {p:Nat} (h:p < s.size) (hi:aC s p≠10):fQ s p=fQ s (p+1):=by
 unfold fQ
 obtain ⟨f,hf⟩ : ∃f,s.size - p=f+1:=⟨s.size - p - 1,by omega⟩
 rw [hf,show s.size - (p+1)=f by omega]
 simp only [rL]
 rw [if_pos ⟨h,hi⟩]
theorem aEz {s:ByteArray} {p:Nat} (h:¬(p < s.size∧aC s p≠10)):fQ s p=p:=by
 unfold fQ
 cases hf:s.size - p with
 | zero=>rfl
 | succ f=>simp only [rL];rw [if_neg h]
theorem aF0 (s:ByteArray):∀f p,p≤rL s f p∧(p≤s.size→rL s f p≤s.size):=by
 intro f
 induction f with
 | zero=>intro p;exact ⟨Nat.le_refl _,fun h=>h⟩
 | succ f ih=>
  intro p
  simp only [rL]
  split
  ·rename_i h
   have:=ih (p+1)
   exact ⟨by omega,fun _=>this.2 (by omega)⟩
  ·exact ⟨Nat.le_refl _,fun h=>h⟩
structure Tk where
 kind:Nat
 txt:ByteArray
 pos:Nat
inductive Nx where
 | tok (t:Tk) (next:Nat)
 | bad (p:Nat)
 | stop (p:Nat)
def oB (c:Nat):Bool:=decide (c=124) || decide (c=126) || decide (c=40) || decide (c=41) || decide (c=44) || decide (c=46)
def eE (s:ByteArray) (p:Nat):Nx:=
 if eQ (aC s p) || eH (aC s p) then
  (if eB s p - p > 20 then .bad p else .tok ⟨if eH (aC s p) then 118 else 110,s.extract p (eB s p),p⟩ (eB s p))
 else if aC s p=39 then (match mG s p with | some (n,e)=>.tok ⟨110,n,p⟩ e | none=>.bad p)
 else if aC s p=36 then (if p+6≤s.size∧s.extract p (p+6)=⟨#[36,102,97,108,115,101]⟩ then .tok ⟨102,⟨#[]⟩,p⟩ (p+6) else .bad p)
 else if oB (aC s p) then .tok ⟨aC s p,⟨#[]⟩,p⟩ (p+1)
 else .bad p
def mH (c:Nat):Bool:=decide (c=32) || decide (c=9) || decide (c=10)
def oX (s:ByteArray):Nat→Nat→Nx
 | 0,p=>.stop p
 | f+1,p=>
  if p < s.size then
   if mH (aC s p) then oX s f (p+1)
   else if aC s p=37 then oX s f (fQ s p)
   else eE s p
  else .stop p
def cB (s:ByteArray):Nat→Nat→List Tk×Option Nat
 | 0,p=>([],some p)
 | f+1,p=>
  if p < s.size then
   if mH (aC s p) then cB s f (p+1)
   else if aC s p=37 then cB s f (fQ s p)
   else match eE s p with
    | .tok t e=>(t :: (cB s f e).1,(cB s f e).2)
    | _=>([],some p)
  else ([⟨101,⟨#[]⟩,p⟩],none)
theorem wY {s:ByteArray} {p:Nat} (h:p < s.size) (h37:aC s p=37):p < fQ s p:=by
 rw [aAf h (by omega)]
 have:=(aF0 s (s.size - (p+1)) (p+1)).1
 unfold fQ
 omega
theorem aAg {s:ByteArray} {p:Nat} (h:p≤s.size):fQ s p≤s.size:=(aF0 s _ p).2 h
theorem aOv (s:ByteArray):∀f nm p n e,fD s f nm p=some (n,e)→p < e∧e≤s.size∧gR n=true:=by
 intro f
 induction f with
 | zero=>intro nm p n e h;simp [fD] at h
 | succ f ih=>
  intro nm p n e h
  simp only [fD] at h
  split at h
  ·rename_i hp
   split at h
   ·split at h
    ·rename_i hn
     simp at h
     obtain ⟨rfl,rfl⟩:=h
     exact ⟨by omega,by omega,hn⟩
    ·simp at h
   ·split at h
    ·split at h
     ·obtain ⟨i1,i2,i3⟩:=ih _ _ _ _ h;exact ⟨by omega,i2,i3⟩
     ·simp at h
    ·split at h
     ·simp at h
     ·obtain ⟨i1,i2,i3⟩:=ih _ _ _ _ h;exact ⟨by omega,i2,i3⟩
  ·simp at h
theorem aOw {s:ByteArray} {p:Nat} {n:ByteArray} {e:Nat} (h:mG s p=some (n,e)):p+1 < e∧e≤s.size∧gR n=true:=aOv s _ _ _ _ _ h
theorem aOx {s:ByteArray} {p:Nat} (h:p < s.size) (hl:(eQ (aC s p) || eH (aC s p))=true):p < eB s p:=by
 rw [aAd h (by unfold gE;simp at hl ⊢;rcases hl with h | h <;> simp [h])]
 have:=aOt s (p+1)
 omega
def aF1:Option Nat→Int
 | none=>-1
 | some p=>p
theorem aOy {s:ByteArray} {k:Nat} (hl:(eQ (aC s k) || eH (aC s k))=true):eE s k=if eB s k - k > 20 then .bad k else .tok ⟨if eH (aC s k) then 118 else 110,s.extract k (eB s k),k⟩ (eB s k):=by
 unfold eE;rw [if_pos hl]
theorem aOz {s:ByteArray} {k:Nat} (hl:(eQ (aC s k) || eH (aC s k))=false) (h39:aC s k=39):eE s k=match mG s k with | some (n,e)=>.tok ⟨110,n,k⟩ e | none=>.bad k:=by
 unfold eE;refine (if_neg (by rw [hl];decide)).trans ((if_pos h39).trans ?_);cases mG s k <;> rfl
theorem aP0 {s:ByteArray} {k:Nat} (hl:(eQ (aC s k) || eH (aC s k))=false) (h39:aC s k≠39) (h36:aC s k=36) :
  eE s k=if k+6≤s.size∧s.extract k (k+6)=⟨#[36,102,97,108,115,101]⟩ then .tok ⟨102,⟨#[]⟩,k⟩ (k+6) else .bad k:=by
 unfold eE;rw [if_neg (by rw [hl];decide),if_neg h39,if_pos h36]
theorem aP1 {s:ByteArray} {k:Nat} (hl:(eQ (aC s k) || eH (aC s k))=false) (h39:aC s k≠39) (h36:aC s k≠36) :
  eE s k=if oB (aC s k) then .tok ⟨aC s k,⟨#[]⟩,k⟩ (k+1) else .bad k:=by
 unfold eE;rw [if_neg (by rw [hl];decide),if_neg h39,if_neg h36]
def sX:Tk:=⟨63,⟨#[]⟩,0⟩
def eF (r:List Tk×Option Nat):List Tk:=r.1++(match r.2 with | some p=>[⟨63,⟨#[]⟩,p⟩] | none=>[])
def aE (T:List Tk) (i:Nat):Tk:=T.getD i sX
def uE:List ByteArray→ByteArray→Int
 | [],_=>-1
 | y :: r,x=>if y=x then (r.length:Int) else uE r x
def jF (l:List ByteArray) (x:ByteArray):Int:=uE l.reverse x
theorem aP2 (x:ByteArray):jF [] x=-1:=rfl
theorem aF2 (l:List ByteArray) (y x:ByteArray):jF (l++[y]) x=if y=x then (l.length:Int) else jF l x:=by simp [jF,uE]
theorem aP3 (l:List ByteArray) (x:ByteArray) : -1≤jF l x∧jF l x < l.length:=by
 unfold jF
 have hr:l.length=l.reverse.length:=by simp
 rw [hr]
 generalize l.reverse=m
 clear hr
 induction m with
 | nil=>simp [uE]
 | cons y r ih=>
  simp only [uE]
  split
  ·simp;omega
  ·simp;omega
structure aV where
 i:Nat
 vars:List ByteArray
 places:List Pl
def nL (l:List ByteArray) (x:ByteArray):List ByteArray:=if jF l x < 0 then l++[x] else l
def mI (l:List ByteArray) (x:ByteArray):Int:=if jF l x < 0 then l.length else jF l x
def oC (l:List Pl) (k:Nat) (n:Nat):List Pl:=l.modify k fun p=>(p.1,p.2.1,(n:Int),p.2.2.2)
def dG (l:List Nd) (k:Nat) (n:Nat):List Nd:=l.modify k fun p=>(p.1,(n:Int))
mutual
def cD (T:List Tk):Nat→Bool→aV→List Nd→Except Nat (aV×List Nd)
 | 0,_,_,_=>.error 0
 | f+1,atom,st,l=>
  if (aE T st.i).kind=118∧atom=false then .ok (⟨st.i+1,nL st.vars (aE T st.i).txt,st.places⟩,l++[(⟨#[]⟩,mI st.vars (aE T st.i).txt)])
  else if (aE T st.i).kind≠110 then .error (aE T st.i).pos
  else if (aE T (st.i+1)).kind=40 then
   match dW T f ⟨st.i+1,st.vars,st.places++[((aE T st.i).txt,atom,0,((aE T st.i).pos:Int))]⟩ (l++[((aE T st.i).txt,0)]) 0 with
   | .error p=>.error p
   | .ok (st',l',n)=>.ok (⟨st'.i,st'.vars,oC st'.places st.places.length n⟩,dG l' l.length n)
  else .ok (⟨st.i+1,st.vars,st.places++[((aE T st.i).txt,atom,0,((aE T st.i).pos:Int))]⟩,l++[((aE T st.i).txt,0)])
def dW (T:List Tk):Nat→aV→List Nd→Nat→Except Nat (aV×List Nd×Nat)
 | 0,_,_,_=>.error 0
 | f+1,st,l,n=>
  match cD T f false ⟨st.i+1,st.vars,st.places⟩ l with
  | .error p=>.error p
  | .ok (st',l')=>
   if (aE T st'.i).kind=44 then dW T f st' l' (n+1)
   else if (aE T st'.i).kind=41 then .ok (⟨st'.i+1,st'.vars,st'.places⟩,l',n+1)
   else .error (aE T st'.i).pos
end
def gL (T:List Tk):Nat→aV→List Lt→Except Nat (aV×List Lt)
 | 0,_,_=>.error 0
 | f+1,st,c=>
  match cD T (T.length+1) true ⟨if (aE T st.i).kind=126 then st.i+1 else st.i,st.vars,st.places⟩ [] with
  | .error p=>.error p
  | .ok (st',a)=>
   if (aE T st'.i).kind=124 then gL T f ⟨st'.i+1,st'.vars,st'.places⟩ (c++[(decide ((aE T st.i).kind=126),a)])
   else .ok (st',c++[(decide ((aE T st.i).kind=126),a)])
def mJ (T:List Tk) (st:aV):Except Nat (aV×List Lt):=
 if (aE T st.i).kind=102 then .ok (⟨st.i+1,[],st.places⟩,[]) else gL T (T.length+1) ⟨st.i,[],st.places⟩ []
def mK (T:List Tk) (st:aV):Except Nat (aV×List Lt):=
 match mJ T st with
 | .error p=>.error p
 | .ok (st',c)=>if (aE T st'.i).kind=46 then .ok (⟨st'.i+1,st'.vars,st'.places⟩,c) else .error (aE T st'.i).pos
def jG (T:List Tk):Nat→aV→List (Nat×List Lt)→Except Nat (aV×List (Nat×List Lt))
 | 0,_,_=>.error 0
 | f+1,st,cs=>
  if (aE T st.i).kind=101 then .ok (st,cs)
  else match mK T st with
   | .error p=>.error p
   | .ok (st',c)=>jG T f st' (cs++[((aE T st.i).pos,c)])
def uF (s:ByteArray):Except Nat (aV×List (Nat×List Lt)):=jG (eF (cB s (s.size+1) 0)) ((eF (cB s (s.size+1) 0)).length+1) ⟨0,[],[]⟩ []
theorem sY (T:List Tk):∀f,(∀atom st l st' l',cD T f atom st l=.ok (st',l')→st.i < st'.i∧l.length < l'.length∧l'.length≤l.length+(st'.i - st.i)∧st.places.length≤st'.places.length∧st'.places.length≤st.places.length+(st'.i - st.i)∧st.vars.length≤st'.vars.length∧st'.vars.length≤st.vars.length+(st'.i - st.i))∧
  (∀st l n st' l' n',dW T f st l n=.ok (st',l',n')→st.i+1 < st'.i∧l.length≤l'.length∧l'.length+1≤l.length+(st'.i - st.i)∧st.places.length≤st'.places.length∧st'.places.length+1≤st.places.length+(st'.i - st.i)∧st.vars.length≤st'.vars.length∧st'.vars.length+1≤st.vars.length+(st'.i - st.i)∧n < n'∧n'≤n+(st'.i - st.i)):=by
 intro f
 induction f with
 | zero=>exact ⟨fun atom st l st' l' h=>by simp [cD] at h,fun st l n st' l' n' h=>by simp [dW] at h⟩
 | succ f ih=>
  obtain ⟨ih1,ih2⟩:=ih
  constructor
  ·intro atom st l st' l' h
   rw [cD] at h
   split at h
   ·simp only [Except.ok.injEq,Prod.mk.injEq] at h
    obtain ⟨rfl,rfl⟩:=h
    simp only [List.length_append,List.length_singleton,nL]
    split <;> simp <;> omega
   ·split at h
    ·simp at h
    ·split at h
     ·split at h
      ·simp at h
      ·rename_i st1 l1 n1 hp
       have q:=ih2 _ _ _ _ _ _ hp
       simp only [Except.ok.injEq,Prod.mk.injEq] at h
       obtain ⟨rfl,rfl⟩:=h
       simp only [List.length_append,List.length_singleton,oC,dG,List.length_modify] at q ⊢
       omega
     ·simp only [Except.ok.injEq,Prod.mk.injEq] at h
      obtain ⟨rfl,rfl⟩:=h
      simp only [List.length_append,List.length_singleton]
      omega
  ·intro st l n st' l' n' h
   rw [dW] at h
   split at h
   ·simp at h
   ·rename_i st1 l1 hp
    have q:=ih1 _ _ _ _ _ hp
    simp only at q
    split at h
    ·have q2:=ih2 _ _ _ _ _ _ h
     omega
    ·split at h
     ·simp only [Except.ok.injEq,Prod.mk.injEq] at h
      obtain ⟨rfl,rfl,rfl⟩:=h
      simp only
      omega
     ·simp at h
section
variable {w:World} {pa i:Nat} {bad:Int} {vL vP vC vB vV:Value}
end
theorem eI {B:Nat} {a w:World} (h:Below B a w) {p:Addr} (hp:B≤p.block) (u:Value):Below B a (w.setCell p u):=
 ⟨h.os,h.tape,h.output,by have:=h.size;simpa [World.setCell] using this,fun k hk=>by rw [Below.heap_setCell _ _ _ _ (by omega)];exact h.block k hk⟩
def wZ (L:List Tk) (broken:Int) (i:Nat):Int:=if h:i < L.length then (L[i].pos:Int) else broken
theorem oY {w w':World} {b j:Nat} (h:w.grownBy w' (some b)) (u:Value):w.grownBy (w'.setCell ⟨b,j,none⟩ u) (some b):=
 ⟨h.os,h.tape,h.output,by have:=h.size;simpa [World.setCell] using this,fun k hk hne=>by rw [Below.heap_setCell _ _ _ _ (fun e=>hne (by rw [e]))];exact h.block k hk hne⟩
end Go.Proofs.YthicbnejchpmgaaGreatDoor
