/- The document's own answer: letters, digits. Pure: the tokens of a text, character by character. The document: the place behind letters, digits and _; a name in quotes. Pure: bounds of the places behind tokens; the cells of tokens. The document's own answer: the first name that is another thing than where it stood first, or has too many parts. Pure: the clauses of tokens. The document's parser in memory; the token at hand; what cannot stand there. The program: kinds of characters. The document: the tokens of a text. -/
import Derived.Laws.BytesArg
import Derived.Test.YtbddofieljiihaaGreatDoorText0I
import Derived.Laws.Rows
import Derived.OneCell
import Derived.Handy
import Derived.RegionTactic
import Derived.ChangeAlike
namespace Go.Proofs.YtbddofieljiihaaGreatDoor
open Go.RowKit
set_option maxRecDepth 100000
def eH (c:Int):Bool:=decide (97≤c) && decide (c≤122)
def eD (c:Int):Bool:=decide (65≤c) && decide (c≤90)
def pZ (c:Int):Bool:=decide (48≤c) && decide (c≤57)
def fA (c:Int):Bool:=eH c || eD c || pZ c || c == 95
def nU (s:ByteArray):Nat→Nat→Nat
 | 0,p=>p
 | f+1,p=>if p < s.size∧fA (aC s p)=true then nU s f (p+1) else p
def dH (s:ByteArray) (p:Nat):Nat:=nU s (s.size - p) p
theorem wQ {s:ByteArray} {p:Nat} (h:p < s.size) (hi:fA (aC s p)=true):dH s p=dH s (p+1):=by
 unfold dH
 obtain ⟨f,hf⟩ : ∃f,s.size - p=f+1:=⟨s.size - p - 1,by omega⟩
 rw [hf,show s.size - (p+1)=f by omega]
 simp only [nU]
 rw [if_pos ⟨h,hi⟩]
theorem aPh {s:ByteArray} {p:Nat} (h:¬(p < s.size∧fA (aC s p)=true)):dH s p=p:=by
 unfold dH
 cases hf:s.size - p with
 | zero=>rfl
 | succ f=>simp only [nU];rw [if_neg h]
theorem aAf (s:ByteArray):∀f p,p≤nU s f p∧(p≤s.size→nU s f p≤s.size):=by
 intro f
 induction f with
 | zero=>intro p;exact ⟨Nat.le_refl _,fun h=>h⟩
 | succ f ih=>
  intro p
  simp only [nU]
  split
  ·rename_i h
   have:=ih (p+1)
   exact ⟨by omega,fun _=>this.2 (by omega)⟩
  ·exact ⟨Nat.le_refl _,fun h=>h⟩
theorem aF1 (s:ByteArray) (p:Nat):p≤dH s p:=(aAf s _ p).1
theorem aF2 {s:ByteArray} {p:Nat} (h:p≤s.size):dH s p≤s.size:=(aAf s _ p).2 h
def eI (s:ByteArray):Nat→ByteArray→Nat→Option (ByteArray×Nat)
 | 0,_,_=>none
 | f+1,name,p=>
  if p < s.size then
   if aC s p=39 then (if dW name then some (name,p+1) else none)
   else
    if aC s p=92 then
     (if p+1 < s.size∧(aC s (p+1)=39∨aC s (p+1)=92) then eI s f (name++s.extract (p+1) (p+2)) (p+2) else none)
    else if bD s p=0∨aC s p=10 then none else eI s f (name++s.extract p (p+bD s p)) (p+bD s p)
  else none
def mC (s:ByteArray) (p:Nat):Option (ByteArray×Nat):=eI s s.size ⟨#[]⟩ (p+1)
def rC (s:ByteArray):Nat→Nat→Nat
 | 0,p=>p
 | f+1,p=>if p < s.size∧aC s p≠10 then rC s f (p+1) else p
def fN (s:ByteArray) (p:Nat):Nat:=rC s (s.size - p) p
theorem aAg {s:ByteArray} {p:Nat} (h:p < s.size) (hi:aC s p≠10):fN s p=fN s (p+1):=by
 unfold fN
 obtain ⟨f,hf⟩ : ∃f,s.size - p=f+1:=⟨s.size - p - 1,by omega⟩
 rw [hf,show s.size - (p+1)=f by omega]
 simp only [rC]
 rw [if_pos ⟨h,hi⟩]
theorem aF3 {s:ByteArray} {p:Nat} (h:¬(p < s.size∧aC s p≠10)):fN s p=p:=by
 unfold fN
 cases hf:s.size - p with
 | zero=>rfl
 | succ f=>simp only [rC];rw [if_neg h]
theorem aF4 (s:ByteArray):∀f p,p≤rC s f p∧(p≤s.size→rC s f p≤s.size):=by
 intro f
 induction f with
 | zero=>intro p;exact ⟨Nat.le_refl _,fun h=>h⟩
 | succ f ih=>
  intro p
  simp only [rC]
  split
  ·rename_i h
   have:=ih (p+1)
   exact ⟨by omega,fun _=>this.2 (by omega)⟩
  ·exact ⟨Nat.le_refl _,fun h=>h⟩
structure Tk where
 kind:Nat
 txt:ByteArray
 pos:Nat
inductive Nx where
 | tok (t:Tk) (next:Nat)
 | bad (p:Nat)
 | stop (p:Nat)
def nF (c:Nat):Bool:=decide (c=124) || decide (c=126) || decide (c=40) || decide (c=41) || decide (c=44) || decide (c=46)
def dZ (s:ByteArray) (p:Nat):Nx:=
 if eH (aC s p) || eD (aC s p) then
  (if dH s p - p > 20 then .bad p else .tok ⟨if eD (aC s p) then 118 else 110,s.extract p (dH s p),p⟩ (dH s p))
 else if aC s p=39 then (match mC s p with | some (n,e)=>.tok ⟨110,n,p⟩ e | none=>.bad p)
 else if aC s p=36 then (if p+6≤s.size∧s.extract p (p+6)=⟨#[36,102,97,108,115,101]⟩ then .tok ⟨102,⟨#[]⟩,p⟩ (p+6) else .bad p)
 else if nF (aC s p) then .tok ⟨aC s p,⟨#[]⟩,p⟩ (p+1)
 else .bad p
def mD (c:Nat):Bool:=decide (c=32) || decide (c=9) || decide (c=10)
def oS (s:ByteArray):Nat→Nat→Nx
 | 0,p=>.stop p
 | f+1,p=>
  if p < s.size then
   if mD (aC s p) then oS s f (p+1)
   else if aC s p=37 then oS s f (fN s p)
   else dZ s p
  else .stop p
def bU (s:ByteArray):Nat→Nat→List Tk×Option Nat
 | 0,p=>([],some p)
 | f+1,p=>
  if p < s.size then
   if mD (aC s p) then bU s f (p+1)
   else if aC s p=37 then bU s f (fN s p)
   else match dZ s p with
    | .tok t e=>(t :: (bU s f e).1,(bU s f e).2)
    | _=>([],some p)
  else ([⟨101,⟨#[]⟩,p⟩],none)
theorem wR {s:ByteArray} {p:Nat} (h:p < s.size) (h37:aC s p=37):p < fN s p:=by
 rw [aAg h (by omega)]
 have:=(aF4 s (s.size - (p+1)) (p+1)).1
 unfold fN
 omega
theorem aAh {s:ByteArray} {p:Nat} (h:p≤s.size):fN s p≤s.size:=(aF4 s _ p).2 h
theorem aPi (s:ByteArray):∀f nm p n e,eI s f nm p=some (n,e)→p < e∧e≤s.size∧dW n=true:=by
 intro f
 induction f with
 | zero=>intro nm p n e h;simp [eI] at h
 | succ f ih=>
  intro nm p n e h
  simp only [eI] at h
  split at h
  ·rename_i hp
   split at h
   ·split at h
    ·rename_i hn
     simp at h
     obtain ⟨rfl,rfl⟩:=h
     exact ⟨by omega,by omega,hn⟩
    ·simp at h
   ·split at h
    ·split at h
     ·obtain ⟨i1,i2,i3⟩:=ih _ _ _ _ h;exact ⟨by omega,i2,i3⟩
     ·simp at h
    ·split at h
     ·simp at h
     ·obtain ⟨i1,i2,i3⟩:=ih _ _ _ _ h;exact ⟨by omega,i2,i3⟩
  ·simp at h
theorem aPj {s:ByteArray} {p:Nat} {n:ByteArray} {e:Nat} (h:mC s p=some (n,e)):p+1 < e∧e≤s.size∧dW n=true:=aPi s _ _ _ _ _ h
theorem aPk {s:ByteArray} {p:Nat} (h:p < s.size) (hl:(eH (aC s p) || eD (aC s p))=true):p < dH s p:=by
 rw [wQ h (by unfold fA;simp at hl ⊢;rcases hl with h | h <;> simp [h])]
 have:=aF1 s (p+1)
 omega
def aF5:Option Nat→Int
 | none=>-1
 | some p=>p
theorem aPl {s:ByteArray} {k:Nat} (hl:(eH (aC s k) || eD (aC s k))=true):dZ s k=if dH s k - k > 20 then .bad k else .tok ⟨if eD (aC s k) then 118 else 110,s.extract k (dH s k),k⟩ (dH s k):=by
 unfold dZ;rw [if_pos hl]
theorem aPm {s:ByteArray} {k:Nat} (hl:(eH (aC s k) || eD (aC s k))=false) (h39:aC s k=39):dZ s k=match mC s k with | some (n,e)=>.tok ⟨110,n,k⟩ e | none=>.bad k:=by
 unfold dZ;refine (if_neg (by rw [hl];decide)).trans ((if_pos h39).trans ?_);cases mC s k <;> rfl
theorem aPn {s:ByteArray} {k:Nat} (hl:(eH (aC s k) || eD (aC s k))=false) (h39:aC s k≠39) (h36:aC s k=36) :
  dZ s k=if k+6≤s.size∧s.extract k (k+6)=⟨#[36,102,97,108,115,101]⟩ then .tok ⟨102,⟨#[]⟩,k⟩ (k+6) else .bad k:=by
 unfold dZ;rw [if_neg (by rw [hl];decide),if_neg h39,if_pos h36]
theorem aPo {s:ByteArray} {k:Nat} (hl:(eH (aC s k) || eD (aC s k))=false) (h39:aC s k≠39) (h36:aC s k≠36) :
  dZ s k=if nF (aC s k) then .tok ⟨aC s k,⟨#[]⟩,k⟩ (k+1) else .bad k:=by
 unfold dZ;rw [if_neg (by rw [hl];decide),if_neg h39,if_neg h36]
abbrev Pl:=ByteArray×Bool×Int×Int
def aAi (x y:Pl):Prop:=x.1=y.1∧(x.2.1≠y.2.1∨x.2.2.1≠y.2.2.1)
def nG (l:List Pl) (i:Nat) (h:i < l.length):Prop:=5 < l[i].2.2.1∨∃k,∃hk:k < i,aAi (l[k]'(by omega)) l[i]
def tZ (l:List Pl) (r:Int):Prop:=(r=-1∧∀i h,¬nG l i h)∨∃i h,nG l i h∧(∀j hj,j < i→¬nG l j hj)∧r=l[i].2.2.2
def rD:Tk:=⟨63,⟨#[]⟩,0⟩
def dM (r:List Tk×Option Nat):List Tk:=r.1++(match r.2 with | some p=>[⟨63,⟨#[]⟩,p⟩] | none=>[])
def aD (T:List Tk) (i:Nat):Tk:=T.getD i rD
def uA:List ByteArray→ByteArray→Int
 | [],_=>-1
 | y :: r,x=>if y=x then (r.length:Int) else uA r x
def jA (l:List ByteArray) (x:ByteArray):Int:=uA l.reverse x
theorem aPp (x:ByteArray):jA [] x=-1:=rfl
theorem aF6 (l:List ByteArray) (y x:ByteArray):jA (l++[y]) x=if y=x then (l.length:Int) else jA l x:=by simp [jA,uA]
theorem aPq (l:List ByteArray) (x:ByteArray) : -1≤jA l x∧jA l x < l.length:=by
 unfold jA
 have hr:l.length=l.reverse.length:=by simp
 rw [hr]
 generalize l.reverse=m
 clear hr
 induction m with
 | nil=>simp [uA]
 | cons y r ih=>
  simp only [uA]
  split
  ·simp;omega
  ·simp;omega
structure aV where
 i:Nat
 vars:List ByteArray
 places:List Pl
def nH (l:List ByteArray) (x:ByteArray):List ByteArray:=if jA l x < 0 then l++[x] else l
def kF (l:List ByteArray) (x:ByteArray):Int:=if jA l x < 0 then l.length else jA l x
def nV (l:List Pl) (k:Nat) (n:Nat):List Pl:=l.modify k fun p=>(p.1,p.2.1,(n:Int),p.2.2.2)
def dF (l:List Nd) (k:Nat) (n:Nat):List Nd:=l.modify k fun p=>(p.1,(n:Int))
mutual
def bZ (T:List Tk):Nat→Bool→aV→List Nd→Except Nat (aV×List Nd)
 | 0,_,_,_=>.error 0
 | f+1,atom,st,l=>
  if (aD T st.i).kind=118∧atom=false then .ok (⟨st.i+1,nH st.vars (aD T st.i).txt,st.places⟩,l++[(⟨#[]⟩,kF st.vars (aD T st.i).txt)])
  else if (aD T st.i).kind≠110 then .error (aD T st.i).pos
  else if (aD T (st.i+1)).kind=40 then
   match dN T f ⟨st.i+1,st.vars,st.places++[((aD T st.i).txt,atom,0,((aD T st.i).pos:Int))]⟩ (l++[((aD T st.i).txt,0)]) 0 with
   | .error p=>.error p
   | .ok (st',l',n)=>.ok (⟨st'.i,st'.vars,nV st'.places st.places.length n⟩,dF l' l.length n)
  else .ok (⟨st.i+1,st.vars,st.places++[((aD T st.i).txt,atom,0,((aD T st.i).pos:Int))]⟩,l++[((aD T st.i).txt,0)])
def dN (T:List Tk):Nat→aV→List Nd→Nat→Except Nat (aV×List Nd×Nat)
 | 0,_,_,_=>.error 0
 | f+1,st,l,n=>
  match bZ T f false ⟨st.i+1,st.vars,st.places⟩ l with
  | .error p=>.error p
  | .ok (st',l')=>
   if (aD T st'.i).kind=44 then dN T f st' l' (n+1)
   else if (aD T st'.i).kind=41 then .ok (⟨st'.i+1,st'.vars,st'.places⟩,l',n+1)
   else .error (aD T st'.i).pos
end
def fG (T:List Tk):Nat→aV→List Lt→Except Nat (aV×List Lt)
 | 0,_,_=>.error 0
 | f+1,st,c=>
  match bZ T (T.length+1) true ⟨if (aD T st.i).kind=126 then st.i+1 else st.i,st.vars,st.places⟩ [] with
  | .error p=>.error p
  | .ok (st',a)=>
   if (aD T st'.i).kind=124 then fG T f ⟨st'.i+1,st'.vars,st'.places⟩ (c++[(decide ((aD T st.i).kind=126),a)])
   else .ok (st',c++[(decide ((aD T st.i).kind=126),a)])
def kG (T:List Tk) (st:aV):Except Nat (aV×List Lt):=
 if (aD T st.i).kind=102 then .ok (⟨st.i+1,[],st.places⟩,[]) else fG T (T.length+1) ⟨st.i,[],st.places⟩ []
def kH (T:List Tk) (st:aV):Except Nat (aV×List Lt):=
 match kG T st with
 | .error p=>.error p
 | .ok (st',c)=>if (aD T st'.i).kind=46 then .ok (⟨st'.i+1,st'.vars,st'.places⟩,c) else .error (aD T st'.i).pos
def gM (T:List Tk):Nat→aV→List (Nat×List Lt)→Except Nat (aV×List (Nat×List Lt))
 | 0,_,_=>.error 0
 | f+1,st,cs=>
  if (aD T st.i).kind=101 then .ok (st,cs)
  else match kH T st with
   | .error p=>.error p
   | .ok (st',c)=>gM T f st' (cs++[((aD T st.i).pos,c)])
def sJ (s:ByteArray):Except Nat (aV×List (Nat×List Lt)):=gM (dM (bU s (s.size+1) 0)) ((dM (bU s (s.size+1) 0)).length+1) ⟨0,[],[]⟩ []
theorem sK (T:List Tk):∀f,(∀atom st l st' l',bZ T f atom st l=.ok (st',l')→st.i < st'.i∧l.length < l'.length∧l'.length≤l.length+(st'.i - st.i)∧st.places.length≤st'.places.length∧st'.places.length≤st.places.length+(st'.i - st.i)∧st.vars.length≤st'.vars.length∧st'.vars.length≤st.vars.length+(st'.i - st.i))∧
  (∀st l n st' l' n',dN T f st l n=.ok (st',l',n')→st.i+1 < st'.i∧l.length≤l'.length∧l'.length+1≤l.length+(st'.i - st.i)∧st.places.length≤st'.places.length∧st'.places.length+1≤st.places.length+(st'.i - st.i)∧st.vars.length≤st'.vars.length∧st'.vars.length+1≤st.vars.length+(st'.i - st.i)∧n < n'∧n'≤n+(st'.i - st.i)):=by
 intro f
 induction f with
 | zero=>exact ⟨fun atom st l st' l' h=>by simp [bZ] at h,fun st l n st' l' n' h=>by simp [dN] at h⟩
 | succ f ih=>
  obtain ⟨ih1,ih2⟩:=ih
  constructor
  ·intro atom st l st' l' h
   rw [bZ] at h
   split at h
   ·simp only [Except.ok.injEq,Prod.mk.injEq] at h
    obtain ⟨rfl,rfl⟩:=h
    simp only [List.length_append,List.length_singleton,nH]
    split <;> simp <;> omega
   ·split at h
    ·simp at h
    ·split at h
     ·split at h
      ·simp at h
      ·rename_i st1 l1 n1 hp
       have q:=ih2 _ _ _ _ _ _ hp
       simp only [Except.ok.injEq,Prod.mk.injEq] at h
       obtain ⟨rfl,rfl⟩:=h
       simp only [List.length_append,List.length_singleton,nV,dF,List.length_modify] at q ⊢
       omega
     ·simp only [Except.ok.injEq,Prod.mk.injEq] at h
      obtain ⟨rfl,rfl⟩:=h
      simp only [List.length_append,List.length_singleton]
      omega
  ·intro st l n st' l' n' h
   rw [dN] at h
   split at h
   ·simp at h
   ·rename_i st1 l1 hp
    have q:=ih1 _ _ _ _ _ hp
    simp only at q
    split at h
    ·have q2:=ih2 _ _ _ _ _ _ h
     omega
    ·split at h
     ·simp only [Except.ok.injEq,Prod.mk.injEq] at h
      obtain ⟨rfl,rfl,rfl⟩:=h
      simp only
      omega
     ·simp at h
theorem eJ {B:Nat} {a w:World} (h:Below B a w) {p:Addr} (hp:B≤p.block) (u:Value):Below B a (w.setCell p u):=
 ⟨h.os,h.tape,h.output,by have:=h.size;simpa [World.setCell] using this,fun k hk=>by rw [Below.heap_setCell _ _ _ _ (by omega)];exact h.block k hk⟩
def wS (L:List Tk) (broken:Int) (i:Nat):Int:=if h:i < L.length then (L[i].pos:Int) else broken
theorem oT {w w':World} {b j:Nat} (h:w.grownBy w' (some b)) (u:Value):w.grownBy (w'.setCell ⟨b,j,none⟩ u) (some b):=
 ⟨h.os,h.tape,h.output,by have:=h.size;simpa [World.setCell] using this,fun k hk hne=>by rw [Below.heap_setCell _ _ _ _ (fun e=>hne (by rw [e]))];exact h.block k hk hne⟩
theorem aF7 (c:Int) (w:World):Calls Tryz.prog 67 #[.int .i32 c] w fun e w'=>e=.returned (.bool (eH c))∧w'=w:=by
 unfold eH
 by_cases h:97≤c
 all_goals
  go_enter Tryz.func67,Tryz.ntmps67
  go_wp2
  go_ret
  exact ⟨cO (by rw [Bool.eq_iff_iff];simp;omega),rfl⟩
theorem aF8 (c:Int) (w:World):Calls Tryz.prog 69 #[.int .i32 c] w fun e w'=>e=.returned (.bool (eD c))∧w'=w:=by
 unfold eD
 by_cases h:65≤c
 all_goals
  go_enter Tryz.func69,Tryz.ntmps69
  go_wp2
  go_ret
  exact ⟨cO (by rw [Bool.eq_iff_iff];simp;omega),rfl⟩
theorem aPr (c:Int) (w:World):Calls Tryz.prog 123 #[.int .i32 c] w fun e w'=>e=.returned (.bool (pZ c))∧w'=w:=by
 unfold pZ
 by_cases h:48≤c
 all_goals
  go_enter Tryz.func123,Tryz.ntmps123
  go_wp2
  go_ret
  exact ⟨cO (by rw [Bool.eq_iff_iff];simp;omega),rfl⟩
theorem aPs (c:Int) (w:World):Calls Tryz.prog 101 #[.int .i32 c] w fun e w'=>e=.returned (.bool (fA c))∧w'=w:=by
 have c1:=aF7 c w
 have c2:=aF8 c w
 have c3:=aPr c w
 have HI:Hid (fA c=(eH c || eD c || pZ c || c == 95)):=rfl
 generalize eH c=b1 at *
 generalize eD c=b2 at *
 generalize pZ c=b3 at *
 go_enter Tryz.func101,Tryz.ntmps101
 cases b1 <;> cases b2 <;> cases b3
 all_goals
  go_wp2_with (first
   | (go_at_call 67;refine c1.mono ?_;rintro e w' ⟨rfl,rfl⟩)
   | (go_at_call 69;refine c2.mono ?_;rintro e w' ⟨rfl,rfl⟩)
   | (go_at_call 123;refine c3.mono ?_;rintro e w' ⟨rfl,rfl⟩))
  go_ret
  exact ⟨cO (by rw [HI.out];simp),rfl⟩
def mE (c:Int):Bool:=decide (c=39) || decide (c=92)
theorem aPt (c:Int) (w:World):Calls Tryz.prog 102 #[.int .i32 c] w fun e w'=>e=.returned (.bool (mE c))∧w'=w:=by
 by_cases h:c=39
 ·have h1:(c == 39)=true:=by simp [h]
  have HE:=aA (show mE c=true by simp [mE,h])
  clear h
  go_enter Tryz.func102,Tryz.ntmps102
  go_wp2
  go_ret
  exact ⟨cO HE.out.symm,rfl⟩
 ·have h1:(c == 39)=false:=by simp [h]
  have HE:=aA (show mE c=(c == 92) by simp [mE,h];rfl)
  clear h
  go_enter Tryz.func102,Tryz.ntmps102
  go_wp2
  go_ret
  exact ⟨cO HE.out.symm,rfl⟩
end Go.Proofs.YtbddofieljiihaaGreatDoor
