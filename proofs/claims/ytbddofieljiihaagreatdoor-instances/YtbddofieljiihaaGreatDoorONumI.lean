/- The program: the number of a variable. Rows that are made whole, and filled. The document's table of terms, in memory; the head of a class. The document's table: two classes are one. Pure: classes of a table's rows, joined until nothing more follows. Pure: where terms begin and end in a list of nodes; what the document's table holds of a term that was put into it. Pure: a forest of places, whose roots stand for classes; classes that are joined, with what is still to be joined. Pure: which classes have an end. The document's table: has each class an end? The program's terms, in memory; the leader of a place. -/
import Derived.Test.YtbddofieljiihaaGreatDoorPCl0I
import Derived.Test.YtbddofieljiihaaGreatDoorLMemI
import Derived.OwnWalk
import Derived.Test.YtbddofieljiihaaGreatDoorRTermI
import Derived.RangeFuncNested
import Derived.RangeFuncBound
import Derived.RangeFuncCalls
import Derived.RangeFuncLeaves
namespace Go.Proofs.YtbddofieljiihaaGreatDoor
open Go.RowKit Go.Shelf Go.WideMaps
set_option maxRecDepth 100000
def eR (v:Value):Option (DataW Unit×List MemPlace):=
 match v with
 | .int .i64 x=>some (.lit (.int .i64 x),[])
 | _=>none
structure nC (D:DataW Unit) (sn:List Int):Prop where
 tidy:Maps.Tidy D
 size:Maps.size D=sn.length
 old:∀x,0≤dY sn x→Maps.has D (.int .i64 x)=true∧∀z,D.atKey (.int .i64 x) z=.lit (.int .i64 (dY sn x))
 new:∀x,dY sn x < 0→Maps.has D (.int .i64 x)=false
theorem nC.start:nC (.map []) []:=⟨⟨[],rfl,by simp⟩,rfl,fun x h=>by rw [aC6] at h;omega,fun x _=>rfl⟩
theorem nC.put {D:DataW Unit} {sn:List Int} {x:Int} (h:nC D sn) (hx:dY sn x < 0):nC (D.put (.int .i64 x) (.lit (.int .i64 sn.length))) (sn++[x]):=by
 have hkey:WideAt.IsKeyLit (.int .i64 x):=trivial
 refine ⟨h.tidy.put hkey _,?_,fun y hy=>?_,fun y hy=>?_⟩
 ·rw [Maps.size_put h.tidy,h.new x hx,h.size];simp
 ·rw [yG] at hy ⊢
  by_cases he:x=y
  ·subst he
   rw [if_pos rfl]
   exact ⟨Maps.has_put_same h.tidy.isMap hkey _,fun z=>Maps.atKey_put_same h.tidy.isMap hkey _ _⟩
  ·rw [if_neg he] at hy ⊢
   have hne:(Lit.int .i64 y)≠.int .i64 x:=fun e=>he (by simpa using e.symm)
   have ho:=h.old y hy
   exact ⟨by rw [Maps.has_put_other hne];exact ho.1,fun z=>by rw [Maps.atKey_put_other hne];exact ho.2 z⟩
 ·rw [yG] at hy
  by_cases he:x=y
  ·rw [if_pos he] at hy;omega
  ·rw [if_neg he] at hy
   have hne:(Lit.int .i64 y)≠.int .i64 x:=fun e=>he (by simpa using e.symm)
   rw [Maps.has_put_other hne]
   exact h.new y hy
theorem aA1 {x:Int} (h0 : -1000000000≤x) (h1:x≤1000000000):(Lit.int .i64 x).wf=true:=by
 simp [Lit.wf,IntKind.min,IntKind.max,IntKind.bits,IntKind.signed]
 omega
theorem wL {v:Value} {x:Int} {ps:List MemPlace} (h:eR v=some (.lit (.int .i64 x),ps)):v=.int .i64 x:=by
 unfold eR at h
 split at h
 ·simp at h;rw [h.1]
 ·simp at h
def mA (sn:List Int) (x:Int):List Int×Int:=if dY sn x < 0 then (sn++[x],(sn.length:Int)) else (sn,dY sn x)
set_option maxHeartbeats 1000000 in
theorem aOo (g:Nat) (D:DataW Unit) (sn:List Int) (x:Int) (w:World) (hown:w.ownsMap Tryz.prog 3 eR g sn.length D) (hN:nC D sn) (h0:0≤x) (h1:x≤1000000000) (hf:sn.length≤1000000) :
  Calls Tryz.prog 105 #[.map (some g),.int .i64 x] w fun e w'=>∃D':DataW Unit,e=.returned (.int .i64 (mA sn x).2)∧w'.ownsMap Tryz.prog 3 eR g (mA sn x).1.length D'∧nC D' (mA sn x).1∧w.grownBy w' (some g):=by
 have hkey:keyOf Tryz.prog 3 (.int .i64 x)=some (.int .i64 x):=Maps.keyOf_int_mk Tryz.underlying3 (aA1 (by omega) (by omega))
 obtain ⟨v,ps,hrun,hv⟩:=hown.look_ok (Maps.int_keyed Tryz.underlying3) Tryz.underlying148 (Tryz.zeroValue3 _) (zd:=.lit (.int .i64 0)) (zp:=[]) rfl hkey
 by_cases hp:dY sn x < 0
 ·have HST:Hid (mA sn x=(sn++[x],(sn.length:Int))):=aA (by unfold mA;rw [if_pos hp])
  have hhas:=hN.new x hp
  rw [hhas] at hrun
  rw [wJ hN.tidy.isMap hhas] at hv
  have hvv:=wL hv
  subst hvv
  have HN:=aA (hN.put hp)
  have HKEY:=aA hkey
  have HSZ:=aA hN.size
  have hlen:=hN.size
  clear hv hhas hN hkey hp
  go_enter Tryz.func105,Tryz.ntmps105
  go_wp2_with (first
   | (at_len;refine wpList_len_own _ rfl _ 148 rfl 3 3 Tryz.underlying148 _ g sn.length D rfl hown ?_)
   | (at_mapUpdate;refine wpList_mapUpdate_own _ rfl _ _ _ 148 rfl 3 3 (Maps.int_keyed Tryz.underlying3) Tryz.underlying148 eR g sn.length D rfl hown (by unfold maxLen;omega) _ _ (.int .i64 x) rfl rfl (aB HKEY) (.lit (.int .i64 sn.length)) [] ?_ ?_)
   | go_in)
  case refine_1=>rfl
  intro w1 hown1 hg1
  have HO:=aA hown1
  have HG:=aA hg1
  clear hown1 hg1
  go_wp2
  go_ret
  rw [HST.out]
  exact ⟨_,rfl,by rw [List.length_append];exact HO.out,HN.out,HG.out⟩
 ·have HST:Hid (mA sn x=(sn,dY sn x)):=aA (by unfold mA;rw [if_neg hp])
  have ho:=hN.old x (by omega)
  rw [ho.1] at hrun
  rw [ho.2] at hv
  have hvv:=wL hv
  subst hvv
  have HN:=aA hN
  have HOW:=aA hown
  clear hv ho hN hkey hp hown
  go_enter Tryz.func105,Tryz.ntmps105
  go_wp2
  go_ret
  rw [HST.out]
  exact ⟨D,rfl,HOW.out,HN.out,⟨rfl,rfl,rfl,Nat.le_refl _,fun _ _ _=>rfl⟩⟩
abbrev wM:Nd:=(⟨#[]⟩,0)
abbrev pY:Lt×Value:=((false,[]),.slice none 0 0)
theorem aA2 (x:Nd) (r:List Nd):aP (x :: r)=.string x.1 :: .int .i64 x.2 :: aP r:=rfl
theorem wN (x:Lt×Value) (r:List (Lt×Value)):aT (x :: r)=.bool x.1.1 :: x.2 :: aT r:=rfl
theorem aOp (l:List Nd):∀(k:Nat) (x:Nd),k < l.length→((aP l).set (k * 2) (.string x.1)).set (k * 2+1) (.int .i64 x.2)=aP (l.set k x):=by
 induction l with
 | nil=>intro k x h;simp at h
 | cons y r ih=>
  intro k x h
  cases k with
  | zero=>rfl
  | succ k=>
   have:=ih k x (by simpa using h)
   rw [show (k+1) * 2=k * 2+1+1 by omega,List.set_cons_succ,aA2,aA2,List.set_cons_succ,List.set_cons_succ,List.set_cons_succ,List.set_cons_succ,this]
theorem aOq (l:List (Lt×Value)):∀(k:Nat) (x:Lt×Value),k < l.length→((aT l).set (k * 2) (.bool x.1.1)).set (k * 2+1) x.2=aT (l.set k x):=by
 induction l with
 | nil=>intro k x h;simp at h
 | cons y r ih=>
  intro k x h
  cases k with
  | zero=>rfl
  | succ k=>
   have:=ih k x (by simpa using h)
   rw [show (k+1) * 2=k * 2+1+1 by omega,List.set_cons_succ,wN,wN,List.set_cons_succ,List.set_cons_succ,List.set_cons_succ,List.set_cons_succ,this]
theorem aEm {α:Type} (a:List α) (z x:α) (m:Nat) (h:a.length < m):(a++List.replicate (m - a.length) z).set a.length x=(a++[x])++List.replicate (m - (a.length+1)) z:=by
 rw [show m - a.length=(m - (a.length+1))+1 by omega,List.replicate_succ,List.set_append_right _ _ (Nat.le_refl _)]
 simp
theorem aOr (n:Nat):∀j,(aP (List.replicate n wM))[j]?=if j < n * 2 then some (if j % 2=0 then .string ⟨#[]⟩ else .int .i64 0) else none:=by
 induction n with
 | zero=>intro j;simp [aP]
 | succ n ih=>
  intro j
  rw [List.replicate_succ,aA2]
  match j with
  | 0=>simp
  | 1=>simp;omega
  | j+2=>
   simp only [List.getElem?_cons_succ]
   rw [ih j]
   have e:(j+2) % 2=j % 2:=by omega
   rw [e]
   by_cases h:j < n * 2
   ·rw [if_pos h,if_pos (show j+2 < (n+1) * 2 by omega)]
   ·rw [if_neg h,if_neg (show ¬j+2 < (n+1) * 2 by omega)]
theorem aOs (n:Nat):∀j,(aT (List.replicate n pY))[j]?=if j < n * 2 then some (if j % 2=0 then .bool false else .slice none 0 0) else none:=by
 induction n with
 | zero=>intro j;simp [aT]
 | succ n ih=>
  intro j
  rw [List.replicate_succ,wN]
  match j with
  | 0=>simp
  | 1=>simp;omega
  | j+2=>
   simp only [List.getElem?_cons_succ]
   rw [ih j]
   have e:(j+2) % 2=j % 2:=by omega
   rw [e]
   by_cases h:j < n * 2
   ·rw [if_pos h,if_pos (show j+2 < (n+1) * 2 by omega)]
   ·rw [if_neg h,if_neg (show ¬j+2 < (n+1) * 2 by omega)]
theorem aOt (n:Nat):(madeCells #[.string ⟨#[]⟩,.int .i64 0] (n * 2)).toList=aP (List.replicate n wM):=by
 apply List.ext_getElem?
 intro j
 rw [aOr]
 by_cases hj:j < n * 2
 ·rw [if_pos hj]
  rcases Nat.mod_two_eq_zero_or_one j with h | h <;> simp [madeCells,hj,h]
 ·rw [if_neg hj]
  simp [madeCells]
  omega
theorem aOu (n:Nat):(madeCells #[.bool false,.slice none 0 0] (n * 2)).toList=aT (List.replicate n pY):=by
 apply List.ext_getElem?
 intro j
 rw [aOs]
 by_cases hj:j < n * 2
 ·rw [if_pos hj]
  rcases Nat.mod_two_eq_zero_or_one j with h | h <;> simp [madeCells,hj,h]
 ·rw [if_neg hj]
  simp [madeCells]
  omega
theorem aEn {w:World} {B:Nat} {e:TypeId} {size:Nat} {v:Value} {n k m:Nat} {xs:List Value} {D:DataW Unit} (h:w.ownsRow B e size v n xs) (hm:w.ownsMap Tryz.prog 3 eR k m D):v.ownBlock≠some k:=by
 obtain ⟨es,clock,hh,_⟩:=hm
 obtain ⟨_,⟨rfl,_⟩ | ⟨g,cap,cur,rfl,_,hg,_⟩⟩:=h
 ·simp [Value.ownBlock]
 ·simp [Value.ownBlock]
  rintro rfl
  rw [hh] at hg
  simp at hg
theorem qX {w:World} {B:Nat} {e:TypeId} {size:Nat} {v:Value} {n:Nat} {xs:List Value} (h:w.ownsRow B e size v n xs) {p:Addr} (hp:some p.block≠v.ownBlock) (u:Value):(w.setCell p u).ownsRow B e size v n xs:=by
 obtain ⟨h1,⟨rfl,h2⟩ | ⟨g,cap,cur,rfl,hb,hh,hr⟩⟩:=h
 ·exact ⟨h1,Or.inl ⟨rfl,h2⟩⟩
 ·refine ⟨h1,Or.inr ⟨g,cap,cur,rfl,hb,?_,hr⟩⟩
  rw [heap_setCell_other _ _ _ _ (fun e=>hp (by simp [Value.ownBlock,e])),hh]
theorem aOv {α:Type} (l:List α) (p q:α→Bool) (h:∀x∈l,p x=true→q x=true) (x:α) (hx:x∈l) (hp:p x=false) (hq:q x=true):l.countP p < l.countP q:=by
 induction l with
 | nil=>simp at hx
 | cons y r ih=>
  have hr:r.countP p≤r.countP q:=List.countP_mono_left fun z hz=>h z (by simp [hz])
  rcases List.mem_cons.1 hx with rfl | hx
  ·rw [List.countP_cons,List.countP_cons,hp,hq];simp;omega
  ·have:=ih (fun z hz=>h z (by simp [hz])) hx
   rw [List.countP_cons,List.countP_cons]
   have hy:=h y (by simp)
   cases hpy:p y
   ·cases q y <;> simp <;> omega
   ·rw [hy hpy];simp;omega
end Go.Proofs.YtbddofieljiihaaGreatDoor
namespace Go.Proofs.YtbddofieljiihaaGreatDoor
set_option maxRecDepth 100000
theorem qY (s:List Nd):∀p q,aF s (p+q)=aF s p+aF (s.drop (aF s p)) q:=by
 induction s with
 | nil=>intro p q;cases p <;> cases q <;> simp [aF]
 | cons n r ih=>
  intro p q
  cases p with
  | zero=>simp
  | succ p=>
   rw [show p+1+q=(p+q)+1 by omega]
   simp only [aF]
   rw [show p+q+aX n=(p+aX n)+q by omega,ih (p+aX n) q,Nat.add_comm 1 (aF r (p+aX n)),List.drop_succ_cons]
   omega
def gK:List Nd→Nat→Nat→List Nat
 | _,0,_=>[]
 | s,k+1,b=>b :: gK (s.drop (aF s 1)) k (b+aF s 1)
@[simp] theorem aW4 (s:List Nd) (b:Nat):gK s 0 b=[]:=rfl
theorem lC (s:List Nd) (k b:Nat):gK s (k+1) b=b :: gK (s.drop (aF s 1)) k (b+aF s 1):=rfl
theorem aA3 (s:List Nd) (k:Nat):∀b,(gK s k b).length=k:=by
 induction k generalizing s with
 | zero=>intro b;rfl
 | succ k ih=>intro b;rw [lC];simp [ih]
theorem aOw (k:Nat):∀(s:List Nd) (j b:Nat),gK s (k+j) b=gK s k b++gK (s.drop (aF s k)) j (b+aF s k):=by
 induction k with
 | zero=>intro s j b;simp
 | succ k ih=>
  intro s j b
  rw [show k+1+j=(k+j)+1 by omega,lC,lC,ih,show aF s (k+1)=aF s 1+aF (s.drop (aF s 1)) k by rw [←qY];congr 1;omega,List.drop_drop,List.cons_append]
  simp [Nat.add_assoc,Nat.add_comm (aF s 1)]
def dL:List Nd→Nat→Prop
 | _,0=>True
 | [],_+1=>False
 | n :: r,q+1=>dL r (q+aX n)
@[simp] theorem aW5 (l:List Nd):dL l 0:=by cases l <;> trivial
theorem aEo (l:List Nd):∀q,aI l q=true→dL l q:=by
 induction l with
 | nil=>intro q h;simp [aI] at h;subst h;trivial
 | cons n r ih=>
  intro q h
  cases q with
  | zero=>trivial
  | succ q=>rw [kI,Bool.and_eq_true] at h;exact ih _ h.2
theorem sC (s:List Nd):∀p q,dL s (p+q)↔dL s p∧dL (s.drop (aF s p)) q:=by
 induction s with
 | nil=>
  intro p q
  cases p with
  | zero=>simp
  | succ p=>rw [show p+1+q=(p+q)+1 by omega];simp [dL]
 | cons n r ih=>
  intro p q
  cases p with
  | zero=>simp
  | succ p=>
   rw [show p+1+q=(p+q)+1 by omega]
   simp only [dL,aF]
   rw [show p+q+aX n=(p+aX n)+q by omega,ih,Nat.add_comm 1,List.drop_succ_cons]
theorem aA4 {s:List Nd} {q:Nat} (h:dL s (q+1)):0 < aF s (q+1):=by
 cases s with
 | nil=>exact h.elim
 | cons n r=>simp [aF];omega
theorem aA5 (k:Nat):∀(s:List Nd) (b:Nat),dL s k→∀x∈gK s k b,b≤x∧x < b+aF s k:=by
 induction k with
 | zero=>intro s b _ x h;simp at h
 | succ k ih=>
  intro s b hf x h
  rw [lC] at h
  have e:aF s (k+1)=aF s 1+aF (s.drop (aF s 1)) k:=by rw [←qY];congr 1;omega
  have hf1:=(sC s 1 k).1 (by rw [Nat.add_comm];exact hf)
  have hp:=aA4 (q:=0) hf1.1
  rw [Nat.zero_add] at hp
  rcases List.mem_cons.1 h with rfl | h
  ·omega
  ·have:=ih _ _ hf1.2 x h;omega
theorem aA6 (s t:List Nd):∀q,dL s q→aF (s++t) q=aF s q:=by
 induction s with
 | nil=>intro q h;cases q with
  | zero=>simp
  | succ q=>exact h.elim
 | cons n r ih=>
  intro q h
  cases q with
  | zero=>simp
  | succ q=>simp only [List.cons_append,aF];rw [ih _ h]
theorem aEp (s t:List Nd):∀q,dL s q→dL (s++t) q:=by
 induction s with
 | nil=>intro q h;cases q with
  | zero=>simp
  | succ q=>exact h.elim
 | cons n r ih=>
  intro q h
  cases q with
  | zero=>simp
  | succ q=>exact ih _ h
theorem aOx (k:Nat):∀(s t:List Nd) (b:Nat),dL s k→gK (s++t) k b=gK s k b:=by
 induction k with
 | zero=>intro s t b _;rfl
 | succ k ih=>
  intro s t b h
  have h1:=(sC s 1 k).1 (by rw [Nat.add_comm];exact h)
  rw [lC,lC,aA6 _ _ _ h1.1,List.drop_append_of_le_length (qA _ _),ih _ _ _ h1.2]
theorem aOy (s:List Nd):∀(q i:Nat),dL s q→i < aF s q→∃n,s[i]?=some n∧dL (s.drop (i+1)) (aX n)∧i+1+aF (s.drop (i+1)) (aX n)≤aF s q:=by
 induction s with
 | nil=>intro q i h hi;cases q <;> simp [aF] at hi
 | cons n r ih=>
  intro q i h hi
  cases q with
  | zero=>simp at hi
  | succ q=>
   simp only [aF] at hi ⊢
   have ha:=(sC r (aX n) q).1 (by rw [Nat.add_comm];exact h)
   have he:=qY r (aX n) q
   rw [Nat.add_comm (aX n) q] at he
   cases i with
   | zero=>exact ⟨n,rfl,by simpa using ha.1,by simp;omega⟩
   | succ i=>
    obtain ⟨m,h1,h2,h3⟩:=ih (q+aX n) i h (by omega)
    exact ⟨m,by simpa using h1,by simpa using h2,by simp;omega⟩
inductive dS (B:Nat→Nat→Prop):Nat→Nat→Prop
 | refl (i):dS B i i
 | base {i j}:B i j→dS B i j
 | symm {i j}:dS B i j→dS B j i
 | trans {i j k}:dS B i j→dS B j k→dS B i k
theorem dS.le {B R:Nat→Nat→Prop} (h1:∀i,R i i) (h2:∀i j,R i j→R j i) (h3:∀i j k,R i j→R j k→R i k) (hB:∀i j,B i j→R i j) {i j:Nat} (h:dS B i j):R i j:=by
 induction h with
 | refl i=>exact h1 i
 | base h=>exact hB _ _ h
 | symm _ ih=>exact h2 _ _ ih
 | trans _ _ a b=>exact h3 _ _ _ a b
theorem dS.mono {B B':Nat→Nat→Prop} (h:∀i j,B i j→dS B' i j) {i j:Nat} (k:dS B i j):dS B' i j:=k.le dS.refl (fun _ _=>dS.symm) (fun _ _ _=>dS.trans) h
def aE (L:List Nd):Gr:=⟨fun i=>(L[i]?).getD (⟨#[]⟩,0),fun i=>match L[i]? with | some n=>gK (L.drop (i+1)) (aX n) (i+1) | none=>[]⟩
theorem nS {L:List Nd} {i:Nat} (h:(aE L).named i):∃n,L[i]?=some n∧aH n=false:=by
 unfold Gr.named aE at h
 simp only at h
 cases hl:L[i]? with
 | none=>rw [hl] at h;simp only [Option.getD_none] at h;rw [rE] at h;cases h
 | some n=>rw [hl] at h;exact ⟨n,rfl,h⟩
theorem fV {L:List Nd} {i:Nat} {n:Nd} (h:L[i]?=some n):(aE L).named i↔aH n=false:=by
 unfold Gr.named aE;simp [h]
theorem nT {L:List Nd} {i:Nat} {n:Nd} (h:L[i]?=some n):(aE L).lab i=n:=by simp [aE,h]
theorem kE {L:List Nd} {i:Nat} {n:Nd} (h:L[i]?=some n):(aE L).ch i=gK (L.drop (i+1)) (aX n) (i+1):=by simp [aE,h]
theorem sD (L:List Nd):(aE L).Arity:=by
 intro i j hi hj e
 obtain ⟨n,h1,_⟩:=nS hi
 obtain ⟨m,h2,_⟩:=nS hj
 rw [nT h1,nT h2] at e
 rw [kE h1,kE h2,aA3,aA3,e]
structure eZ (F:List Nat) (rt d:Nat→Nat):Prop where
 lt:∀p q:Nat,F[p]?=some q→q < F.length
 root:∀p:Nat,F[p]?=some p→rt p=p
 step:∀p q:Nat,F[p]?=some q→q≠p→rt p=rt q∧d q < d p
 out:∀p:Nat,F.length≤p→rt p=p
theorem eZ.isRoot {F:List Nat} {rt d:Nat→Nat} (h:eZ F rt d):∀(n p:Nat),d p≤n→p < F.length→F[rt p]?=some (rt p):=by
 intro n
 induction n with
 | zero=>
  intro p hd hp
  obtain ⟨q,hq⟩ : ∃q,F[p]?=some q:=⟨F[p],List.getElem?_eq_getElem hp⟩
  by_cases e:q=p
  ·subst e;rw [h.root _ hq];exact hq
  ·have:=(h.step p q hq e).2;omega
 | succ n ih=>
  intro p hd hp
  obtain ⟨q,hq⟩ : ∃q,F[p]?=some q:=⟨F[p],List.getElem?_eq_getElem hp⟩
  by_cases e:q=p
  ·subst e;rw [h.root _ hq];exact hq
  ·have hs:=h.step p q hq e
   rw [hs.1]
   exact ih q (by omega) (h.lt p q hq)
theorem eZ.rootAt {F:List Nat} {rt d:Nat→Nat} (h:eZ F rt d) {p:Nat} (hp:p < F.length):F[rt p]?=some (rt p):=h.isRoot _ p (Nat.le_refl _) hp
theorem eZ.rt_lt {F:List Nat} {rt d:Nat→Nat} (h:eZ F rt d) {p:Nat} (hp:p < F.length):rt p < F.length:=(List.getElem?_eq_some_iff.1 (h.rootAt hp)).1
theorem eZ.rt_rt {F:List Nat} {rt d:Nat→Nat} (h:eZ F rt d) (p:Nat):rt (rt p)=rt p:=by
 by_cases hp:p < F.length
 ·exact h.root _ (h.rootAt hp)
 ·rw [h.out p (by omega),h.out p (by omega)]
def eS (rt:Nat→Nat) (a b p:Nat):Nat:=if rt p=a then b else rt p
def dJ (rt d:Nat→Nat) (a b p:Nat):Nat:=if rt p=a then d p+d b+1 else d p
theorem eZ.join {F:List Nat} {rt d:Nat→Nat} (h:eZ F rt d) {a b:Nat} (ha:F[a]?=some a) (hb:F[b]?=some b) (hne:a≠b):eZ (F.set a b) (eS rt a b) (dJ rt d a b):=by
 have hbl:=(List.getElem?_eq_some_iff.1 hb).1
 have hal:=(List.getElem?_eq_some_iff.1 ha).1
 have hra:=h.root a ha
 have hrb:=h.root b hb
 refine ⟨fun p q hq=>?_,fun p hp=>?_,fun p q hq hpq=>?_,fun p hp=>?_⟩
 ·rw [List.getElem?_set] at hq
  rw [List.length_set]
  split at hq
  ·simp at hq;omega
  ·exact h.lt p q hq
 ·rw [List.getElem?_set] at hp
  split at hp
  ·rename_i e;subst e;simp at hp;exact absurd hp.symm hne
  ·rename_i e
   have:=h.root p hp
   unfold eS
   rw [this,if_neg (fun x=>e x.symm)]
 ·rw [List.getElem?_set] at hq
  split at hq
  ·rename_i e;subst e
   simp at hq
   subst hq
   unfold eS dJ
   rw [hra,hrb,if_pos rfl,if_neg (fun x=>hne x.symm),if_neg (fun x=>hne x.symm),if_pos rfl]
   exact ⟨rfl,by omega⟩
  ·obtain ⟨h1,h2⟩:=h.step p q hq hpq
   unfold eS dJ
   rw [h1]
   refine ⟨rfl,?_⟩
   split <;> omega
 ·rw [List.length_set] at hp
  unfold eS
  rw [h.out p hp,if_neg (by omega)]
theorem aEq {rt:Nat→Nat} {a b:Nat} (p q:Nat):eS rt a b p=eS rt a b q↔rt p=rt q∨(rt p=a∧rt q=b)∨(rt p=b∧rt q=a):=by
 unfold eS
 by_cases h1:rt p=a <;> by_cases h2:rt q=a
 ·simp [h1,h2]
 ·rw [if_pos h1,if_neg h2,h1]
  constructor
  ·intro e;exact Or.inr (Or.inl ⟨rfl,e.symm⟩)
  ·rintro (e | ⟨_,e⟩ | ⟨_,e⟩)
   ·exact absurd e.symm h2
   ·exact e.symm
   ·exact absurd e h2
 ·rw [if_neg h1,if_pos h2,h2]
  constructor
  ·intro e;exact Or.inr (Or.inr ⟨e,rfl⟩)
  ·rintro (e | ⟨e,_⟩ | ⟨e,_⟩)
   ·exact absurd e h1
   ·exact absurd e h1
   ·exact e
 ·rw [if_neg h1,if_neg h2]
  constructor
  ·exact Or.inl
  ·rintro (e | ⟨e,_⟩ | ⟨_,e⟩)
   ·exact e
   ·exact absurd e h1
   ·exact absurd e h2
def lD (F:List Nat):Nat:=(List.range F.length).countP fun p=>F[p]? == some p
theorem aEr {F:List Nat} {a b:Nat} (ha:F[a]?=some a) (hne:a≠b):lD (F.set a b) < lD F:=by
 have hal:=(List.getElem?_eq_some_iff.1 ha).1
 unfold lD
 rw [List.length_set]
 refine aOv _ _ _ (fun p _ hp=>?_) a (by simpa using hal) ?_ ?_
 ·rw [List.getElem?_set] at hp
  split at hp
  ·rename_i e;subst e;simp at hp;omega
  ·exact hp
 ·rw [List.getElem?_set];simp [hal];omega
 ·simp [ha]
def dE (G:Gr) (E Q:Nat→Nat→Prop):Prop:=∀x y,E x y→G.named x→G.named y→G.lab x=G.lab y∧∀(k p q:Nat),(G.ch x)[k]?=some p→(G.ch y)[k]?=some q→dS (fun i j=>E i j∨Q i j) p q
structure qZ (E:Nat→Nat→Prop):Prop where
 refl:∀i,E i i
 symm:∀i j,E i j→E j i
 trans:∀i j k,E i j→E j k→E i k
theorem oR (rt:Nat→Nat):qZ fun p q=>rt p=rt q:=⟨fun _=>rfl,fun _ _ h=>h.symm,fun _ _ _ h k=>h.trans k⟩
def rA (Q:Nat→Nat→Prop) (a b:Nat) (i j:Nat):Prop:=Q i j∨(i=a∧j=b)
theorem dE.mono {G:Gr} {E Q Q':Nat→Nat→Prop} (h:dE G E Q) (k:∀i j,Q i j→Q' i j):dE G E Q':=fun x y e hx hy=>by
 obtain ⟨h1,h2⟩:=h x y e hx hy
 exact ⟨h1,fun n p q hp hq=>(h2 n p q hp hq).mono fun i j hij=>dS.base (hij.imp id (k i j))⟩
theorem dE.same {G:Gr} {E Q:Nat→Nat→Prop} {a b:Nat} (h:dE G E (rA Q a b)) (hab:E a b):dE G E Q:=fun x y e hx hy=>by
 obtain ⟨h1,h2⟩:=h x y e hx hy
 refine ⟨h1,fun n p q hp hq=>(h2 n p q hp hq).mono fun i j hij=>?_⟩
 rcases hij with hij | hij | ⟨rfl,rfl⟩
 ·exact dS.base (Or.inl hij)
 ·exact dS.base (Or.inr hij)
 ·exact dS.base (Or.inl hab)
def lE (E E':Nat→Nat→Prop) (a b:Nat):Prop:=∀p q,E' p q↔E p q∨(E p a∧E q b)∨(E p b∧E q a)
theorem lE.le {E E':Nat→Nat→Prop} {a b:Nat} (h:lE E E' a b) {p q:Nat} (e:E p q):E' p q:=(h p q).2 (Or.inl e)
theorem lE.ab {E E':Nat→Nat→Prop} {a b:Nat} (h:lE E E' a b) (hE:qZ E):E' a b:=(h a b).2 (Or.inr (Or.inl ⟨hE.refl a,hE.refl b⟩))
theorem lE.eqv {E E' Q Q':Nat→Nat→Prop} {a b:Nat} (h:lE E E' a b) (hE:qZ E) (hQ:∀i j,Q i j→Q' i j) {p q:Nat} (e:dS (fun i j=>E i j∨rA Q a b i j) p q):dS (fun i j=>E' i j∨Q' i j) p q:=
 e.mono fun i j hij=>by
  rcases hij with hij | hij | ⟨rfl,rfl⟩
  ·exact dS.base (Or.inl (h.le hij))
  ·exact dS.base (Or.inr (hQ _ _ hij))
  ·exact dS.base (Or.inl (h.ab hE))
theorem dE.var {G:Gr} {E E' Q:Nat→Nat→Prop} {a b:Nat} (h:dE G E (rA Q a b)) (hE:qZ E) (hm:lE E E' a b) (hv:(∀p,E p a→¬G.named p)∨∀p,E p b→¬G.named p):dE G E' Q:=fun x y e hx hy=>by
 rcases (hm x y).1 e with e | ⟨e1,e2⟩ | ⟨e1,e2⟩
 ·obtain ⟨h1,h2⟩:=h x y e hx hy
  exact ⟨h1,fun n p q hp hq=>hm.eqv hE (fun _ _=>id) (h2 n p q hp hq)⟩
 ·rcases hv with hv | hv
  ·exact absurd hx (hv x e1)
  ·exact absurd hy (hv y e2)
 ·rcases hv with hv | hv
  ·exact absurd hy (hv y e2)
  ·exact absurd hx (hv x e1)
def nD (G:Gr) (Q:Nat→Nat→Prop) (a b k:Nat) (i j:Nat):Prop:=Q i j∨∃n,k≤n∧(G.ch a)[n]?=some i∧(G.ch b)[n]?=some j
theorem dE.name {G:Gr} {E E' Q:Nat→Nat→Prop} {a b ra rb:Nat} (h:dE G E (rA Q a b)) (hE:qZ E) (hm:lE E E' a b) (hA:G.Arity) (h1:E a ra) (h2:E b rb) (n1:G.named ra) (n2:G.named rb) (hl:G.lab ra=G.lab rb):dE G E' (nD G Q ra rb 0):=by
 have key:∀x y,E x a→E y b→G.named x→G.named y→G.lab x=G.lab y∧∀(k p q:Nat),(G.ch x)[k]?=some p→(G.ch y)[k]?=some q→dS (fun i j=>E' i j∨nD G Q ra rb 0 i j) p q:=by
  intro x y ex ey hx hy
  obtain ⟨a1,a2⟩:=h x ra (hE.trans _ _ _ ex h1) hx n1
  obtain ⟨b1,b2⟩:=h y rb (hE.trans _ _ _ ey h2) hy n2
  refine ⟨a1.trans (hl.trans b1.symm),fun k p q hp hq=>?_⟩
  have hk1:k < (G.ch ra).length:=by rw [←hA x ra hx n1 a1];exact (List.getElem?_eq_some_iff.1 hp).1
  have hk2:k < (G.ch rb).length:=by rw [←hA y rb hy n2 b1];exact (List.getElem?_eq_some_iff.1 hq).1
  have c1:=hm.eqv hE (Q':=nD G Q ra rb 0) (fun i j hij=>Or.inl hij) (a2 k p _ hp (List.getElem?_eq_getElem hk1))
  have c2:=hm.eqv hE (Q':=nD G Q ra rb 0) (fun i j hij=>Or.inl hij) (b2 k q _ hq (List.getElem?_eq_getElem hk2))
  exact c1.trans ((dS.base (Or.inr (Or.inr ⟨k,Nat.zero_le _,List.getElem?_eq_getElem hk1,List.getElem?_eq_getElem hk2⟩))).trans c2.symm)
 intro x y e hx hy
 rcases (hm x y).1 e with e | ⟨e1,e2⟩ | ⟨e1,e2⟩
 ·obtain ⟨h3,h4⟩:=h x y e hx hy
  exact ⟨h3,fun n p q hp hq=>hm.eqv hE (fun i j hij=>Or.inl hij) (h4 n p q hp hq)⟩
 ·exact key x y e1 e2 hx hy
 ·obtain ⟨h3,h4⟩:=key y x e2 e1 hy hx
  exact ⟨h3.symm,fun k p q hp hq=>(h4 k q p hq hp).symm⟩
theorem dE.part {G:Gr} {E Q:Nat→Nat→Prop} {a b k p q:Nat} (h:dE G E (nD G Q a b k)) (hp:(G.ch a)[k]?=some p) (hq:(G.ch b)[k]?=some q):dE G E (rA (nD G Q a b (k+1)) p q):=
 h.mono fun i j hij=>by
  rcases hij with hij | ⟨n,h1,h2,h3⟩
  ·exact Or.inl (Or.inl hij)
  ·by_cases e:n=k
   ·subst e
    rw [hp] at h2
    rw [hq] at h3
    simp at h2 h3
    exact Or.inr ⟨h2.symm,h3.symm⟩
   ·exact Or.inl (Or.inr ⟨n,by omega,h2,h3⟩)
theorem dE.allParts {G:Gr} {E Q:Nat→Nat→Prop} {a b k:Nat} (h:dE G E (nD G Q a b k)) (hk:(G.ch a).length≤k):dE G E Q:=
 h.mono fun i j hij=>by
  rcases hij with hij | ⟨n,h1,h2,_⟩
  ·exact hij
  ·have:=(List.getElem?_eq_some_iff.1 h2).1;omega
theorem dE.done {G:Gr} {E B:Nat→Nat→Prop} (h:dE G E fun _ _=>False) (hE:qZ E) (hs:∀i j,E i j→Cl G B i j) (hb:∀i j,B i j→E i j):(∀i j,E i j↔Cl G B i j)∧jS G (Cl G B):=by
 have hd:iE G E:=⟨hE.refl,hE.symm,hE.trans,fun i j k p q hij hi hj hp hq=>((h i j hij hi hj).2 k p q hp hq).le hE.refl hE.symm hE.trans fun i j hij=>by
  rcases hij with hij | hij
  ·exact hij
  ·exact hij.elim⟩
 have hiff:∀i j,E i j↔Cl G B i j:=fun i j=>⟨hs i j,Cl.le hd hb⟩
 exact ⟨hiff,fun i j hij hi hj=>(h i j ((hiff i j).2 hij) hi hj).1⟩
end Go.Proofs.YtbddofieljiihaaGreatDoor
namespace Go.Proofs.YtbddofieljiihaaGreatDoor
open Go.RowKit Go.Shelf Go.WideMaps
set_option maxRecDepth 100000
theorem aL.mem_right {α β:Type} {R:α→β→Prop} {l:List α} {m:List β} (h:aL R l m) {b:β} (hb:b∈m):∃a∈l,R a b:=by
 induction h with
 | nil=>simp at hb
 | cons h1 _ ih=>
  rcases List.mem_cons.1 hb with rfl | hb
  ·exact ⟨_,by simp,h1⟩
  ·obtain ⟨a,ha,hr⟩:=ih hb
   exact ⟨a,by simp [ha],hr⟩
theorem aEs {w:World} {B:Nat} {v:Value} {l:List Nat} (h:w.ownsRow B 3 1 v l.length (l.map fun x:Nat=>Value.int .i64 x)) :
  ∃a cap,v=.slice a l.length cap∧∀k (h:k < l.length),∃g,a=some ⟨g,0,none⟩∧w.cell? ⟨g,k,none⟩=some (.int .i64 l[k]):=by
 have h':w.ownsRow B 3 1 v (l.map fun x:Nat=>(x:Int)).length ((l.map fun x:Nat=>(x:Int)).map (Value.int .i64)):=by
  simpa [List.map_map,Function.comp_def] using h
 obtain ⟨a,cap,e,hc⟩:=aC8 h'
 refine ⟨a,cap,by simpa using e,fun k hk=>?_⟩
 obtain ⟨g,h1,h2⟩:=hc k (by simpa using hk)
 exact ⟨g,h1,by simpa using h2⟩
def dU (L:List Nd):List Nat:=(List.range L.length).map fun p=>p+aF (L.drop p) 1
theorem fM (L:List Nd):(dU L).length=L.length:=by simp [dU]
theorem sE (L:List Nd) (p:Nat) (h:p < L.length):(dU L)[p]?=some (p+aF (L.drop p) 1):=by simp [dU,h]
abbrev mB (l:List Nat):List Value:=l.map fun x:Nat=>Value.int .i64 x
structure bA (w:World) (B tb:Nat) (vn ve vl vs vm:Value) (L:List Nd) (F:List Nat) (S:List Int):Prop where
 box:w.heap[tb]?=some (.cells #[vn,ve,vl,vs,vm] 176)
 high:B≤tb
 rn:w.ownsRow B 106 2 vn L.length (aP L)
 re:w.ownsRow B 3 1 ve L.length (mB (dU L))
 rl:w.ownsRow B 3 1 vl L.length (mB F)
 rs:w.ownsRow B 3 1 vs L.length (S.map (Value.int .i64))
 lf:F.length=L.length
 ls:S.length=L.length
 few:L.length≤1000000
 short:∀n∈L,n.1.size≤140737488355328
 ab:ve.ownBlock≠vl.ownBlock
 ac:ve.ownBlock≠vs.ownBlock
 bc:vl.ownBlock≠vs.ownBlock
section
variable {w:World} {B tb:Nat} {vn ve vl vs vm:Value} {L:List Nd} {F:List Nat} {S:List Int}
theorem bA.c0 (h:bA w B tb vn ve vl vs vm L F S):w.cell? ⟨tb,0,none⟩=some vn:=by simp [World.cell?,h.box]
theorem bA.c1 (h:bA w B tb vn ve vl vs vm L F S):w.cell? ⟨tb,1,none⟩=some ve:=by simp [World.cell?,h.box]
theorem bA.c2 (h:bA w B tb vn ve vl vs vm L F S):w.cell? ⟨tb,2,none⟩=some vl:=by simp [World.cell?,h.box]
theorem bA.c3 (h:bA w B tb vn ve vl vs vm L F S):w.cell? ⟨tb,3,none⟩=some vs:=by simp [World.cell?,h.box]
theorem aA7 {w:World} {B:Nat} {v:Value} {l:List Nat} {n:Nat} (h:w.ownsRow B 3 1 v n (mB l)) (hl:l.length=n) :
  ∃a cap,v=.slice a n cap∧∀k (h:k < l.length),∃g,a=some ⟨g,0,none⟩∧w.cell? ⟨g,k,none⟩=some (.int .i64 l[k]):=by
 subst hl
 exact aEs h
theorem aOz {w:World} {B:Nat} {v:Value} {l:List Int} {n:Nat} (h:w.ownsRow B 3 1 v n (l.map (Value.int .i64))) (hl:l.length=n) :
  ∃a cap,v=.slice a n cap∧∀k (h:k < l.length),∃g,a=some ⟨g,0,none⟩∧w.cell? ⟨g,k,none⟩=some (.int .i64 l[k]):=by
 subst hl
 exact aC8 h
theorem bA.below (h:bA w B tb vn ve vl vs vm L F S) {wx:World} (k:Below w.heap.size w wx):bA wx B tb vn ve vl vs vm L F S:=
 ⟨by rw [k.block tb (Array.getElem?_eq_some_iff.1 h.box).1,h.box],h.high,aZ h.rn k (Nat.le_refl _),aZ h.re k (Nat.le_refl _),aZ h.rl k (Nat.le_refl _),aZ h.rs k (Nat.le_refl _),h.lf,h.ls,h.few,h.short,h.ab,h.ac,h.bc⟩
theorem bA.drewN (h:bA w B tb vn ve vl vs vm L F S) (d:Nat):bA (w.drewN d) B tb vn ve vl vs vm L F S:=h.below (aJ ⟨d,rfl⟩)
theorem bA.grown (h:bA w B tb vn ve vl vs vm L F S) {wx:World} {o:Option Nat} (hg:w.grownBy wx o) (h0:o≠some tb) (h1:vn.ownBlock=none∨vn.ownBlock≠o) (h2:ve.ownBlock=none∨ve.ownBlock≠o) (h3:vl.ownBlock=none∨vl.ownBlock≠o) (h4:vs.ownBlock=none∨vs.ownBlock≠o):bA wx B tb vn ve vl vs vm L F S:=
 ⟨by rw [hg.block tb (Array.getElem?_eq_some_iff.1 h.box).1 (fun e=>h0 e.symm),h.box],h.high,cX h.rn hg h1,cX h.re hg h2,cX h.rl hg h3,cX h.rs hg h4,h.lf,h.ls,h.few,h.short,h.ab,h.ac,h.bc⟩
theorem tW {w:World} {B:Nat} {e:TypeId} {size:Nat} {v:Value} {n:Nat} {xs:List Value} (h:w.ownsRow B e size v n xs) {r:Nat} (hr:v.ownBlock=some r):∃o:Obj,w.heap[r]?=some o∧o.isCells=true:=by
 obtain ⟨_,⟨rfl,_⟩ | ⟨g,cap,cur,rfl,_,hg,_⟩⟩:=h
 ·simp [Value.ownBlock] at hr
 ·simp [Value.ownBlock] at hr
  subst hr
  exact ⟨_,hg,rfl⟩
theorem tX {w:World} {B:Nat} {e:TypeId} {size:Nat} {v:Value} {n:Nat} {xs:List Value} (h:w.ownsRow B e size v n xs) {o:Option Nat} (ho:∀r,o=some r→∃x:Obj,w.heap[r]?=some x∧x.isCells=false):v.ownBlock=none∨v.ownBlock≠o:=by
 cases hv:v.ownBlock with
 | none=>exact Or.inl rfl
 | some g=>
  right
  intro e
  obtain ⟨x,h1,h2⟩:=ho g e.symm
  obtain ⟨y,h3,h4⟩:=tW h hv
  rw [h1] at h3
  simp at h3
  subst h3
  rw [h2] at h4
  cases h4
theorem bA.others (h:bA w B tb vn ve vl vs vm L F S) {wx:World} {o:Option Nat} (hg:w.grownBy wx o) (ho:∀r,o=some r→∃x:Obj,w.heap[r]?=some x∧x.isCells=false):bA wx B tb vn ve vl vs vm L F S:=
 h.grown hg (fun e=>by obtain ⟨x,h1,h2⟩:=ho tb e;rw [h.box] at h1;simp at h1;subst h1;cases h2) (tX h.rn ho) (tX h.re ho) (tX h.rl ho) (tX h.rs ho)
theorem aEt (F:List Nat) (a b:Nat):(mB F).set a (.int .i64 b)=mB (F.set a b):=by rw [←List.map_set]
theorem bA.lead {gl cl:Nat} (h:bA w B tb vn ve (.slice (some ⟨gl,0,none⟩) L.length cl) vs vm L F S) (a b:Nat):bA (w.setCell ⟨gl,a,none⟩ (.int .i64 b)) B tb vn ve (.slice (some ⟨gl,0,none⟩) L.length cl) vs vm L (F.set a b) S∧w.grownBy (w.setCell ⟨gl,a,none⟩ (.int .i64 b)) (some gl):=by
 have hg:=cB w ⟨gl,a,none⟩ (.int .i64 b)
 refine ⟨⟨?_,h.high,cX h.rn hg ?_,cX h.re hg (Or.inr h.ab),?_,cX h.rs hg (Or.inr fun e=>h.bc e.symm),by rw [List.length_set];exact h.lf,h.ls,h.few,h.short,h.ab,h.ac,h.bc⟩,hg⟩
 ·rw [hg.block tb (Array.getElem?_eq_some_iff.1 h.box).1 (fun e=>dD h.rl h.box (by decide) e.symm),h.box]
 ·rcases eV h.rn h.rl (by decide) with e | e
  ·exact Or.inl e
  ·exact Or.inr e
 ·have r:=(h.rl.stored a (.int .i64 b)).1
  rw [aEt] at r
  exact r
end
theorem aA8 (B tb:Nat) (vn ve vl vs vm:Value) (L:List Nd) (F:List Nat) (S:List Int) (rt d:Nat→Nat) (p:Nat) (w:World) (h:bA w B tb vn ve vl vs vm L F S) (hF:eZ F rt d) (hp:p < L.length) :
  Calls Tryz.prog 144 #[.pointer (some ⟨tb,0,none⟩),.int .i64 p] w fun e w'=>e=.returned (.int .i64 (rt p))∧w'=w:=by
 obtain ⟨al,cl,rfl,hl⟩:=aA7 h.rl h.lf
 have c2:=h.c2
 have HL:=aA hl
 have HF:=aA hF
 have hlf:=h.lf
 have hfew:=h.few
 have HLF:=aA hlf
 clear hl hF h hlf
 go_enter Tryz.func144,Tryz.ntmps144
 go_wp2
 go_loop [1] (fun q=>∃k:Nat,k < L.length∧rt k=rt p∧q=.int .i64 k) (fun q=>d (intOf q).toNat)
 case atStart=>exact ⟨p,hp,rfl,rfl⟩
 case round=>
  obtain ⟨k,hk,hr,rfl⟩:=hrel
  obtain ⟨g,rfl,e1⟩:=HL.out k (by rw [HLF.out];exact hk)
  have hki:(k:Int) < (L.length:Int):=by omega
  have hkf:k < F.length:=by rw [HLF.out];exact hk
  have hq:F[k]?=some F[k]:=List.getElem?_eq_getElem hkf
  have hql:=HF.out.lt k _ hq
  have hst:=HF.out.step k _ hq
  have hro:=HF.out.root k
  generalize F[k]=q at *
  by_cases e:q=k
  ·have HR:Hid (rt p=k):=aA (by rw [←hr];exact hro (by rw [hq,e]))
   have hb:((q:Int) != (k:Int))=false:=by rw [e];simp
   clear hst hro hq hr
   subst e
   clear hb
   go_wp2
   go_ret
   exact ⟨sX (by rw [HR.out]),rfl⟩
  ·have hb:((q:Int) != (k:Int))=true:=by rw [bne_iff_ne];omega
   have HS:=aA (hst e)
   have HR:=aA hr
   have HQ:=aA (show q < L.length by rw [←HLF.out];exact hql)
   clear hst hro hq hr hql
   go_wp2
   go_round
   case rel=>exact ⟨q,HQ.out,by rw [←HS.out.1];exact HR.out,rfl⟩
   case measure=>have:=HS.out.2;simpa [intOf] using this
end Go.Proofs.YtbddofieljiihaaGreatDoor
