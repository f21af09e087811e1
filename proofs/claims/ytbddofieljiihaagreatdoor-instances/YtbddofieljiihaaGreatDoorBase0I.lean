/- Small words for the walks. What a slice of nodes, and of literals, holds in memory: plain words for the walks. What stays as it was while a call appends to rows of its own: words for the walks. The document's own answer: how many bytes the character has that begins at a place; may a name be so. The document's own answer: may a name be so. The document's own answer: is a list of nodes a term. The document's own answer: variables are numbered from 0 on as they stand first. The document's own answer: are two lists of nodes the same, are two clauses, how many nodes has a clause, does it fit. The document's own answer: literals in order. -/
import Derived.Test.YtbddofieljiihaaGreatDoorChecked
import Derived.WalkKit
import Derived.WalkSpells
import Derived.WalkLawsBesides
import Derived.Laws.StructEq
import Derived.Deep.QuietTactic
import Derived.BigQuiet
namespace Go.Proofs.YtbddofieljiihaaGreatDoor
open Go.RowKit
theorem aA {p:Prop} (h:p):Hid p:=h
theorem aB {p:Prop} (h:Hid p):p:=h
theorem sX {k:IntKind} {a b:Int} (h:a=b):Ending.returned (.int k a)=.returned (.int k b):=by rw [h]
theorem cO {a b:Bool} (h:a=b):Ending.returned (.bool a)=.returned (.bool b):=by rw [h]
theorem jX (w:World) (n m:Nat):∃k,(w.drewN n).drewN m=w.drewN k:=⟨_,World.drewN_drewN _ _ _⟩
theorem aJ {w w1:World} (h:∃n,w1=w.drewN n):Below w.heap.size w w1:=by
 obtain ⟨n,rfl⟩:=h
 exact ⟨rfl,rfl,rfl,Nat.le_refl _,fun _ _=>rfl⟩
theorem Below.at' {w w1:World} {B:Nat} (h:Below B w w1) (hB:w.heap.size≤B) {a:Addr} {v:Value} (hc:w.cell? a=some v):w1.cell? a=some v:=
 (h.cell (Nat.lt_of_lt_of_le (World.block_lt_of_cell? w a hc) hB)).trans hc
abbrev Nd:=ByteArray×Int
abbrev Lt:=Bool×List Nd
structure dB (w:World) (a:Option Addr) (l:List Nd):Prop where
 few:l.length≤5864062014805
 short:∀k (h:k < l.length),l[k].1.size≤140737488355328
 cell:∀k (h:k < l.length),∃b o,a=some ⟨b,o,none⟩∧w.cell? ⟨b,o+k * 2,none⟩=some (.string l[k].1)∧w.cell? ⟨b,o+k * 2+1,none⟩=some (.int .i64 l[k].2)
structure bP (w:World) (a:Option Addr) (c:List Lt):Prop where
 few:c.length≤4398046511104
 cell:∀k (h:k < c.length),∃b o aa cap,a=some ⟨b,o,none⟩∧w.cell? ⟨b,o+k * 2,none⟩=some (.bool c[k].1)∧w.cell? ⟨b,o+k * 2+1,none⟩=some (.slice aa c[k].2.length cap)∧dB w aa c[k].2
theorem dB.below {w w1:World} {a:Option Addr} {l:List Nd} (h:dB w a l) {B:Nat} (k:Below B w w1) (hB:w.heap.size≤B):dB w1 a l:=
 ⟨h.few,h.short,fun j hj=>by obtain ⟨b,o,h1,h2,h3⟩:=h.cell j hj;exact ⟨b,o,h1,Below.at' k hB h2,Below.at' k hB h3⟩⟩
theorem bP.below {w w1:World} {a:Option Addr} {l:List Lt} (h:bP w a l) {B:Nat} (k:Below B w w1) (hB:w.heap.size≤B):bP w1 a l:=
 ⟨h.few,fun j hj=>by obtain ⟨b,o,aa,cap,h1,h2,h3,h4⟩:=h.cell j hj;exact ⟨b,o,aa,cap,h1,Below.at' k hB h2,Below.at' k hB h3,h4.below k hB⟩⟩
theorem bP.drawn {w w1:World} {a:Option Addr} {l:List Lt} (h:bP w a l) (k:∃n,w1=w.drewN n):bP w1 a l:=h.below (aJ k) (Nat.le_refl _)
theorem bP.drewN {w:World} {a:Option Addr} {l:List Lt} (h:bP w a l) (n:Nat):bP (w.drewN n) a l:=h.drawn ⟨n,rfl⟩
theorem aIl:Tryz.prog.stoodInHeld 106=false:=by kernel_rfl
theorem sY:Tryz.prog.eqGuardType Tryz.prog.depth 106=false:=by kernel_rfl
theorem aIm:Tryz.prog.underlying 106=some (.struct (Tryz.prog.fieldsOf 106)):=by kernel_rfl
def vG (s:ByteArray) (a:Int) (t:ByteArray) (b:Int):Bool:=s.toList == t.toList && a == b
theorem vH {s t:ByteArray}:s.toList=t.toList↔s=t:=by
 rw [ByteArray.toList_eq,ByteArray.toList_eq]
 obtain ⟨⟨x⟩⟩:=s
 obtain ⟨⟨y⟩⟩:=t
 simp
theorem sZ (x y:ByteArray×Int):vG x.1 x.2 y.1 y.2=decide (x=y):=by
 rw [Bool.eq_iff_iff]
 simp [vG,vH,Prod.ext_iff]
theorem tA (s t:ByteArray) (a b:Int) (w:World):(Op.equalIn 10000 106 (.agg #[.string s,.int .i64 a]) (.agg #[.string t,.int .i64 b])).run Tryz.prog w=.ok (vG s a t b) w:=by
 unfold vG
 rw [show (10000:Nat)=9999+1 from rfl,run_equalIn_agg w 9999 106 _ _ aIm aIl]
 simp only [Program.fieldsOf,Tryz.underlying106]
 go_simp
 cases h1:(s.toList == t.toList) <;> cases h2:(a == b) <;> simp_all
theorem bY {w:World} {B:Nat} {e:TypeId} {size:Nat} {v:Value} {n:Nat} {xs:List Value} (h:w.ownsRow B e size v n xs):∀k,v.ownBlock=some k→B≤k∧k < w.heap.size:=World.ownsRow.lt h
theorem eV {w:World} {B B':Nat} {e e':TypeId} {size size':Nat} {v v':Value} {n n':Nat} {xs xs':List Value} (h:w.ownsRow B e size v n xs) (h':w.ownsRow B' e' size' v' n' xs') (he:e≠e'):v.ownBlock=none∨v.ownBlock≠v'.ownBlock:=by
 obtain ⟨_,⟨rfl,_⟩ | ⟨g,cap,cur,rfl,hb,hh,_⟩⟩:=h
 ·exact Or.inl rfl
 ·obtain ⟨_,⟨rfl,_⟩ | ⟨g',cap',cur',rfl,hb',hh',_⟩⟩:=h'
  ·right;simp [Value.ownBlock]
  ·right
   simp [Value.ownBlock]
   rintro rfl
   rw [hh] at hh'
   simp at hh'
   exact he hh'.2
theorem aZ {w w':World} {B B':Nat} {e:TypeId} {size:Nat} {v:Value} {n:Nat} {xs:List Value} (h:w.ownsRow B e size v n xs) (k:Below B' w w') (hB:w.heap.size≤B'):w'.ownsRow B e size v n xs:=by
 obtain ⟨h1,⟨rfl,h2⟩ | ⟨g,cap,cur,rfl,hb,hh,hr⟩⟩:=h
 ·exact ⟨h1,Or.inl ⟨rfl,h2⟩⟩
 ·refine ⟨h1,Or.inr ⟨g,cap,cur,rfl,hb,?_,hr⟩⟩
  have hg:g < w.heap.size:=(Array.getElem?_eq_some_iff.1 hh).1
  rw [k.block g (by omega),hh]
theorem fS {w:World} {B B':Nat} {e:TypeId} {size:Nat} {v:Value} {n:Nat} {xs:List Value} (h:w.ownsRow B e size v n xs) (hB:B'≤B):w.ownsRow B' e size v n xs:=by
 obtain ⟨h1,⟨rfl,h2⟩ | ⟨g,cap,cur,rfl,hb,hr⟩⟩:=h
 ·exact ⟨h1,Or.inl ⟨rfl,h2⟩⟩
 ·exact ⟨h1,Or.inr ⟨g,cap,cur,rfl,by omega,hr⟩⟩
def aP (l:List Nd):List Value:=l.flatMap fun n=>[.string n.1,.int .i64 n.2]
theorem aIn (l:List Nd):(aP l).length=l.length * 2:=by
 induction l with
 | nil=>rfl
 | cons x r ih=>simp [aP] at ih ⊢;omega
theorem tB (l:List Nd) (x:Nd):aP (l++[x])=aP l++[.string x.1,.int .i64 x.2]:=by simp [aP]
theorem tC (l:List Nd):∀k (h:k < l.length),(aP l)[k * 2]?=some (.string l[k].1)∧(aP l)[k * 2+1]?=some (.int .i64 l[k].2):=by
 induction l with
 | nil=>intro k h;simp at h
 | cons x r ih=>
  intro k h
  cases k with
  | zero=>simp [aP]
  | succ k=>
   have:=ih k (by simpa using h)
   have e1:(k+1) * 2=k * 2+2:=by omega
   have e2:(k+1) * 2+1=k * 2+1+2:=by omega
   rw [e1]
   simp only [aP,List.flatMap_cons,List.cons_append,List.nil_append,List.getElem?_cons_succ,List.getElem_cons_succ] at this ⊢
   exact this
theorem tD {w:World} {B:Nat} {v:Value} {l:List Nd} (h:w.ownsRow B 106 2 v l.length (aP l)) (hf:l.length≤5864062014805) (hs:∀k (h:k < l.length),l[k].1.size≤140737488355328) :
  ∃a cap,v=.slice a l.length cap∧dB w a l:=by
 obtain ⟨h1,⟨rfl,h2⟩ | ⟨g,cap,cur,rfl,hb,hh,hc,hm,hz,ht⟩⟩:=h
 ·refine ⟨none,0,by rw [h2],⟨hf,hs,fun k hk=>by omega⟩⟩
 ·have ho:w.ownsRow B 106 2 (.slice (some ⟨g,0,none⟩) l.length cap) l.length (aP l):=⟨h1,Or.inr ⟨g,cap,cur,rfl,hb,hh,hc,hm,hz,ht⟩⟩
  refine ⟨_,_,rfl,⟨hf,hs,fun k hk=>⟨g,0,rfl,?_,?_⟩⟩⟩
  ·rw [Nat.zero_add,ho.cellAt (k * 2) (by omega),(tC l k hk).1]
  ·rw [Nat.zero_add,ho.cellAt (k * 2+1) (by omega),(tC l k hk).2]
end Go.Proofs.YtbddofieljiihaaGreatDoor
namespace Go.Proofs.YtbddofieljiihaaGreatDoor
open Go.RowKit
set_option maxRecDepth 100000
def aC (s:ByteArray) (i:Nat):Nat:=if h:i < s.size then (s[i]'h).toNat else 0
theorem kR (s:ByteArray) (i:Nat) (h:i < s.size):aC s i=(s[i]'h).toNat:=dif_pos h
def cK (b:Nat):Nat:=if b < 128 then 1 else if b < 194 then 0 else if b < 224 then 2 else if b < 240 then 3 else if b < 245 then 4 else 0
def kS (b:Nat):Bool:=decide (128≤b) && decide (b≤191)
def qK (b c:Nat):Bool:=(decide (b=224) && decide (c < 160)) || (decide (b=237) && decide (159 < c)) || (decide (b=240) && decide (c < 144)) || (decide (b=244) && decide (143 < c))
theorem aIo (b c:Nat):qK b c=true↔(b=224∧c < 160)∨(b=237∧159 < c)∨(b=240∧c < 144)∨(b=244∧143 < c):=by
 simp [qK,or_assoc]
def bD (s:ByteArray) (at':Nat):Nat:=
 let b:=aC s at'
 let z:=cK b
 if z≤1 then z
 else if s.size < at'+z then 0
 else if (List.range z).all (fun i=>i == 0 || kS (aC s (at'+i))) && !qK b (aC s (at'+1)) then z else 0
theorem qL (s:ByteArray) (p:Nat) (h:cK (aC s p)≤1):bD s p=cK (aC s p):=by simp [bD,h]
theorem aIp (s:ByteArray) (p z:Nat) (hz:cK (aC s p)=z) (h1:¬z≤1) (h:s.size < p+z):bD s p=0:=by subst hz;simp [bD,h1,h]
theorem aC5 (s:ByteArray) (p z i:Nat) (hz:cK (aC s p)=z) (h1:¬z≤1) (hi:0 < i) (hiz:i < z) (hc:kS (aC s (p+i))=false):bD s p=0:=by
 subst hz
 have:((List.range (cK (aC s p))).all (fun i=>i == 0 || kS (aC s (p+i))))=false:=by
  rw [Bool.eq_false_iff]
  intro h
  rw [List.all_eq_true] at h
  have:=h i (by simpa using hiz)
  simp [hc] at this
  omega
 simp [bD,h1,this]
theorem aIq (s:ByteArray) (p z:Nat) (hz:cK (aC s p)=z) (h1:¬z≤1) (h:¬s.size < p+z) (hc:∀i,0 < i→i < z→kS (aC s (p+i))=true) :
  bD s p=if qK (aC s p) (aC s (p+1)) then 0 else z:=by
 subst hz
 have:((List.range (cK (aC s p))).all (fun i=>i == 0 || kS (aC s (p+i))))=true:=by
  rw [List.all_eq_true]
  intro i hi
  by_cases h0:i=0
  ·simp [h0]
  ·simp [hc i (by omega) (by simpa using hi)]
 simp only [bD,if_neg h1,if_neg h,this,Bool.true_and]
 cases qK (aC s p) (aC s (p+1)) <;> simp
theorem yC (s:ByteArray) (p:Nat) (h:p < s.size):p+bD s p≤s.size:=by
 by_cases h1:cK (aC s p)≤1
 ·rw [qL s p h1];omega
 ·simp only [bD,if_neg h1]
  split
  ·omega
  ·split <;> omega
def eW (s:ByteArray):Nat→Nat→Nat→Bool
 | 0,_,m=>decide (1≤m) && decide (m≤20)
 | f+1,p,m=>if p < s.size then (if bD s p=0∨aC s p=10 then false else eW s f (p+bD s p) (m+1)) else decide (1≤m) && decide (m≤20)
def dW (s:ByteArray):Bool:=eW s s.size 0 0
theorem yD (s:ByteArray) (f p m:Nat) (h:¬p < s.size):eW s f p m=(decide (1≤m) && decide (m≤20)):=by
 cases f with
 | zero=>rfl
 | succ f=>simp [eW,h]
theorem yE (s:ByteArray) (f p m:Nat) (h:p < s.size) (hf:s.size - p≤f) (hb:bD s p=0∨aC s p=10):eW s f p m=false:=by
 obtain ⟨g,rfl⟩ : ∃g,f=g+1:=⟨f - 1,by omega⟩
 simp only [eW,if_pos h,if_pos hb]
theorem aIr (s:ByteArray) (f p m:Nat) (h:p < s.size) (hf:s.size - p≤f) (hb:¬(bD s p=0∨aC s p=10)) :
  ∃g,s.size - (p+bD s p)≤g∧eW s f p m=eW s g (p+bD s p) (m+1):=by
 obtain ⟨g,rfl⟩ : ∃g,f=g+1:=⟨f - 1,by omega⟩
 refine ⟨g,by omega,?_⟩
 simp only [eW,if_pos h,if_neg hb]
def aH (n:Nd):Bool:=n.1.toList.isEmpty
def dG (n:Nd):Bool:=if aH n then decide (0≤n.2) && decide (n.2 < 60) else dW n.1 && (decide (0≤n.2) && decide (n.2≤5))
def aX (n:Nd):Nat:=if aH n then 0 else n.2.toNat
def aI:List Nd→Nat→Bool
 | [],q=>decide (q=0)
 | n :: r,q=>if q=0 then false else if dG n then aI r (q - 1+aX n) else false
def iA (l:List Nd):Bool:=aI l 1 && decide (l.length≤60)
theorem yF (l:List Nd) (k:Nat) (h:k < l.length):aI (l.drop k) 0=false:=by
 rw [List.drop_eq_getElem_cons h];simp [aI]
theorem aIs (l:List Nd) (k q:Nat) (h:k < l.length) (hb:dG l[k]=false):aI (l.drop k) q=false:=by
 rw [List.drop_eq_getElem_cons h];simp [aI,hb]
theorem aIt (l:List Nd) (k q:Nat) (h:k < l.length) (hq:q≠0) (hb:dG l[k]=true):aI (l.drop k) q=aI (l.drop (k+1)) (q - 1+aX l[k]):=by
 rw [List.drop_eq_getElem_cons h];simp [aI,hb,hq]
def pK:List Int→Int→Int
 | [],_=>-1
 | y :: r,x=>if y=x then r.length else pK r x
def dY (l:List Int) (x:Int):Int:=pK l.reverse x
theorem aC6 (x:Int):dY [] x=-1:=rfl
theorem yG (l:List Int) (y x:Int):dY (l++[y]) x=if y=x then (l.length:Int) else dY l x:=by simp [dY,pK]
def bV (st:List Nd×List Int) (n:Nd):List Nd×List Int:=
 if aH n then (if dY st.2 n.2 < 0 then (st.1++[(n.1,(st.2.length:Int))],st.2++[n.2]) else (st.1++[(n.1,dY st.2 n.2)],st.2))
 else (st.1++[n],st.2)
def dC (l:List Nd) (seen:List Int):List Nd×List Int:=l.foldl bV ([],seen)
theorem aIu (l:List Nd) (seen:List Int) (k:Nat) (h:k < l.length):dC (l.take (k+1)) seen=bV (dC (l.take k) seen) l[k]:=by
 rw [List.take_succ_eq_append_getElem h];simp only [dC,List.foldl_append,List.foldl_cons,List.foldl_nil]
theorem tE (l:List Nd) (seen:List Int):(dC l seen).1.length=l.length∧(dC l seen).2.length≤seen.length+l.length:=by
 unfold dC
 suffices ∀(l:List Nd) (st:List Nd×List Int),(l.foldl bV st).1.length=st.1.length+l.length∧(l.foldl bV st).2.length≤st.2.length+l.length by
  have:=this l ([],seen);simpa using this
 intro l
 induction l with
 | nil=>intro st;simp
 | cons x r ih=>
  intro st
  have h:=ih (bV st x)
  have h1:(bV st x).1.length=st.1.length+1∧(bV st x).2.length≤st.2.length+1:=by
   unfold bV
   split
   ·split <;> simp
   ·simp
  simp only [List.foldl_cons,List.length_cons]
  omega
theorem pL:(Tryz.prog.info? 106).map (fun i=>(i.zero,i.size,i.bytes))=some (some (.agg #[.string ⟨#[]⟩,.int .i64 0]),2,24):=by kernel_rfl
theorem qM:(Tryz.prog.info? 3).map (fun i=>(i.zero,i.size,i.bytes))=some (some (.int .i64 0),1,8):=by kernel_rfl
theorem iV (w:World) (s:Value) (x:Value) (t:TypeId) (n:Nat) (hn:n=w.heap.size):∀j u,[s,x][j]?=some u→(w.alloc (.cells #[s,x] t)).cell? ((⟨n,0,none⟩ : Addr).add j)=some u:=by
 subst hn
 intro j u hj
 match j,hj with
 | 0,hj=>simp at hj;subst hj;simp [Addr.add]
 | 1,hj=>simp at hj;subst hj;simp [Addr.add]
 | j+2,hj=>simp at hj
theorem oH (w:World) (s:Value) (t:TypeId) (n:Nat) (hn:n=w.heap.size):∀j u,[s][j]?=some u→(w.alloc (.cells #[s] t)).cell? ((⟨n,0,none⟩ : Addr).add j)=some u:=by
 subst hn
 intro j u hj
 match j,hj with
 | 0,hj=>simp at hj;subst hj;simp [Addr.add]
 | j+1,hj=>simp at hj
theorem yH (s:ByteArray) (x:Int):∀u∈[Value.string s,Value.int .i64 x],u.oneCell'=true:=by
 intro u hu
 simp at hu
 rcases hu with rfl | rfl <;> rfl
theorem aC7 (x:Int):∀u∈[Value.int .i64 x],u.oneCell'=true:=by
 intro u hu
 simp at hu
 subst hu
 rfl
theorem aC8 {w:World} {B:Nat} {v:Value} {l:List Int} (h:w.ownsRow B 3 1 v l.length (l.map (Value.int .i64))) :
  ∃a cap,v=.slice a l.length cap∧∀k (h:k < l.length),∃g,a=some ⟨g,0,none⟩∧w.cell? ⟨g,k,none⟩=some (.int .i64 l[k]):=by
 obtain ⟨h1,⟨rfl,h2⟩ | ⟨g,cap,cur,rfl,hb,hh,hc,hm,hz,ht⟩⟩:=h
 ·exact ⟨none,0,by rw [h2],fun k hk=>by omega⟩
 ·have ho:w.ownsRow B 3 1 (.slice (some ⟨g,0,none⟩) l.length cap) l.length (l.map (Value.int .i64)):=⟨h1,Or.inr ⟨g,cap,cur,rfl,hb,hh,hc,hm,hz,ht⟩⟩
  refine ⟨_,_,rfl,fun k hk=>⟨g,rfl,?_⟩⟩
  rw [ho.cellAt k (by omega)]
  simp [hk]
theorem cB (w:World) (p:Addr) (u:Value):w.grownBy (w.setCell p u) (some p.block):=
 ⟨rfl,rfl,rfl,by simp [World.setCell],fun k _ hne=>Below.heap_setCell _ _ _ _ (fun e=>hne (by rw [e]))⟩
end Go.Proofs.YtbddofieljiihaaGreatDoor
namespace Go.Proofs.YtbddofieljiihaaGreatDoor
open Go.RowKit
def jY (x y:Lt):Bool:=decide (x.2=y.2) && x.1 == y.1
theorem aC9 (x y:Lt):jY x y=decide (x=y):=by
 rw [Bool.eq_iff_iff]
 simp [jY,Prod.ext_iff,and_comm]
def aN (c:List Lt):Nat:=(c.map fun l=>l.2.length).sum
theorem oI (c:List Lt) (x:Lt):aN (c++[x])=aN c+x.2.length:=by simp [aN]
theorem aIv (c:List Lt) (h:∀k (h:k < c.length),(c[k]).2.length≤5864062014805):aN c≤c.length * 5864062014805:=by
 induction c with
 | nil=>simp [aN]
 | cons x r ih=>
  have h0:=h 0 (by simp)
  have hr:=ih (fun k hk=>by have:=h (k+1) (by simpa using hk);simpa using this)
  simp [aN] at h0 hr ⊢
  omega
theorem tF (c:List Lt) (k:Nat):aN (c.take k)≤aN c:=by
 have h:=congrArg aN (List.take_append_drop k c)
 simp only [aN,List.map_append,List.sum_append] at h ⊢
 omega
def dQ (c:List Lt):Bool:=decide (c.length≤8) && decide (aN c≤60)
end Go.Proofs.YtbddofieljiihaaGreatDoor
namespace Go.Proofs.YtbddofieljiihaaGreatDoor
open Go.RowKit
set_option maxRecDepth 100000
def eX (acc:List Lt) (x:Lt):Bool:=acc.any fun y=>decide (y=x)
theorem vI (acc:List Lt) (x:Lt):eX acc x=true↔x∈acc:=by simp [eX]
theorem aIw (acc:List Lt) (y x:Lt):eX (acc++[y]) x=(eX acc x || decide (y=x)):=by simp [eX]
def dK (acc:List Lt) (x:Lt):List Lt:=if eX acc x then acc else acc++[x]
def bQ (c:List Lt):List Lt:=c.foldl dK []
theorem aIx (c:List Lt) (k:Nat) (h:k < c.length):bQ (c.take (k+1))=dK (bQ (c.take k)) c[k]:=by
 rw [List.take_succ_eq_append_getElem h];simp only [bQ,List.foldl_append,List.foldl_cons,List.foldl_nil]
theorem qO (c:List Lt):(bQ c).length≤c.length∧aN (bQ c)≤aN c∧∀x∈bQ c,x∈c:=by
 suffices ∀(c:List Lt) (acc:List Lt),(c.foldl dK acc).length≤acc.length+c.length∧aN (c.foldl dK acc)≤aN acc+aN c∧∀x∈c.foldl dK acc,x∈acc∨x∈c by
  have h:=this c []
  exact ⟨by have:=h.1;simpa [bQ] using this,by have:=h.2.1;simpa [aN,bQ] using this,fun x hx=>by rcases h.2.2 x hx with h | h <;> simp_all⟩
 intro c
 induction c with
 | nil=>intro acc;simp [aN]
 | cons x r ih=>
  intro acc
  have h:=ih (dK acc x)
  have h1:(dK acc x).length≤acc.length+1∧aN (dK acc x)≤aN acc+x.2.length∧∀y∈dK acc x,y∈acc∨y=x:=by
   unfold dK
   split
   ·exact ⟨by omega,by omega,fun y hy=>Or.inl hy⟩
   ·exact ⟨by simp,by simp [aN],fun y hy=>by simpa using hy⟩
  have h2:aN (x :: r)=x.2.length+aN r:=by simp [aN]
  simp only [List.foldl_cons,List.length_cons]
  refine ⟨by omega,by omega,fun y hy=>?_⟩
  rcases h.2.2 y hy with hy | hy
  ·rcases h1.2.2 y hy with hy | rfl
   ·exact Or.inl hy
   ·exact Or.inr (by simp)
  ·exact Or.inr (by simp [hy])
def cS (st:List Lt×List Int) (x:Lt):List Lt×List Int:=(st.1++[(x.1,(dC x.2 st.2).1)],(dC x.2 st.2).2)
def cH (c:List Lt):List Lt×List Int:=c.foldl cS ([],[])
def aS (c:List Lt):List Lt:=(cH (bQ c)).1
theorem aIy (c:List Lt) (k:Nat) (h:k < c.length):cH (c.take (k+1))=cS (cH (c.take k)) c[k]:=by
 rw [List.take_succ_eq_append_getElem h];simp only [cH,List.foldl_append,List.foldl_cons,List.foldl_nil]
theorem pM (c:List Lt):(cH c).1.length=c.length∧(cH c).2.length≤aN c:=by
 suffices ∀(c:List Lt) (st:List Lt×List Int),(c.foldl cS st).1.length=st.1.length+c.length∧(c.foldl cS st).2.length≤st.2.length+aN c by
  have h:=this c ([],[]);simpa [cH] using h
 intro c
 induction c with
 | nil=>intro st;simp [aN]
 | cons x r ih=>
  intro st
  have h:=ih (cS st x)
  have h1:=tE x.2 st.2
  have h2:aN (x :: r)=x.2.length+aN r:=by simp [aN]
  simp only [List.foldl_cons,List.length_cons]
  have h3:(cS st x).1.length=st.1.length+1:=by simp [cS]
  have h4:(cS st x).2.length≤st.2.length+x.2.length:=h1.2
  exact ⟨by omega,by omega⟩
theorem vJ (c:List Lt) (x:Lt) (h:x∈c):x.2.length≤aN c:=by
 induction c with
 | nil=>simp at h
 | cons y r ih=>
  simp only [aN,List.map_cons,List.sum_cons] at ih ⊢
  rcases List.mem_cons.1 h with rfl | h
  ·omega
  ·have:=ih h;omega
def aT (P:List (Lt×Value)):List Value:=P.flatMap fun p=>[.bool p.1.1,p.2]
theorem yI (P:List (Lt×Value)):(aT P).length=P.length * 2:=by
 induction P with
 | nil=>rfl
 | cons x r ih=>simp [aT] at ih ⊢;omega
theorem vK (P:List (Lt×Value)) (x:Lt×Value):aT (P++[x])=aT P++[.bool x.1.1,x.2]:=by simp [aT]
theorem tG (P:List (Lt×Value)):∀k (h:k < P.length),(aT P)[k * 2]?=some (.bool P[k].1.1)∧(aT P)[k * 2+1]?=some P[k].2:=by
 induction P with
 | nil=>intro k h;simp at h
 | cons x r ih=>
  intro k h
  cases k with
  | zero=>simp [aT]
  | succ k=>
   have:=ih k (by simpa using h)
   have e1:(k+1) * 2=k * 2+2:=by omega
   have e2:(k+1) * 2+1=k * 2+1+2:=by omega
   rw [e1]
   simp only [aT,List.flatMap_cons,List.cons_append,List.nil_append,List.getElem?_cons_succ,List.getElem_cons_succ] at this ⊢
   exact this
theorem rT {w:World} {B:Nat} {v:Value} {P:List (Lt×Value)} (h:w.ownsRow B 74 2 v P.length (aT P)) :
  ∃a cap,v=.slice a P.length cap∧∀k (h:k < P.length),∃g,a=some ⟨g,0,none⟩∧w.cell? ⟨g,k * 2,none⟩=some (.bool P[k].1.1)∧w.cell? ⟨g,k * 2+1,none⟩=some P[k].2:=by
 obtain ⟨h1,⟨rfl,h2⟩ | ⟨g,cap,cur,rfl,hb,hh,hc,hm,hz,ht⟩⟩:=h
 ·exact ⟨none,0,by rw [h2],fun k hk=>by omega⟩
 ·have ho:w.ownsRow B 74 2 (.slice (some ⟨g,0,none⟩) P.length cap) P.length (aT P):=⟨h1,Or.inr ⟨g,cap,cur,rfl,hb,hh,hc,hm,hz,ht⟩⟩
  refine ⟨_,_,rfl,fun k hk=>⟨g,rfl,?_,?_⟩⟩
  ·rw [ho.cellAt (k * 2) (by omega),(tG P k hk).1]
  ·rw [ho.cellAt (k * 2+1) (by omega),(tG P k hk).2]
theorem aR {w:World} {B:Nat} {e:TypeId} {size:Nat} {v:Value} {n:Nat} {xs:List Value} (h:w.ownsRow B e size v n xs):∃a cap,v=.slice a n cap:=by
 obtain ⟨_,⟨rfl,rfl⟩ | ⟨g,cap,cur,rfl,_⟩⟩:=h
 ·exact ⟨_,_,rfl⟩
 ·exact ⟨_,_,rfl⟩
def jN (w:World) (v:Value) (l:List Nd):Prop:=∃a cap,v=.slice a l.length cap∧dB w a l
theorem qP:(Tryz.prog.info? 74).map (fun i=>(i.zero,i.size,i.bytes))=some (some (.agg #[.bool false,.slice none 0 0]),2,32):=by kernel_rfl
theorem qQ (b:Bool) (a:Option Addr) (n c:Nat):∀u∈[Value.bool b,Value.slice a n c],u.oneCell'=true:=by
 intro u hu
 simp at hu
 rcases hu with rfl | rfl <;> rfl
theorem aIz {w:World} {P:List (Lt×Value)} {x:Lt} {v:Value} (hA:∀p∈P,jN w p.2 p.1.2) (hx:jN w v x.2):∀p∈P++[(x,v)],jN w p.2 p.1.2:=by
 intro p hp
 rcases List.mem_append.1 hp with hp | hp
 ·exact hA p hp
 ·simp at hp
  subst hp
  exact hx
theorem aJ0 {w wm w1:World} {o v' v:Value} {P:List (Lt×Value)} {x:Lt} (ho:wm.ownsRow w.heap.size 74 2 o P.length (aT P)) (hb:Below w.heap.size w wm)
  (ho':w1.ownsRow w.heap.size 74 2 v' (P.length+1) (aT P++[.bool x.1,v])) (hg:wm.grownBy w1 o.ownBlock) :
  w1.ownsRow w.heap.size 74 2 v' (P++[(x,v)]).length (aT (P++[(x,v)]))∧Below w.heap.size w w1:=by
 refine ⟨?_,hb.grown hg hb.size fun k e=>(bY ho k e).1⟩
 rw [vK,List.length_append]
 exact ho'
end Go.Proofs.YtbddofieljiihaaGreatDoor
