/- Small words for the walks. What a slice of nodes, and of literals, holds in memory: plain words for the walks. What stays as it was while a call appends to rows of its own: words for the walks. The document's own answer: how many bytes the character has that begins at a place; may a name be so. The document's own answer: may a name be so. The document's own answer: is a list of nodes a term. The document's own answer: variables are numbered from 0 on as they stand first. The document's own answer: are two lists of nodes the same, are two clauses, how many nodes has a clause, does it fit. The document's own answer: literals in order. -/
import Derived.Test.YthicbnejchpmgaaGreatDoorChecked
import Derived.WalkKit
import Derived.WalkSpells
import Derived.WalkLawsBesides
import Derived.Laws.StructEq
import Derived.Deep.QuietTactic
import Derived.BigQuiet
namespace Go.Proofs.YthicbnejchpmgaaGreatDoor
open Go.RowKit
theorem aA {p:Prop} (h:p):Hid p:=h
theorem aB {p:Prop} (h:Hid p):p:=h
theorem tM {k:IntKind} {a b:Int} (h:a=b):Ending.returned (.int k a)=.returned (.int k b):=by rw [h]
theorem cS {a b:Bool} (h:a=b):Ending.returned (.bool a)=.returned (.bool b):=by rw [h]
theorem kG (w:World) (n m:Nat):∃k,(w.drewN n).drewN m=w.drewN k:=⟨_,World.drewN_drewN _ _ _⟩
theorem aN {w w1:World} (h:∃n,w1=w.drewN n):Below w.heap.size w w1:=by
 obtain ⟨n,rfl⟩:=h
 exact ⟨rfl,rfl,rfl,Nat.le_refl _,fun _ _=>rfl⟩
theorem Below.at' {w w1:World} {B:Nat} (h:Below B w w1) (hB:w.heap.size≤B) {a:Addr} {v:Value} (hc:w.cell? a=some v):w1.cell? a=some v:=
 (h.cell (Nat.lt_of_lt_of_le (World.block_lt_of_cell? w a hc) hB)).trans hc
abbrev Nd:=ByteArray×Int
abbrev Lt:=Bool×List Nd
structure bQ (w:World) (a:Option Addr) (l:List Nd):Prop where
 few:l.length≤5864062014805
 short:∀k (h:k < l.length),l[k].1.size≤140737488355328
 cell:∀k (h:k < l.length),∃b o,a=some ⟨b,o,none⟩∧w.cell? ⟨b,o+k * 2,none⟩=some (.string l[k].1)∧w.cell? ⟨b,o+k * 2+1,none⟩=some (.int .i64 l[k].2)
structure bS (w:World) (a:Option Addr) (c:List Lt):Prop where
 few:c.length≤4398046511104
 cell:∀k (h:k < c.length),∃b o aa cap,a=some ⟨b,o,none⟩∧w.cell? ⟨b,o+k * 2,none⟩=some (.bool c[k].1)∧w.cell? ⟨b,o+k * 2+1,none⟩=some (.slice aa c[k].2.length cap)∧bQ w aa c[k].2
theorem bQ.below {w w1:World} {a:Option Addr} {l:List Nd} (h:bQ w a l) {B:Nat} (k:Below B w w1) (hB:w.heap.size≤B):bQ w1 a l:=
 ⟨h.few,h.short,fun j hj=>by obtain ⟨b,o,h1,h2,h3⟩:=h.cell j hj;exact ⟨b,o,h1,Below.at' k hB h2,Below.at' k hB h3⟩⟩
theorem bS.below {w w1:World} {a:Option Addr} {l:List Lt} (h:bS w a l) {B:Nat} (k:Below B w w1) (hB:w.heap.size≤B):bS w1 a l:=
 ⟨h.few,fun j hj=>by obtain ⟨b,o,aa,cap,h1,h2,h3,h4⟩:=h.cell j hj;exact ⟨b,o,aa,cap,h1,Below.at' k hB h2,Below.at' k hB h3,h4.below k hB⟩⟩
theorem bS.drawn {w w1:World} {a:Option Addr} {l:List Lt} (h:bS w a l) (k:∃n,w1=w.drewN n):bS w1 a l:=h.below (aN k) (Nat.le_refl _)
theorem bS.drewN {w:World} {a:Option Addr} {l:List Lt} (h:bS w a l) (n:Nat):bS (w.drewN n) a l:=h.drawn ⟨n,rfl⟩
theorem aIu:Tryz.prog.stoodInHeld 28=false:=by kernel_rfl
theorem qU:Tryz.prog.eqGuardType Tryz.prog.depth 28=false:=by kernel_rfl
theorem aIv:Tryz.prog.underlying 28=some (.struct (Tryz.prog.fieldsOf 28)):=by kernel_rfl
def vW (s:ByteArray) (a:Int) (t:ByteArray) (b:Int):Bool:=s.toList == t.toList && a == b
theorem vX {s t:ByteArray}:s.toList=t.toList↔s=t:=by
 rw [ByteArray.toList_eq,ByteArray.toList_eq]
 obtain ⟨⟨x⟩⟩:=s
 obtain ⟨⟨y⟩⟩:=t
 simp
theorem qV (x y:ByteArray×Int):vW x.1 x.2 y.1 y.2=decide (x=y):=by
 rw [Bool.eq_iff_iff]
 simp [vW,vX,Prod.ext_iff]
theorem qW (s t:ByteArray) (a b:Int) (w:World):(Op.equalIn 10000 28 (.agg #[.string s,.int .i64 a]) (.agg #[.string t,.int .i64 b])).run Tryz.prog w=.ok (vW s a t b) w:=by
 unfold vW
 rw [show (10000:Nat)=9999+1 from rfl,run_equalIn_agg w 9999 28 _ _ aIv aIu]
 simp only [Program.fieldsOf,Tryz.underlying28]
 go_simp
 cases h1:(s.toList == t.toList) <;> cases h2:(a == b) <;> simp_all
theorem bU {w:World} {B:Nat} {e:TypeId} {size:Nat} {v:Value} {n:Nat} {xs:List Value} (h:w.ownsRow B e size v n xs):∀k,v.ownBlock=some k→B≤k∧k < w.heap.size:=World.ownsRow.lt h
theorem eZ {w:World} {B B':Nat} {e e':TypeId} {size size':Nat} {v v':Value} {n n':Nat} {xs xs':List Value} (h:w.ownsRow B e size v n xs) (h':w.ownsRow B' e' size' v' n' xs') (he:e≠e'):v.ownBlock=none∨v.ownBlock≠v'.ownBlock:=by
 obtain ⟨_,⟨rfl,_⟩ | ⟨g,cap,cur,rfl,hb,hh,_⟩⟩:=h
 ·exact Or.inl rfl
 ·obtain ⟨_,⟨rfl,_⟩ | ⟨g',cap',cur',rfl,hb',hh',_⟩⟩:=h'
  ·right;simp [Value.ownBlock]
  ·right
   simp [Value.ownBlock]
   rintro rfl
   rw [hh] at hh'
   simp at hh'
   exact he hh'.2
theorem aY {w w':World} {B B':Nat} {e:TypeId} {size:Nat} {v:Value} {n:Nat} {xs:List Value} (h:w.ownsRow B e size v n xs) (k:Below B' w w') (hB:w.heap.size≤B'):w'.ownsRow B e size v n xs:=by
 obtain ⟨h1,⟨rfl,h2⟩ | ⟨g,cap,cur,rfl,hb,hh,hr⟩⟩:=h
 ·exact ⟨h1,Or.inl ⟨rfl,h2⟩⟩
 ·refine ⟨h1,Or.inr ⟨g,cap,cur,rfl,hb,?_,hr⟩⟩
  have hg:g < w.heap.size:=(Array.getElem?_eq_some_iff.1 hh).1
  rw [k.block g (by omega),hh]
theorem fG {w:World} {B B':Nat} {e:TypeId} {size:Nat} {v:Value} {n:Nat} {xs:List Value} (h:w.ownsRow B e size v n xs) (hB:B'≤B):w.ownsRow B' e size v n xs:=by
 obtain ⟨h1,⟨rfl,h2⟩ | ⟨g,cap,cur,rfl,hb,hr⟩⟩:=h
 ·exact ⟨h1,Or.inl ⟨rfl,h2⟩⟩
 ·exact ⟨h1,Or.inr ⟨g,cap,cur,rfl,by omega,hr⟩⟩
def aQ (l:List Nd):List Value:=l.flatMap fun n=>[.string n.1,.int .i64 n.2]
theorem yM (l:List Nd):(aQ l).length=l.length * 2:=by
 induction l with
 | nil=>rfl
 | cons x r ih=>simp [aQ] at ih ⊢;omega
theorem sG (l:List Nd) (x:Nd):aQ (l++[x])=aQ l++[.string x.1,.int .i64 x.2]:=by simp [aQ]
theorem sH (l:List Nd):∀k (h:k < l.length),(aQ l)[k * 2]?=some (.string l[k].1)∧(aQ l)[k * 2+1]?=some (.int .i64 l[k].2):=by
 induction l with
 | nil=>intro k h;simp at h
 | cons x r ih=>
  intro k h
  cases k with
  | zero=>simp [aQ]
  | succ k=>
   have:=ih k (by simpa using h)
   have e1:(k+1) * 2=k * 2+2:=by omega
   have e2:(k+1) * 2+1=k * 2+1+2:=by omega
   rw [e1]
   simp only [aQ,List.flatMap_cons,List.cons_append,List.nil_append,List.getElem?_cons_succ,List.getElem_cons_succ] at this ⊢
   exact this
theorem nX {w:World} {B:Nat} {v:Value} {l:List Nd} (h:w.ownsRow B 28 2 v l.length (aQ l)) (hf:l.length≤5864062014805) (hs:∀k (h:k < l.length),l[k].1.size≤140737488355328) :
  ∃a cap,v=.slice a l.length cap∧bQ w a l:=by
 obtain ⟨h1,⟨rfl,h2⟩ | ⟨g,cap,cur,rfl,hb,hh,hc,hm,hz,ht⟩⟩:=h
 ·refine ⟨none,0,by rw [h2],⟨hf,hs,fun k hk=>by omega⟩⟩
 ·have ho:w.ownsRow B 28 2 (.slice (some ⟨g,0,none⟩) l.length cap) l.length (aQ l):=⟨h1,Or.inr ⟨g,cap,cur,rfl,hb,hh,hc,hm,hz,ht⟩⟩
  refine ⟨_,_,rfl,⟨hf,hs,fun k hk=>⟨g,0,rfl,?_,?_⟩⟩⟩
  ·rw [Nat.zero_add,ho.cellAt (k * 2) (by omega),(sH l k hk).1]
  ·rw [Nat.zero_add,ho.cellAt (k * 2+1) (by omega),(sH l k hk).2]
end Go.Proofs.YthicbnejchpmgaaGreatDoor
namespace Go.Proofs.YthicbnejchpmgaaGreatDoor
open Go.RowKit
set_option maxRecDepth 100000
def aC (s:ByteArray) (i:Nat):Nat:=if h:i < s.size then (s[i]'h).toNat else 0
theorem nE (s:ByteArray) (i:Nat) (h:i < s.size):aC s i=(s[i]'h).toNat:=dif_pos h
def cW (b:Nat):Nat:=if b < 128 then 1 else if b < 194 then 0 else if b < 224 then 2 else if b < 240 then 3 else if b < 245 then 4 else 0
def kY (b:Nat):Bool:=decide (128≤b) && decide (b≤191)
def qX (b c:Nat):Bool:=(decide (b=224) && decide (c < 160)) || (decide (b=237) && decide (159 < c)) || (decide (b=240) && decide (c < 144)) || (decide (b=244) && decide (143 < c))
theorem aIw (b c:Nat):qX b c=true↔(b=224∧c < 160)∨(b=237∧159 < c)∨(b=240∧c < 144)∨(b=244∧143 < c):=by
 simp [qX,or_assoc]
def bD (s:ByteArray) (at':Nat):Nat:=
 let b:=aC s at'
 let z:=cW b
 if z≤1 then z
 else if s.size < at'+z then 0
 else if (List.range z).all (fun i=>i == 0 || kY (aC s (at'+i))) && !qX b (aC s (at'+1)) then z else 0
theorem sI (s:ByteArray) (p:Nat) (h:cW (aC s p)≤1):bD s p=cW (aC s p):=by simp [bD,h]
theorem aIx (s:ByteArray) (p z:Nat) (hz:cW (aC s p)=z) (h1:¬z≤1) (h:s.size < p+z):bD s p=0:=by subst hz;simp [bD,h1,h]
theorem aCd (s:ByteArray) (p z i:Nat) (hz:cW (aC s p)=z) (h1:¬z≤1) (hi:0 < i) (hiz:i < z) (hc:kY (aC s (p+i))=false):bD s p=0:=by
 subst hz
 have:((List.range (cW (aC s p))).all (fun i=>i == 0 || kY (aC s (p+i))))=false:=by
  rw [Bool.eq_false_iff]
  intro h
  rw [List.all_eq_true] at h
  have:=h i (by simpa using hiz)
  simp [hc] at this
  omega
 simp [bD,h1,this]
theorem aIy (s:ByteArray) (p z:Nat) (hz:cW (aC s p)=z) (h1:¬z≤1) (h:¬s.size < p+z) (hc:∀i,0 < i→i < z→kY (aC s (p+i))=true) :
  bD s p=if qX (aC s p) (aC s (p+1)) then 0 else z:=by
 subst hz
 have:((List.range (cW (aC s p))).all (fun i=>i == 0 || kY (aC s (p+i))))=true:=by
  rw [List.all_eq_true]
  intro i hi
  by_cases h0:i=0
  ·simp [h0]
  ·simp [hc i (by omega) (by simpa using hi)]
 simp only [bD,if_neg h1,if_neg h,this,Bool.true_and]
 cases qX (aC s p) (aC s (p+1)) <;> simp
theorem yN (s:ByteArray) (p:Nat) (h:p < s.size):p+bD s p≤s.size:=by
 by_cases h1:cW (aC s p)≤1
 ·rw [sI s p h1];omega
 ·simp only [bD,if_neg h1]
  split
  ·omega
  ·split <;> omega
def fW (s:ByteArray):Nat→Nat→Nat→Bool
 | 0,_,m=>decide (1≤m) && decide (m≤20)
 | f+1,p,m=>if p < s.size then (if bD s p=0∨aC s p=10 then false else fW s f (p+bD s p) (m+1)) else decide (1≤m) && decide (m≤20)
def gR (s:ByteArray):Bool:=fW s s.size 0 0
theorem yO (s:ByteArray) (f p m:Nat) (h:¬p < s.size):fW s f p m=(decide (1≤m) && decide (m≤20)):=by
 cases f with
 | zero=>rfl
 | succ f=>simp [fW,h]
theorem yP (s:ByteArray) (f p m:Nat) (h:p < s.size) (hf:s.size - p≤f) (hb:bD s p=0∨aC s p=10):fW s f p m=false:=by
 obtain ⟨g,rfl⟩ : ∃g,f=g+1:=⟨f - 1,by omega⟩
 simp only [fW,if_pos h,if_pos hb]
theorem aIz (s:ByteArray) (f p m:Nat) (h:p < s.size) (hf:s.size - p≤f) (hb:¬(bD s p=0∨aC s p=10)) :
  ∃g,s.size - (p+bD s p)≤g∧fW s f p m=fW s g (p+bD s p) (m+1):=by
 obtain ⟨g,rfl⟩ : ∃g,f=g+1:=⟨f - 1,by omega⟩
 refine ⟨g,by omega,?_⟩
 simp only [fW,if_pos h,if_neg hb]
def aG (n:Nd):Bool:=n.1.toList.isEmpty
def dH (n:Nd):Bool:=if aG n then decide (0≤n.2) && decide (n.2 < 60) else gR n.1 && (decide (0≤n.2) && decide (n.2≤5))
def aZ (n:Nd):Nat:=if aG n then 0 else n.2.toNat
def aI:List Nd→Nat→Bool
 | [],q=>decide (q=0)
 | n :: r,q=>if q=0 then false else if dH n then aI r (q - 1+aZ n) else false
def dT (l:List Nd):Bool:=aI l 1 && decide (l.length≤60)
theorem yQ (l:List Nd) (k:Nat) (h:k < l.length):aI (l.drop k) 0=false:=by
 rw [List.drop_eq_getElem_cons h];simp [aI]
theorem aJ0 (l:List Nd) (k q:Nat) (h:k < l.length) (hb:dH l[k]=false):aI (l.drop k) q=false:=by
 rw [List.drop_eq_getElem_cons h];simp [aI,hb]
theorem aJ1 (l:List Nd) (k q:Nat) (h:k < l.length) (hq:q≠0) (hb:dH l[k]=true):aI (l.drop k) q=aI (l.drop (k+1)) (q - 1+aZ l[k]):=by
 rw [List.drop_eq_getElem_cons h];simp [aI,hb,hq]
def pV:List Int→Int→Int
 | [],_=>-1
 | y :: r,x=>if y=x then r.length else pV r x
def dU (l:List Int) (x:Int):Int:=pV l.reverse x
theorem aCe (x:Int):dU [] x=-1:=rfl
theorem yR (l:List Int) (y x:Int):dU (l++[y]) x=if y=x then (l.length:Int) else dU l x:=by simp [dU,pV]
def bY (st:List Nd×List Int) (n:Nd):List Nd×List Int:=
 if aG n then (if dU st.2 n.2 < 0 then (st.1++[(n.1,(st.2.length:Int))],st.2++[n.2]) else (st.1++[(n.1,dU st.2 n.2)],st.2))
 else (st.1++[n],st.2)
def bW (l:List Nd) (seen:List Int):List Nd×List Int:=l.foldl bY ([],seen)
theorem aJ2 (l:List Nd) (seen:List Int) (k:Nat) (h:k < l.length):bW (l.take (k+1)) seen=bY (bW (l.take k) seen) l[k]:=by
 rw [List.take_succ_eq_append_getElem h];simp only [bW,List.foldl_append,List.foldl_cons,List.foldl_nil]
theorem oN (l:List Nd) (seen:List Int):(bW l seen).1.length=l.length∧(bW l seen).2.length≤seen.length+l.length:=by
 unfold bW
 suffices ∀(l:List Nd) (st:List Nd×List Int),(l.foldl bY st).1.length=st.1.length+l.length∧(l.foldl bY st).2.length≤st.2.length+l.length by
  have:=this l ([],seen);simpa using this
 intro l
 induction l with
 | nil=>intro st;simp
 | cons x r ih=>
  intro st
  have h:=ih (bY st x)
  have h1:(bY st x).1.length=st.1.length+1∧(bY st x).2.length≤st.2.length+1:=by
   unfold bY
   split
   ·split <;> simp
   ·simp
  simp only [List.foldl_cons,List.length_cons]
  omega
theorem nY:(Tryz.prog.info? 28).map (fun i=>(i.zero,i.size,i.bytes))=some (some (.agg #[.string ⟨#[]⟩,.int .i64 0]),2,24):=by kernel_rfl
theorem qY:(Tryz.prog.info? 3).map (fun i=>(i.zero,i.size,i.bytes))=some (some (.int .i64 0),1,8):=by kernel_rfl
theorem iB (w:World) (s:Value) (x:Value) (t:TypeId) (n:Nat) (hn:n=w.heap.size):∀j u,[s,x][j]?=some u→(w.alloc (.cells #[s,x] t)).cell? ((⟨n,0,none⟩ : Addr).add j)=some u:=by
 subst hn
 intro j u hj
 match j,hj with
 | 0,hj=>simp at hj;subst hj;simp [Addr.add]
 | 1,hj=>simp at hj;subst hj;simp [Addr.add]
 | j+2,hj=>simp at hj
theorem sJ (w:World) (s:Value) (t:TypeId) (n:Nat) (hn:n=w.heap.size):∀j u,[s][j]?=some u→(w.alloc (.cells #[s] t)).cell? ((⟨n,0,none⟩ : Addr).add j)=some u:=by
 subst hn
 intro j u hj
 match j,hj with
 | 0,hj=>simp at hj;subst hj;simp [Addr.add]
 | j+1,hj=>simp at hj
theorem tN (s:ByteArray) (x:Int):∀u∈[Value.string s,Value.int .i64 x],u.oneCell'=true:=by
 intro u hu
 simp at hu
 rcases hu with rfl | rfl <;> rfl
theorem aCf (x:Int):∀u∈[Value.int .i64 x],u.oneCell'=true:=by
 intro u hu
 simp at hu
 subst hu
 rfl
theorem aCg {w:World} {B:Nat} {v:Value} {l:List Int} (h:w.ownsRow B 3 1 v l.length (l.map (Value.int .i64))) :
  ∃a cap,v=.slice a l.length cap∧∀k (h:k < l.length),∃g,a=some ⟨g,0,none⟩∧w.cell? ⟨g,k,none⟩=some (.int .i64 l[k]):=by
 obtain ⟨h1,⟨rfl,h2⟩ | ⟨g,cap,cur,rfl,hb,hh,hc,hm,hz,ht⟩⟩:=h
 ·exact ⟨none,0,by rw [h2],fun k hk=>by omega⟩
 ·have ho:w.ownsRow B 3 1 (.slice (some ⟨g,0,none⟩) l.length cap) l.length (l.map (Value.int .i64)):=⟨h1,Or.inr ⟨g,cap,cur,rfl,hb,hh,hc,hm,hz,ht⟩⟩
  refine ⟨_,_,rfl,fun k hk=>⟨g,rfl,?_⟩⟩
  rw [ho.cellAt k (by omega)]
  simp [hk]
theorem bZ (w:World) (p:Addr) (u:Value):w.grownBy (w.setCell p u) (some p.block):=
 ⟨rfl,rfl,rfl,by simp [World.setCell],fun k _ hne=>Below.heap_setCell _ _ _ _ (fun e=>hne (by rw [e]))⟩
end Go.Proofs.YthicbnejchpmgaaGreatDoor
namespace Go.Proofs.YthicbnejchpmgaaGreatDoor
open Go.RowKit
def kH (x y:Lt):Bool:=decide (x.2=y.2) && x.1 == y.1
theorem aCh (x y:Lt):kH x y=decide (x=y):=by
 rw [Bool.eq_iff_iff]
 simp [kH,Prod.ext_iff,and_comm]
def aP (c:List Lt):Nat:=(c.map fun l=>l.2.length).sum
theorem oO (c:List Lt) (x:Lt):aP (c++[x])=aP c+x.2.length:=by simp [aP]
theorem aJ3 (c:List Lt) (h:∀k (h:k < c.length),(c[k]).2.length≤5864062014805):aP c≤c.length * 5864062014805:=by
 induction c with
 | nil=>simp [aP]
 | cons x r ih=>
  have h0:=h 0 (by simp)
  have hr:=ih (fun k hk=>by have:=h (k+1) (by simpa using hk);simpa using this)
  simp [aP] at h0 hr ⊢
  omega
theorem tO (c:List Lt) (k:Nat):aP (c.take k)≤aP c:=by
 have h:=congrArg aP (List.take_append_drop k c)
 simp only [aP,List.map_append,List.sum_append] at h ⊢
 omega
def dV (c:List Lt):Bool:=decide (c.length≤8) && decide (aP c≤60)
end Go.Proofs.YthicbnejchpmgaaGreatDoor
namespace Go.Proofs.YthicbnejchpmgaaGreatDoor
open Go.RowKit
set_option maxRecDepth 100000
def eR (acc:List Lt) (x:Lt):Bool:=acc.any fun y=>decide (y=x)
theorem aCi (acc:List Lt) (x:Lt):eR acc x=true↔x∈acc:=by simp [eR]
theorem aJ4 (acc:List Lt) (y x:Lt):eR (acc++[y]) x=(eR acc x || decide (y=x)):=by simp [eR]
def dY (acc:List Lt) (x:Lt):List Lt:=if eR acc x then acc else acc++[x]
def cH (c:List Lt):List Lt:=c.foldl dY []
theorem aJ5 (c:List Lt) (k:Nat) (h:k < c.length):cH (c.take (k+1))=dY (cH (c.take k)) c[k]:=by
 rw [List.take_succ_eq_append_getElem h];simp only [cH,List.foldl_append,List.foldl_cons,List.foldl_nil]
theorem sK (c:List Lt):(cH c).length≤c.length∧aP (cH c)≤aP c∧∀x∈cH c,x∈c:=by
 suffices ∀(c:List Lt) (acc:List Lt),(c.foldl dY acc).length≤acc.length+c.length∧aP (c.foldl dY acc)≤aP acc+aP c∧∀x∈c.foldl dY acc,x∈acc∨x∈c by
  have h:=this c []
  exact ⟨by have:=h.1;simpa [cH] using this,by have:=h.2.1;simpa [aP,cH] using this,fun x hx=>by rcases h.2.2 x hx with h | h <;> simp_all⟩
 intro c
 induction c with
 | nil=>intro acc;simp [aP]
 | cons x r ih=>
  intro acc
  have h:=ih (dY acc x)
  have h1:(dY acc x).length≤acc.length+1∧aP (dY acc x)≤aP acc+x.2.length∧∀y∈dY acc x,y∈acc∨y=x:=by
   unfold dY
   split
   ·exact ⟨by omega,by omega,fun y hy=>Or.inl hy⟩
   ·exact ⟨by simp,by simp [aP],fun y hy=>by simpa using hy⟩
  have h2:aP (x :: r)=x.2.length+aP r:=by simp [aP]
  simp only [List.foldl_cons,List.length_cons]
  refine ⟨by omega,by omega,fun y hy=>?_⟩
  rcases h.2.2 y hy with hy | hy
  ·rcases h1.2.2 y hy with hy | rfl
   ·exact Or.inl hy
   ·exact Or.inr (by simp)
  ·exact Or.inr (by simp [hy])
def dM (st:List Lt×List Int) (x:Lt):List Lt×List Int:=(st.1++[(x.1,(bW x.2 st.2).1)],(bW x.2 st.2).2)
def cX (c:List Lt):List Lt×List Int:=c.foldl dM ([],[])
def aT (c:List Lt):List Lt:=(cX (cH c)).1
theorem aJ6 (c:List Lt) (k:Nat) (h:k < c.length):cX (c.take (k+1))=dM (cX (c.take k)) c[k]:=by
 rw [List.take_succ_eq_append_getElem h];simp only [cX,List.foldl_append,List.foldl_cons,List.foldl_nil]
theorem qZ (c:List Lt):(cX c).1.length=c.length∧(cX c).2.length≤aP c:=by
 suffices ∀(c:List Lt) (st:List Lt×List Int),(c.foldl dM st).1.length=st.1.length+c.length∧(c.foldl dM st).2.length≤st.2.length+aP c by
  have h:=this c ([],[]);simpa [cX] using h
 intro c
 induction c with
 | nil=>intro st;simp [aP]
 | cons x r ih=>
  intro st
  have h:=ih (dM st x)
  have h1:=oN x.2 st.2
  have h2:aP (x :: r)=x.2.length+aP r:=by simp [aP]
  simp only [List.foldl_cons,List.length_cons]
  have h3:(dM st x).1.length=st.1.length+1:=by simp [dM]
  have h4:(dM st x).2.length≤st.2.length+x.2.length:=h1.2
  exact ⟨by omega,by omega⟩
theorem yS (c:List Lt) (x:Lt) (h:x∈c):x.2.length≤aP c:=by
 induction c with
 | nil=>simp at h
 | cons y r ih=>
  simp only [aP,List.map_cons,List.sum_cons] at ih ⊢
  rcases List.mem_cons.1 h with rfl | h
  ·omega
  ·have:=ih h;omega
def aU (P:List (Lt×Value)):List Value:=P.flatMap fun p=>[.bool p.1.1,p.2]
theorem yT (P:List (Lt×Value)):(aU P).length=P.length * 2:=by
 induction P with
 | nil=>rfl
 | cons x r ih=>simp [aU] at ih ⊢;omega
theorem vY (P:List (Lt×Value)) (x:Lt×Value):aU (P++[x])=aU P++[.bool x.1.1,x.2]:=by simp [aU]
theorem tP (P:List (Lt×Value)):∀k (h:k < P.length),(aU P)[k * 2]?=some (.bool P[k].1.1)∧(aU P)[k * 2+1]?=some P[k].2:=by
 induction P with
 | nil=>intro k h;simp at h
 | cons x r ih=>
  intro k h
  cases k with
  | zero=>simp [aU]
  | succ k=>
   have:=ih k (by simpa using h)
   have e1:(k+1) * 2=k * 2+2:=by omega
   have e2:(k+1) * 2+1=k * 2+1+2:=by omega
   rw [e1]
   simp only [aU,List.flatMap_cons,List.cons_append,List.nil_append,List.getElem?_cons_succ,List.getElem_cons_succ] at this ⊢
   exact this
theorem sL {w:World} {B:Nat} {v:Value} {P:List (Lt×Value)} (h:w.ownsRow B 66 2 v P.length (aU P)) :
  ∃a cap,v=.slice a P.length cap∧∀k (h:k < P.length),∃g,a=some ⟨g,0,none⟩∧w.cell? ⟨g,k * 2,none⟩=some (.bool P[k].1.1)∧w.cell? ⟨g,k * 2+1,none⟩=some P[k].2:=by
 obtain ⟨h1,⟨rfl,h2⟩ | ⟨g,cap,cur,rfl,hb,hh,hc,hm,hz,ht⟩⟩:=h
 ·exact ⟨none,0,by rw [h2],fun k hk=>by omega⟩
 ·have ho:w.ownsRow B 66 2 (.slice (some ⟨g,0,none⟩) P.length cap) P.length (aU P):=⟨h1,Or.inr ⟨g,cap,cur,rfl,hb,hh,hc,hm,hz,ht⟩⟩
  refine ⟨_,_,rfl,fun k hk=>⟨g,rfl,?_,?_⟩⟩
  ·rw [ho.cellAt (k * 2) (by omega),(tP P k hk).1]
  ·rw [ho.cellAt (k * 2+1) (by omega),(tP P k hk).2]
theorem aR {w:World} {B:Nat} {e:TypeId} {size:Nat} {v:Value} {n:Nat} {xs:List Value} (h:w.ownsRow B e size v n xs):∃a cap,v=.slice a n cap:=by
 obtain ⟨_,⟨rfl,rfl⟩ | ⟨g,cap,cur,rfl,_⟩⟩:=h
 ·exact ⟨_,_,rfl⟩
 ·exact ⟨_,_,rfl⟩
def jV (w:World) (v:Value) (l:List Nd):Prop:=∃a cap,v=.slice a l.length cap∧bQ w a l
theorem rA:(Tryz.prog.info? 66).map (fun i=>(i.zero,i.size,i.bytes))=some (some (.agg #[.bool false,.slice none 0 0]),2,32):=by kernel_rfl
theorem rB (b:Bool) (a:Option Addr) (n c:Nat):∀u∈[Value.bool b,Value.slice a n c],u.oneCell'=true:=by
 intro u hu
 simp at hu
 rcases hu with rfl | rfl <;> rfl
theorem aJ7 {w:World} {P:List (Lt×Value)} {x:Lt} {v:Value} (hA:∀p∈P,jV w p.2 p.1.2) (hx:jV w v x.2):∀p∈P++[(x,v)],jV w p.2 p.1.2:=by
 intro p hp
 rcases List.mem_append.1 hp with hp | hp
 ·exact hA p hp
 ·simp at hp
  subst hp
  exact hx
theorem aJ8 {w wm w1:World} {o v' v:Value} {P:List (Lt×Value)} {x:Lt} (ho:wm.ownsRow w.heap.size 66 2 o P.length (aU P)) (hb:Below w.heap.size w wm)
  (ho':w1.ownsRow w.heap.size 66 2 v' (P.length+1) (aU P++[.bool x.1,v])) (hg:wm.grownBy w1 o.ownBlock) :
  w1.ownsRow w.heap.size 66 2 v' (P++[(x,v)]).length (aU (P++[(x,v)]))∧Below w.heap.size w w1:=by
 refine ⟨?_,hb.grown hg hb.size fun k e=>(bU ho k e).1⟩
 rw [vY,List.length_append]
 exact ho'
end Go.Proofs.YthicbnejchpmgaaGreatDoor
