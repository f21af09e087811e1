/- The document's own answer: is a list of nodes a term? The document's own answer: are literals a clause in order, of a size that may be. Small words that several texts want. Terms as graphs: what is the same by what was made the same, what has an end, and what is written of it. Covering: terms in the place of variables, by which literals come to be among others. Clauses that are alike but for their variables' numbers are the same in order. What the matcher holds, and what stays as it was while it works. What the matcher holds behind a step. How many parts a node wants. -/
import Derived.Test.YtbddofieljiihaaGreatDoorBase0I
namespace Go.Proofs.YtbddofieljiihaaGreatDoor
open Go.RowKit
set_option maxRecDepth 100000
def iD (l:List Nd):Bool:=iA l && !aH (l.headD (⟨#[]⟩,0))
def bG (c:List Lt):Bool:=dQ c && (c.all fun l=>iD l.2) && decide (c=aS c)
theorem aPu (l:List Nd) (seen:List Int):(dC l seen).1.map Prod.fst=l.map Prod.fst:=by
 suffices ∀(l:List Nd) (st:List Nd×List Int),(l.foldl bV st).1.map Prod.fst=st.1.map Prod.fst++l.map Prod.fst by
  have h:=this l ([],seen);simpa [dC] using h
 intro l
 induction l with
 | nil=>intro st;simp
 | cons x r ih=>
  intro st
  rw [List.foldl_cons,ih]
  have:(bV st x).1.map Prod.fst=st.1.map Prod.fst++[x.1]:=by
   unfold bV
   split
   ·split <;> simp
   ·simp
  rw [this]
  simp
theorem aPv (c:List Lt):∀x∈(cH c).1,∃y∈c,x.2.map Prod.fst=y.2.map Prod.fst:=by
 suffices ∀(c:List Lt) (st:List Lt×List Int),∀x∈(c.foldl cS st).1,x∈st.1∨∃y∈c,x.2.map Prod.fst=y.2.map Prod.fst by
  intro x hx
  rcases this c ([],[]) x hx with h | h
  ·simp at h
  ·exact h
 intro c
 induction c with
 | nil=>intro st x hx;exact Or.inl hx
 | cons y r ih=>
  intro st x hx
  rcases ih (cS st y) x hx with h | ⟨z,hz,hz'⟩
  ·rcases List.mem_append.1 (show x∈st.1++[(y.1,(dC y.2 st.2).1)] from h) with h | h
   ·exact Or.inl h
   ·simp at h
    subst h
    exact Or.inr ⟨y,by simp,aPu _ _⟩
  ·exact Or.inr ⟨z,by simp [hz],hz'⟩
theorem aPw (c:List Lt):∀x∈aS c,∃y∈c,x.2.map Prod.fst=y.2.map Prod.fst:=by
 intro x hx
 obtain ⟨y,hy,h⟩:=aPv _ x hx
 exact ⟨y,(qO c).2.2 y hy,h⟩
def sL (c:List Lt):Prop:=∀x∈c,x.2.length≤5864062014805∧∀n∈x.2,n.1.size≤140737488355328
theorem sL.ord {c:List Lt} (h:sL c):sL (aS c):=by
 intro x hx
 obtain ⟨y,hy,hxy⟩:=aPw c x hx
 have hl:x.2.length=y.2.length:=by have:=congrArg List.length hxy;simpa using this
 refine ⟨by rw [hl];exact (h y hy).1,fun n hn=>?_⟩
 have:n.1∈y.2.map Prod.fst:=by rw [←hxy];exact List.mem_map.2 ⟨n,hn,rfl⟩
 obtain ⟨m,hm,hmn⟩:=List.mem_map.1 this
 rw [←hmn]
 exact (h y hy).2 m hm
theorem aF9 {w:World} {B:Nat} {v:Value} {Q:List (Lt×Value)} {d:List Lt} (hd:Q.map Prod.fst=d) (ho:w.ownsRow B 74 2 v Q.length (aT Q)) (hQ:∀q∈Q,w.ownsRow B 106 2 q.2 q.1.2.length (aP q.1.2)) (hf:d.length≤4398046511104) (hs:sL d) :
  ∃a cap,v=.slice a d.length cap∧bP w a d:=by
 subst hd
 obtain ⟨a,cap,rfl,hc⟩:=rT ho
 refine ⟨a,cap,by simp,hf,fun k hk=>?_⟩
 have hk':k < Q.length:=by simpa using hk
 obtain ⟨g,rfl,h1,h2⟩:=hc k hk'
 have hq:=hQ Q[k] (List.getElem_mem _)
 have hm:Q[k].1∈Q.map Prod.fst:=List.mem_map.2 ⟨Q[k],List.getElem_mem _,rfl⟩
 obtain ⟨aa,acp,hv,hn⟩:=tD hq (hs _ hm).1 (fun j hj=>(hs _ hm).2 _ (List.getElem_mem _))
 rw [hv] at h2
 refine ⟨g,0,aa,acp,rfl,?_,?_,?_⟩
 ·rw [Nat.zero_add,h1];simp
 ·rw [Nat.zero_add,h2];simp
 ·simpa using hn
theorem aPx:iA []=false:=by decide
def mF (w:World) (a:Option Addr) (c:List Lt):Prop:=∀k,k < c.length→∀b o aa n cap,a=some ⟨b,o,none⟩→w.cell? ⟨b,o+k * 2+1,none⟩=some (.slice aa n cap)→n≤cap
theorem aFa {w:World} {g:Nat} {s x:Value} {t:TypeId} (h:w.heap[g]?=some (.cells #[s,x] t)):w.cell? ⟨g,0,none⟩=some s∧w.cell? ⟨g,1,none⟩=some x:=⟨by simp [World.cell?,h],by simp [World.cell?,h]⟩
theorem wT {a b:Value} {c d:Value} (h:a=c) (k:b=d):Ending.returned (.tuple #[a,b])=.returned (.tuple #[c,d]):=by rw [h,k]
theorem aFb {l:List Nd} (h:iD l=true):aI l 1=true∧l.length≤60:=by
 have:iA l=true:=by simp [iD] at h;exact h.1
 simpa [iA] using this
end Go.Proofs.YtbddofieljiihaaGreatDoor
namespace Go.Proofs.YtbddofieljiihaaGreatDoor
set_option maxRecDepth 100000
inductive aL {α β:Type} (R:α→β→Prop):List α→List β→Prop
 | nil:aL R [] []
 | cons {a b l m}:R a b→aL R l m→aL R (a :: l) (b :: m)
namespace aL
variable {α β:Type} {R S:α→β→Prop}
theorem length {l:List α} {m:List β} (h:aL R l m):l.length=m.length:=by
 induction h with
 | nil=>rfl
 | cons _ _ ih=>simp [ih]
theorem append {l l':List α} {m m':List β} (h:aL R l m) (k:aL R l' m'):aL R (l++l') (m++m'):=by
 induction h with
 | nil=>exact k
 | cons h1 _ ih=>exact aL.cons h1 ih
theorem mono {l:List α} {m:List β} (h:aL R l m) (f:∀a b,R a b→S a b):aL S l m:=by
 induction h with
 | nil=>exact aL.nil
 | cons h1 _ ih=>exact aL.cons (f _ _ h1) ih
theorem snoc {l:List α} {m:List β} {a:α} {b:β} (h:aL R l m) (k:R a b):aL R (l++[a]) (m++[b]):=h.append (aL.cons k aL.nil)
theorem refl {R:α→α→Prop} (f:∀a,R a a):∀l:List α,aL R l l
 | []=>aL.nil
 | a :: l=>aL.cons (f a) (refl f l)
theorem of_get {l:List α} {m:List β} (h:l.length=m.length) (f:∀(k:Nat) (a:α) (b:β),l[k]?=some a→m[k]?=some b→R a b):aL R l m:=by
 induction l generalizing m with
 | nil=>cases m with
  | nil=>exact aL.nil
  | cons=>simp at h
 | cons a l ih=>cases m with
  | nil=>simp at h
  | cons b m=>exact aL.cons (f 0 a b rfl rfl) (ih (by simpa using h) fun k a b h1 h2=>f (k+1) a b (by simpa using h1) (by simpa using h2))
theorem rev {l:List α} {m:List β} (h:aL R l m):aL R l.reverse m.reverse:=by
 induction h with
 | nil=>exact aL.nil
 | cons h1 _ ih=>rw [List.reverse_cons,List.reverse_cons];exact ih.snoc h1
end aL
def lF (V:Int→Int→Prop):Prop:=∀x y x' y',V x y→V x' y'→(x=x'↔y=y')
def gN (V:Int→Int→Prop) (n m:Nd):Prop:=(aH n=true∧aH m=true∧n.1=m.1∧V n.2 m.2)∨(aH n=false∧n=m)
theorem aPy {V:Int→Int→Prop} (hV:lF V) {s t:List Int} (h:aL V s t) {x y:Int} (hx:V x y):pK s x=pK t y:=by
 induction h with
 | nil=>rfl
 | cons h1 h2 ih=>
  simp only [pK]
  have e:=hV _ _ _ _ h1 hx
  have hl:=h2.length
  rw [ih,hl]
  by_cases hc : ‹Int› = x <;> simp_all
theorem aPz {V:Int→Int→Prop} (hV:lF V) {s t:List Int} (h:aL V s t) {x y:Int} (hx:V x y):dY s x=dY t y:=aPy hV h.rev hx
theorem aQ0 {V:Int→Int→Prop} (hV:lF V) {st st':List Nd×List Int} (h1:st.1=st'.1) (h2:aL V st.2 st'.2) {n m:Nd} (h:gN V n m):(bV st n).1=(bV st' m).1∧aL V (bV st n).2 (bV st' m).2:=by
 rcases h with ⟨a,b,c,d⟩ | ⟨a,rfl⟩
 ·have hp:=aPz hV h2 d
  have hl:=h2.length
  unfold bV
  rw [a,b,hp]
  by_cases hc:dY st'.2 m.2 < 0
  ·simp [hc,h1,c,hl];exact h2.snoc d
  ·simp [hc,h1,c];exact h2
 ·unfold bV
  rw [a]
  simp [h1];exact h2
theorem aQ1 {V:Int→Int→Prop} (hV:lF V) {l m:List Nd} (h:aL (gN V) l m) {s t:List Int} (hs:aL V s t):(dC l s).1=(dC m t).1∧aL V (dC l s).2 (dC m t).2:=by
 unfold dC
 suffices ∀(st st':List Nd×List Int),st.1=st'.1→aL V st.2 st'.2→(l.foldl bV st).1=(m.foldl bV st').1∧aL V (l.foldl bV st).2 (m.foldl bV st').2 from this _ _ rfl hs
 induction h with
 | nil=>intro st st' h1 h2;exact ⟨h1,h2⟩
 | cons hc _ ih=>
  intro st st' h1 h2
  obtain ⟨g1,g2⟩:=aQ0 hV h1 h2 hc
  exact ih _ _ g1 g2
structure Gr where
 lab:Nat→Nd
 ch:Nat→List Nat
def Gr.named (G:Gr) (i:Nat):Prop:=aH (G.lab i)=false
inductive Cl (G:Gr) (B:Nat→Nat→Prop):Nat→Nat→Prop
 | refl (i):Cl G B i i
 | base {i j}:B i j→Cl G B i j
 | symm {i j}:Cl G B i j→Cl G B j i
 | trans {i j k}:Cl G B i j→Cl G B j k→Cl G B i k
 | down {i j k p q:Nat}:Cl G B i j→G.named i→G.named j→(G.ch i)[k]?=some p→(G.ch j)[k]?=some q→Cl G B p q
structure iE (G:Gr) (R:Nat→Nat→Prop):Prop where
 refl:∀i,R i i
 symm:∀i j,R i j→R j i
 trans:∀i j k,R i j→R j k→R i k
 down:∀i j k p q:Nat,R i j→G.named i→G.named j→(G.ch i)[k]?=some p→(G.ch j)[k]?=some q→R p q
theorem Cl.isDown (G:Gr) (B:Nat→Nat→Prop):iE G (Cl G B):=⟨Cl.refl,fun _ _=>Cl.symm,fun _ _ _=>Cl.trans,fun _ _ _ _ _=>Cl.down⟩
theorem Cl.le {G:Gr} {B R:Nat→Nat→Prop} (hR:iE G R) (hB:∀i j,B i j→R i j) {i j:Nat} (h:Cl G B i j):R i j:=by
 induction h with
 | refl i=>exact hR.refl i
 | base h=>exact hB _ _ h
 | symm _ ih=>exact hR.symm _ _ ih
 | trans _ _ h1 h2=>exact hR.trans _ _ _ h1 h2
 | down _ a b c d ih=>exact hR.down _ _ _ _ _ ih a b c d
def jS (G:Gr) (R:Nat→Nat→Prop):Prop:=∀i j,R i j→G.named i→G.named j→G.lab i=G.lab j
inductive bS (G:Gr) (R:Nat→Nat→Prop):Nat→Prop
 | mk (i):(∀j,R i j→G.named j→∀p∈G.ch j,bS G R p)→bS G R i
theorem bS.parts {G:Gr} {R:Nat→Nat→Prop} {i:Nat} (h:bS G R i) {j p:Nat} (hj:R i j) (hn:G.named j) (hp:p∈G.ch j):bS G R p:=by cases h with | mk _ h=>exact h j hj hn p hp
theorem bS.same {G:Gr} {R:Nat→Nat→Prop} (hR:iE G R) {i j:Nat} (h:bS G R i) (hj:R i j):bS G R j:=⟨_,fun _ hk hn _ hp=>h.parts (hR.trans _ _ _ hj hk) hn hp⟩
inductive aO (G:Gr) (R:Nat→Nat→Prop) (rep:Nat→Nat):List Nat→List Nd→Prop
 | nil:aO G R rep [] []
 | var {i r l}:(∀j,R i j→¬G.named j)→aO G R rep r l→aO G R rep (i :: r) ((⟨#[]⟩,(rep i:Int)) :: l)
 | name {i j r l}:R i j→G.named j→aO G R rep (G.ch j++r) l→aO G R rep (i :: r) (G.lab j :: l)
section
variable {G:Gr} {R:Nat→Nat→Prop} {rep:Nat→Nat}
theorem aO.append {r s:List Nat} {l m:List Nd} (h:aO G R rep r l) (k:aO G R rep s m):aO G R rep (r++s) (l++m):=by
 induction h with
 | nil=>exact k
 | var h1 _ ih=>exact aO.var h1 ih
 | name h1 h2 _ ih=>exact aO.name h1 h2 (by rw [List.append_assoc] at ih;exact ih)
theorem aO.split {x:List Nat} {l:List Nd} (h:aO G R rep x l):∀r s,x=r++s→∃l1 l2,l=l1++l2∧aO G R rep r l1∧aO G R rep s l2:=by
 induction h with
 | nil=>
  intro r s e
  obtain ⟨rfl,rfl⟩:=List.append_eq_nil_iff.1 e.symm
  exact ⟨[],[],rfl,aO.nil,aO.nil⟩
 | @var i r0 l h1 h2 ih=>
  intro r s e
  cases r with
  | nil=>
   simp at e;subst e
   exact ⟨[],_,rfl,aO.nil,aO.var h1 h2⟩
  | cons y r=>
   simp at e
   obtain ⟨rfl,e⟩:=e
   obtain ⟨l1,l2,rfl,a,b⟩:=ih r s e
   exact ⟨_ :: l1,l2,rfl,aO.var h1 a,b⟩
 | @name i j r0 l h1 h2 h3 ih=>
  intro r s e
  cases r with
  | nil=>
   simp at e;subst e
   exact ⟨[],_,rfl,aO.nil,aO.name h1 h2 h3⟩
  | cons y r=>
   simp at e
   obtain ⟨rfl,e⟩:=e
   obtain ⟨l1,l2,rfl,a,b⟩:=ih (G.ch j++r) s (by rw [e,List.append_assoc])
   exact ⟨_ :: l1,l2,rfl,aO.name h1 h2 a,b⟩
theorem aO.same (hR:iE G R) (hrep:∀i j,R i j→rep i=rep j) {x:List Nat} {l:List Nd} (h:aO G R rep x l):∀y,aL R x y→aO G R rep y l:=by
 induction h with
 | nil=>intro y hy;cases hy;exact aO.nil
 | @var i r l h1 _ ih=>
  intro y hy
  cases hy with
  | @cons _ b _ m hb hm=>
   rw [hrep _ _ hb]
   exact aO.var (fun j hj=>h1 j (hR.trans _ _ _ hb hj)) (ih _ hm)
 | @name i j r l h1 h2 _ ih=>
  intro y hy
  cases hy with
  | @cons _ b _ m hb hm=>
   exact aO.name (hR.trans _ _ _ (hR.symm _ _ hb) h1) h2 (ih _ ((aL.refl hR.refl _).append hm))
def Gr.Arity (G:Gr):Prop:=∀i j,G.named i→G.named j→G.lab i=G.lab j→(G.ch i).length=(G.ch j).length
theorem aAj (hR:iE G R) (hN:jS G R) (hA:G.Arity) {i j:Nat} (h:R i j) (hi:G.named i) (hj:G.named j):aL R (G.ch i) (G.ch j):=
 aL.of_get (hA i j hi hj (hN i j h hi hj)) fun k a b h1 h2=>hR.down i j k a b h hi hj h1 h2
theorem aO.one (hR:iE G R) (hN:jS G R) (hA:G.Arity) (hrep:∀i j,R i j→rep i=rep j) {x:List Nat} {l:List Nd} (h:aO G R rep x l):∀m,aO G R rep x m→l=m:=by
 induction h with
 | nil=>intro m hm;cases hm;rfl
 | @var i r l h1 _ ih=>
  intro m hm
  cases hm with
  | var _ h2=>rw [ih _ h2]
  | name h2 h3 _=>exact absurd h3 (h1 _ h2)
 | @name i j r l h1 h2 _ ih=>
  intro m hm
  cases hm with
  | var h3 _=>exact absurd h2 (h3 _ h1)
  | @name _ j' _ m' h3 h4 h5=>
   have hjj:R j' j:=hR.trans _ _ _ (hR.symm _ _ h3) h1
   rw [hN j' j hjj h4 h2,ih _ (h5.same hR hrep _ ((aAj hR hN hA hjj h4 h2).append (aL.refl hR.refl _)))]
theorem aO.exists_of_all {x:List Nat} (h:∀i∈x,∃l,aO G R rep [i] l):∃l,aO G R rep x l:=by
 induction x with
 | nil=>exact ⟨[],aO.nil⟩
 | cons i r ih=>
  obtain ⟨l,hl⟩:=h i (by simp)
  obtain ⟨m,hm⟩:=ih fun j hj=>h j (by simp [hj])
  exact ⟨l++m,hl.append hm⟩
theorem bS.exp {i:Nat} (h:bS G R i):∃l,aO G R rep [i] l:=by
 induction h with
 | mk i _ ih=>
  by_cases hn:∃j,R i j∧G.named j
  ·obtain ⟨j,h1,h2⟩:=hn
   obtain ⟨l,hl⟩:=aO.exists_of_all (G:=G) (R:=R) (rep:=rep) fun p hp=>ih j h1 h2 p hp
   exact ⟨_,aO.name h1 h2 (by rw [List.append_nil];exact hl)⟩
  ·exact ⟨_,aO.var (fun j h1 h2=>hn ⟨j,h1,h2⟩) aO.nil⟩
theorem aO.pos {i:Nat} {l:List Nd} (h:aO G R rep [i] l):1≤l.length:=by
 cases h with
 | var=>simp
 | name=>simp
end
theorem rE (x:Int):aH (⟨#[]⟩,x)=true:=by
 have he:(⟨#[]⟩ : ByteArray).toList=[]:=by rw [ByteArray.toList_eq]
 simp [aH,he]
end Go.Proofs.YtbddofieljiihaaGreatDoor
namespace Go.Proofs.YtbddofieljiihaaGreatDoor
def aF:List Nd→Nat→Nat
 | _,0=>0
 | [],_+1=>0
 | n :: r,q+1=>1+aF r (q+aX n)
@[simp] theorem aW6 (l:List Nd):aF l 0=0:=by cases l <;> rfl
theorem kI (n:Nd) (r:List Nd) (q:Nat):aI (n :: r) (q+1)=(dG n && aI r (q+aX n)):=by
 simp only [aI]
 cases dG n <;> simp
theorem aAk (l:List Nd):∀p q,aI l (p+q)=true→aI (l.take (aF l p)) p=true∧aI (l.drop (aF l p)) q=true:=by
 induction l with
 | nil=>
  intro p q h
  cases p with
  | zero=>simpa [aI] using h
  | succ p=>simp [aI] at h
 | cons n r ih=>
  intro p q h
  cases p with
  | zero=>simpa [aI] using h
  | succ p=>
   rw [show p+1+q=(p+q)+1 by omega,kI,Bool.and_eq_true] at h
   have:=ih (p+aX n) q (by rw [←h.2];congr 1;omega)
   simp only [aF,Nat.add_comm 1,List.take_succ_cons,List.drop_succ_cons]
   exact ⟨by rw [kI,h.1,this.1];rfl,this.2⟩
theorem uB (t:List Nd):∀p s,aI t p=true→aF (t++s) p=t.length:=by
 induction t with
 | nil=>intro p s h;simp [aI] at h;subst h;simp
 | cons n r ih=>
  intro p s h
  cases p with
  | zero=>simp [aI] at h
  | succ p=>
   rw [kI,Bool.and_eq_true] at h
   simp [aF,ih _ s h.2]
   omega
theorem qA (l:List Nd):∀q,aF l q≤l.length:=by
 induction l with
 | nil=>intro q;cases q <;> simp [aF]
 | cons n r ih=>intro q;cases q with
  | zero=>simp
  | succ q=>have:=ih (q+aX n);simp [aF];omega
theorem aQ2 (l:List Nd) (q:Nat) (h:l≠[]):0 < aF l (q+1):=by
 cases l with
 | nil=>exact absurd rfl h
 | cons n r=>simp [aF];omega
theorem aQ3 {l:List Nd} {q:Nat} (h:aI l (q+1)=true):l≠[]:=by
 rintro rfl;simp [aI] at h
abbrev aU:=List (Int×List Nd)
def look (L:aU) (x:Int):Option (List Nd):=L.lookup x
theorem uC (L:aU) (x y:Int) (t:List Nd):look (L++[(x,t)]) y=(look L y).or (if y=x then some t else none):=by
 unfold look
 rw [List.lookup_append]
 simp [List.lookup]
 by_cases h:y=x
 ·simp [h]
 ·rw [show (y == x)=false by simpa using h]
  simp [h]
theorem uD (L M:aU) (y:Int):look (L++M) y=(look L y).or (look M y):=by
 unfold look;rw [List.lookup_append]
def subst (σ:Int→List Nd) (l:List Nd):List Nd:=l.flatMap fun n=>if aH n then σ n.2 else [n]
theorem mG (σ:Int→List Nd) (n:Nd) (r:List Nd):subst σ (n :: r)=(if aH n then σ n.2 else [n])++subst σ r:=by simp [subst]
def Tm (σ:Int→List Nd):Prop:=∀x,aI (σ x) 1=true
def gO (σ:Int→List Nd) (L:aU):Prop:=∀x t,look L x=some t→σ x=t
theorem gO.snoc {σ:Int→List Nd} {L:aU} {x:Int} {t:List Nd} (h:look L x=none):gO σ (L++[(x,t)])↔gO σ L∧σ x=t:=by
 constructor
 ·intro k
  refine ⟨fun y s hy=>k y s (by rw [uC,hy];rfl),k x t (by rw [uC,h];simp)⟩
 ·rintro ⟨k,e⟩ y s hy
  rw [uC] at hy
  cases hl:look L y with
  | some u=>rw [hl] at hy;simp at hy;rw [←hy];exact k y u hl
  | none=>
   rw [hl] at hy
   by_cases hxy:y=x
   ·subst hxy;simp at hy;rw [←hy];exact e
   ·simp [hxy] at hy
theorem gO.left {σ:Int→List Nd} {L M:aU} (h:gO σ (L++M)):gO σ L:=fun x t hx=>h x t (by rw [uD,hx];rfl)
def cM:List Nd→List Nd→aU→Option aU
 | [],[],L=>some L
 | [],_ :: _,_=>none
 | n :: r,b,L=>
  if aH n then
   match look L n.2 with
   | some t=>if t=b.take (aF b 1) then cM r (b.drop (aF b 1)) L else none
   | none=>cM r (b.drop (aF b 1)) (L++[(n.2,b.take (aF b 1))])
  else match b with
   | []=>none
   | m :: b'=>if n=m then cM r b' L else none
theorem aAl {n:Nd} {r b:List Nd} {L:aU} {t:List Nd} (hv:aH n=true) (hl:look L n.2=some t):cM (n :: r) b L=if t=b.take (aF b 1) then cM r (b.drop (aF b 1)) L else none:=by
 rw [cM.eq_def];simp [hv,hl]
theorem aAm {n:Nd} {r b:List Nd} {L:aU} (hv:aH n=true) (hl:look L n.2=none):cM (n :: r) b L=cM r (b.drop (aF b 1)) (L++[(n.2,b.take (aF b 1))]):=by
 rw [cM.eq_def];simp [hv,hl]
theorem aAn {n m:Nd} {r b:List Nd} {L:aU} (hv:aH n=false):cM (n :: r) (m :: b) L=if n=m then cM r b L else none:=by
 rw [cM.eq_def];simp [hv]
theorem uE {σ:Int→List Nd} (hσ:Tm σ) {n:Nd} {r b:List Nd} (hv:aH n=true):subst σ (n :: r)=b↔σ n.2=b.take (aF b 1)∧subst σ r=b.drop (aF b 1):=by
 rw [mG,if_pos hv]
 constructor
 ·rintro rfl
  rw [uB _ _ _ (hσ n.2)]
  simp
 ·rintro ⟨h1,h2⟩
  rw [h1,h2,List.take_append_drop]
theorem lG {n:Nd} (hv:aH n=true):aX n=0:=by simp [aX,hv]
theorem aFc (a:List Nd):∀(b:List Nd) (q:Nat) (L:aU),aI a q=true→aI b q=true→
  (∀L',cM a b L=some L'→∀σ,Tm σ→(gO σ L'↔gO σ L∧subst σ a=b))∧(cM a b L=none→∀σ,Tm σ→gO σ L→subst σ a≠b):=by
 induction a with
 | nil=>
  intro b q L ha hb
  cases q with
  | succ q=>simp [aI] at ha
  | zero=>
   cases b with
   | nil=>simp [cM,subst]
   | cons m b=>simp [aI] at hb
 | cons n r ih=>
  intro b q L ha hb
  cases q with
  | zero=>simp [aI] at ha
  | succ q=>
   rw [kI,Bool.and_eq_true] at ha
   by_cases hv:aH n=true
   ·have hs:=aAk b 1 q (by rw [←hb];congr 1;omega)
    have hq:aI r q=true:=by simpa [lG hv] using ha.2
    cases hl:look L n.2 with
    | some t=>
     rw [aAl hv hl]
     by_cases ht:t=b.take (aF b 1)
     ·rw [if_pos ht]
      obtain ⟨i1,i2⟩:=ih (b.drop (aF b 1)) q L hq hs.2
      refine ⟨fun L' h σ hσ=>?_,fun h σ hσ he hx=>?_⟩
      ·rw [i1 L' h σ hσ,uE hσ hv]
       constructor
       ·rintro ⟨e,f⟩;exact ⟨e,(e _ _ hl).trans ht,f⟩
       ·rintro ⟨e,_,f⟩;exact ⟨e,f⟩
      ·exact i2 h σ hσ he ((uE hσ hv).1 hx).2
     ·rw [if_neg ht]
      refine ⟨fun L' h=>by simp at h,fun _ σ hσ he hx=>ht ?_⟩
      rw [←he _ _ hl]
      exact ((uE hσ hv).1 hx).1
    | none=>
     rw [aAm hv hl]
     obtain ⟨i1,i2⟩:=ih (b.drop (aF b 1)) q (L++[(n.2,b.take (aF b 1))]) hq hs.2
     refine ⟨fun L' h σ hσ=>?_,fun h σ hσ he hx=>?_⟩
     ·rw [i1 L' h σ hσ,gO.snoc hl,uE hσ hv,and_assoc]
     ·obtain ⟨x1,x2⟩:=(uE hσ hv).1 hx
      exact i2 h σ hσ ((gO.snoc hl).2 ⟨he,x1⟩) x2
   ·have hv':aH n=false:=by simpa using hv
    cases b with
    | nil=>simp [aI] at hb
    | cons m b=>
     rw [kI,Bool.and_eq_true] at hb
     rw [aAn hv']
     by_cases hm:n=m
     ·subst hm
      rw [if_pos rfl]
      obtain ⟨i1,i2⟩:=ih b (q+aX n) L ha.2 hb.2
      refine ⟨fun L' h σ hσ=>?_,fun h σ hσ he hx=>?_⟩
      ·rw [i1 L' h σ hσ,mG,hv'];simp
      ·rw [mG,hv'] at hx;simp at hx;exact i2 h σ hσ he hx
     ·rw [if_neg hm]
      refine ⟨fun L' h=>by simp at h,fun _ σ hσ he hx=>?_⟩
      rw [mG,hv'] at hx;simp at hx;exact hm hx.1
def aAo (x:Int) (a:List Nd):Prop:=∃n∈a,aH n=true∧n.2=x
theorem aQ4 (a:List Nd):∀(b:List Nd) (q:Nat) (L L':aU),aI a q=true→aI b q=true→cM a b L=some L'→
  ∃M,L'=L++M∧∀p∈M,aAo p.1 a∧look L p.1=none:=by
 induction a with
 | nil=>
  intro b q L L' _ _ h
  cases b with
  | nil=>simp [cM] at h;exact ⟨[],by simp [h],by simp⟩
  | cons m b=>simp [cM] at h
 | cons n r ih=>
  intro b q L L' ha hb h
  cases q with
  | zero=>simp [aI] at ha
  | succ q=>
   rw [kI,Bool.and_eq_true] at ha
   by_cases hv:aH n=true
   ·have hs:=aAk b 1 q (by rw [←hb];congr 1;omega)
    have hq:aI r q=true:=by simpa [lG hv] using ha.2
    cases hl:look L n.2 with
    | some t=>
     rw [aAl hv hl] at h
     by_cases ht:t=b.take (aF b 1)
     ·rw [if_pos ht] at h
      obtain ⟨M,h1,h2⟩:=ih _ q L L' hq hs.2 h
      exact ⟨M,h1,fun p hp=>⟨by obtain ⟨m,m1,m2⟩:=(h2 p hp).1;exact ⟨m,List.mem_cons_of_mem _ m1,m2⟩,(h2 p hp).2⟩⟩
     ·rw [if_neg ht] at h;simp at h
    | none=>
     rw [aAm hv hl] at h
     obtain ⟨M,h1,h2⟩:=ih _ q _ L' hq hs.2 h
     refine ⟨(n.2,b.take (aF b 1)) :: M,by rw [h1];simp,fun p hp=>?_⟩
     rcases List.mem_cons.1 hp with rfl | hp
     ·exact ⟨⟨n,by simp,hv,rfl⟩,hl⟩
     ·refine ⟨by obtain ⟨m,m1,m2⟩:=(h2 p hp).1;exact ⟨m,List.mem_cons_of_mem _ m1,m2⟩,?_⟩
      have:=(h2 p hp).2
      rw [uC] at this
      cases hh:look L p.1 with
      | none=>rfl
      | some u=>rw [hh] at this;simp at this
   ·have hv':aH n=false:=by simpa using hv
    cases b with
    | nil=>simp [aI] at hb
    | cons m b=>
     rw [kI,Bool.and_eq_true] at hb
     rw [aAn hv'] at h
     by_cases hm:n=m
     ·subst hm
      rw [if_pos rfl] at h
      obtain ⟨M,h1,h2⟩:=ih _ _ L L' ha.2 hb.2 h
      exact ⟨M,h1,fun p hp=>⟨by obtain ⟨m,m1,m2⟩:=(h2 p hp).1;exact ⟨m,List.mem_cons_of_mem _ m1,m2⟩,(h2 p hp).2⟩⟩
     ·rw [if_neg hm] at h;simp at h
def fC (d c:List Lt) (L:aU):Prop:=∃σ,Tm σ∧gO σ L∧∀l∈c,(l.1,subst σ l.2)∈d
def Tms (c:List Lt):Prop:=∀l∈c,aI l.2 1=true
def gY (x y:Lt) (L:aU):Option aU:=if x.1=y.1 then cM x.2 y.2 L else none
theorem aAp {x y:Lt} {L L':aU} (hx:aI x.2 1=true) (hy:aI y.2 1=true) (h:gY x y L=some L') (σ:Int→List Nd) (hσ:Tm σ):gO σ L'↔gO σ L∧(x.1,subst σ x.2)=y:=by
 unfold gY at h
 by_cases hb:x.1=y.1
 ·rw [if_pos hb] at h
  rw [(aFc x.2 y.2 1 L hx hy).1 L' h σ hσ,Prod.ext_iff]
  simp [hb]
 ·rw [if_neg hb] at h;simp at h
theorem aQ6 {x y:Lt} {L:aU} (hx:aI x.2 1=true) (hy:aI y.2 1=true) (h:gY x y L=none) (σ:Int→List Nd) (hσ:Tm σ) (he:gO σ L):(x.1,subst σ x.2)≠y:=by
 unfold gY at h
 by_cases hb:x.1=y.1
 ·rw [if_pos hb] at h
  intro e
  exact (aFc x.2 y.2 1 L hx hy).2 h σ hσ he (by rw [←e])
 ·intro e;exact hb (by rw [←e])
theorem aQ7 {x y:Lt} {L L':aU} (hx:aI x.2 1=true) (hy:aI y.2 1=true) (h:gY x y L=some L'):∃M,L'=L++M∧∀p∈M,aAo p.1 x.2∧look L p.1=none:=by
 unfold gY at h
 by_cases hb:x.1=y.1
 ·rw [if_pos hb] at h;exact aQ4 x.2 y.2 1 L L' hx hy h
 ·rw [if_neg hb] at h;simp at h
theorem aQ8 {d c rest:List Lt} {L:aU} {x:Lt} (hd:Tms d) (hx:aI x.2 1=true) (hm:∀l,l∈c↔l=x∨l∈rest) :
  fC d c L↔∃y∈d,∃L',gY x y L=some L'∧fC d rest L':=by
 constructor
 ·rintro ⟨σ,h1,h2,h3⟩
  refine ⟨_,h3 x ((hm x).2 (Or.inl rfl)),?_⟩
  have hy:=hd _ (h3 x ((hm x).2 (Or.inl rfl)))
  cases hL:gY x (x.1,subst σ x.2) L with
  | none=>exact absurd rfl (aQ6 hx hy hL σ h1 h2)
  | some L'=>exact ⟨L',rfl,σ,h1,(aAp hx hy hL σ h1).2 ⟨h2,rfl⟩,fun l hl=>h3 l ((hm l).2 (Or.inr hl))⟩
 ·rintro ⟨y,hy,L',hL,σ,h1,h2,h3⟩
  obtain ⟨e,f⟩:=(aAp hx (hd y hy) hL σ h1).1 h2
  refine ⟨σ,h1,e,fun l hl=>?_⟩
  rcases (hm l).1 hl with rfl | hl
  ·rw [f];exact hy
  ·exact h3 l hl
def aAq (d c:List Lt) (L:aU):Prop:=∀σ,Tm σ→gO σ L→∀l∈c,(l.1,subst σ l.2)∈d
def iF (c:List Lt) (L L':aU):Prop:=∃M,L'=L++M∧∀p∈M,(∃l∈c,aAo p.1 l.2)∧look L p.1=none
def aAr (L:aU) (g r:List Lt):Prop:=∀x∈g,∀y∈r,∀n∈x.2,aH n=true→look L n.2=none→n∉y.2
theorem aFd {σ τ:Int→List Nd} {l:List Nd} (h:∀n∈l,aH n=true→σ n.2=τ n.2):subst σ l=subst τ l:=by
 induction l with
 | nil=>rfl
 | cons n r ih=>
  rw [mG,mG,ih fun m hm=>h m (List.mem_cons_of_mem _ hm)]
  by_cases hv:aH n=true
  ·rw [if_pos hv,if_pos hv,h n (by simp) hv]
  ·rw [if_neg hv,if_neg hv]
theorem aQ9 {n m:Nd} (hn:aH n=true) (hm:aH m=true) (h:n.2=m.2):n=m:=by
 obtain ⟨s,x⟩:=n
 obtain ⟨t,y⟩:=m
 simp only at h
 subst h
 have hs:s.toList=t.toList:=by
  simp [aH] at hn hm
  rw [hn,hm]
 rw [vH.1 hs]
theorem iF.refl (c:List Lt) (L:aU):iF c L L:=⟨[],by simp,by simp⟩
theorem iF.trans {c c' e:List Lt} {L L' L'':aU} (h:iF c L L') (k:iF c' L' L'') (h1:∀l∈c,l∈e) (h2:∀l∈c',l∈e):iF e L L'':=by
 obtain ⟨M,rfl,hM⟩:=h
 obtain ⟨M',rfl,hM'⟩:=k
 refine ⟨M++M',by simp,fun p hp=>?_⟩
 rcases List.mem_append.1 hp with hp | hp
 ·obtain ⟨⟨l,hl,hx⟩,hn⟩:=hM p hp
  exact ⟨⟨l,h1 l hl,hx⟩,hn⟩
 ·obtain ⟨⟨l,hl,hx⟩,hn⟩:=hM' p hp
  refine ⟨⟨l,h2 l hl,hx⟩,?_⟩
  rw [uD] at hn
  cases hh:look L p.1 with
  | none=>rfl
  | some u=>rw [hh] at hn;simp at hn
theorem wU {L:aU} {x:Int} {t:List Nd} (h:look L x=some t):(x,t)∈L:=by
 unfold look at h
 induction L with
 | nil=>simp at h
 | cons p r ih=>
  obtain ⟨y,s⟩:=p
  rw [List.lookup_cons] at h
  by_cases hxy:(x == y)=true
  ·rw [hxy] at h;simp at h hxy;subst hxy h;simp
  ·simp only [hxy] at h
   exact List.mem_cons_of_mem _ (ih h)
theorem iF.ext {c:List Lt} {L L':aU} (h:iF c L L') {σ:Int→List Nd} (k:gO σ L'):gO σ L:=by
 obtain ⟨M,rfl,_⟩:=h;exact k.left
theorem aQa {d c g r:List Lt} {L L':aU} (hm:∀l,l∈c↔l∈g∨l∈r) (ha:aAr L g r) (hg:iF g L L') (hT:∀x t,look L' x=some t→aI t 1=true) (hM:aAq d g L'):fC d c L↔fC d r L':=by
 constructor
 ·rintro ⟨σ,h1,h2,h3⟩
  refine ⟨fun x=>(look L' x).getD (σ x),fun x=>?_,fun x t hx=>by simp [hx],fun l hl=>?_⟩
  ·show aI ((look L' x).getD (σ x)) 1=true
   cases hh:look L' x with
   | none=>exact h1 x
   | some t=>exact hT x t hh
  ·have:=h3 l ((hm l).2 (Or.inr hl))
   rw [show subst (fun x=>(look L' x).getD (σ x)) l.2=subst σ l.2 from ?_]
   ·exact this
   ·refine aFd fun n hn hv=>?_
    cases hh:look L n.2 with
    | some t=>
     obtain ⟨M,rfl,_⟩:=hg
     show (look (L++M) n.2).getD (σ n.2)=σ n.2
     rw [uD,hh]
     simp only [Option.some_or,Option.getD_some]
     exact (h2 _ _ hh).symm
    | none=>
     cases hk:look L' n.2 with
     | none=>simp only [Option.getD_none]
     | some t=>
      exfalso
      obtain ⟨M,rfl,hMM⟩:=hg
      rw [uD,hh] at hk
      obtain ⟨⟨x,hx,m,hm1,hm2,hm3⟩,_⟩:=hMM _ (wU (by simpa using hk))
      simp only at hm3
      have hnm:=aQ9 hm2 hv hm3
      exact ha x hx l hl m hm1 hm2 (by rw [hm3];exact hh) (by rw [hnm];exact hn)
 ·rintro ⟨σ,h1,h2,h3⟩
  refine ⟨σ,h1,hg.ext h2,fun l hl=>?_⟩
  rcases (hm l).1 hl with hl | hl
  ·exact hM σ h1 h2 l hl
  ·exact h3 l hl
theorem aQb {d:List Lt} {L:aU} (hT:∀x t,look L x=some t→aI t 1=true):fC d [] L:=by
 refine ⟨fun x=>(look L x).getD [(⟨#[]⟩,0)],fun x=>?_,fun x t hx=>by simp [hx],by simp⟩
 show aI ((look L x).getD [(⟨#[]⟩,0)]) 1=true
 cases hh:look L x with
 | none=>
  have he:(⟨#[]⟩ : ByteArray).toList=[]:=by rw [ByteArray.toList_eq]
  simp [aI,dG,aX,aH,he]
 | some t=>exact hT x t hh
structure kJ (L:aU):Prop where
 keys:∀p∈L,0≤p.1∧p.1 < 60
 once:(L.map Prod.fst).Nodup
 terms:∀p∈L,aI p.2 1=true∧p.2.length≤60
theorem kJ.nil:kJ []:=⟨by simp,by simp,by simp⟩
theorem kJ.look {L:aU} (h:kJ L):∀x t,look L x=some t→aI t 1=true:=fun _ _ hx=>(h.terms _ (wU hx)).1
theorem aQc {L:aU} {x:Int} (h:look L x=none):x∉L.map Prod.fst:=by
 intro hx
 obtain ⟨p,hp,rfl⟩:=List.mem_map.1 hx
 unfold Go.Proofs.YtbddofieljiihaaGreatDoor.look at h
 have:=List.lookup_eq_none_iff.1 h p hp
 simp at this
theorem kJ.snoc {L:aU} {x:Int} {t:List Nd} (h:kJ L) (hl:Go.Proofs.YtbddofieljiihaaGreatDoor.look L x=none) (h0:0≤x) (h1:x < 60) (ht:aI t 1=true) (hs:t.length≤60):kJ (L++[(x,t)]):=by
 refine ⟨fun p hp=>?_,?_,fun p hp=>?_⟩
 ·rcases List.mem_append.1 hp with hp | hp
  ·exact h.keys p hp
  ·simp at hp;subst hp;exact ⟨h0,h1⟩
 ·rw [List.map_append,List.nodup_append]
  refine ⟨h.once,by simp,fun a ha b hb e=>aQc hl ?_⟩
  simp at hb
  subst hb e
  exact ha
 ·rcases List.mem_append.1 hp with hp | hp
  ·exact h.terms p hp
  ·simp at hp;subst hp;exact ⟨ht,hs⟩
theorem kJ.few {L:aU} (h:kJ L):L.length≤60:=by
 have h2:∀x∈L.map Prod.fst,x∈(List.range 60).map (fun n:Nat=>(n:Int)):=by
  intro x hx
  obtain ⟨p,hp,rfl⟩:=List.mem_map.1 hx
  have:=h.keys p hp
  exact List.mem_map.2 ⟨p.1.toNat,by simp;omega,by omega⟩
 have h3:=List.Nodup.length_le_of_subset h.once h2
 simpa using h3
theorem kJ.left {L M:aU} (h:kJ (L++M)):kJ L:=
 ⟨fun p hp=>h.keys p (List.mem_append_left _ hp),by have:=h.once;rw [List.map_append,List.nodup_append] at this;exact this.1,fun p hp=>h.terms p (List.mem_append_left _ hp)⟩
theorem aFe {n:Nd} (h:dG n=true) (hv:aH n=true):0≤n.2∧n.2 < 60:=by simpa [dG,hv] using h
theorem aQd (l:List Nd) (k p:Nat) (h:k < l.length):aF (l.drop k) (p+1)=1+aF (l.drop (k+1)) (p+aX l[k]):=by
 rw [List.drop_eq_getElem_cons h];rfl
theorem aAs (l:List Nd) (k q:Nat) (h:k < l.length):aI (l.drop k) (q+1)=(dG l[k] && aI (l.drop (k+1)) (q+aX l[k])):=by
 rw [List.drop_eq_getElem_cons h,kI]
theorem aQe (b:List Nd) (j:Nat) (L:aU) (hj:j=b.length):cM [] (b.drop j) L=some L:=by
 subst hj;simp [cM]
theorem aQf (a b:List Nd) (k j:Nat) (L:aU) (t:List Nd) (hk:k < a.length) (hv:aH a[k]=true) (hl:look L a[k].2=some t) :
  cM (a.drop k) (b.drop j) L=if t=(b.drop j).take (aF (b.drop j) 1) then cM (a.drop (k+1)) (b.drop (j+aF (b.drop j) 1)) L else none:=by
 rw [List.drop_eq_getElem_cons hk,aAl hv hl,List.drop_drop]
theorem aQg (a b:List Nd) (k j:Nat) (L:aU) (hk:k < a.length) (hv:aH a[k]=true) (hl:look L a[k].2=none) :
  cM (a.drop k) (b.drop j) L=cM (a.drop (k+1)) (b.drop (j+aF (b.drop j) 1)) (L++[(a[k].2,(b.drop j).take (aF (b.drop j) 1))]):=by
 rw [List.drop_eq_getElem_cons hk,aAm hv hl,List.drop_drop]
theorem aQh (a b:List Nd) (k j:Nat) (L:aU) (hk:k < a.length) (hj:j < b.length) (hv:aH a[k]=false) :
  cM (a.drop k) (b.drop j) L=if a[k]=b[j] then cM (a.drop (k+1)) (b.drop (j+1)) L else none:=by
 rw [List.drop_eq_getElem_cons hk,List.drop_eq_getElem_cons hj,aAn hv]
theorem aFf {l:List Nd} {k q:Nat} (h:aI (l.drop k) (q+1)=true):k < l.length:=by
 rcases Nat.lt_or_ge k l.length with hk | hk
 ·exact hk
 ·rw [List.drop_eq_nil_of_le hk] at h;simp [aI] at h
theorem aQi {l:List Nd} {k:Nat} (hk:k≤l.length) (h:aI (l.drop k) 0=true):k=l.length:=by
 rcases Nat.lt_or_ge k l.length with hl | hl
 ·rw [yF l k hl] at h;simp at h
 ·omega
end Go.Proofs.YtbddofieljiihaaGreatDoor
namespace Go.Proofs.YtbddofieljiihaaGreatDoor
open Go.RowKit
set_option maxRecDepth 100000
def gZ (V:Int→Int→Prop) (x y:Lt):Prop:=x.1=y.1∧aL (gN V) x.2 y.2
section
variable {V:Int→Int→Prop}
theorem wV {n:Nd} (h:aH n=true):n.1=⟨#[]⟩:=by
 obtain ⟨s,x⟩:=n
 obtain ⟨a⟩:=s
 have h1:(⟨a⟩ : ByteArray).toList=[]:=by simpa [aH] using h
 rw [ByteArray.toList_eq] at h1
 have h2:a=#[]:=by
  apply Array.ext'
  exact h1
 rw [h2]
theorem aQj (hV:lF V) {n m n' m':Nd} (h:gN V n m) (h':gN V n' m'):n=n'↔m=m':=by
 rcases h with ⟨a1,a2,a3,a4⟩ | ⟨a1,rfl⟩
 ·rcases h' with ⟨b1,b2,b3,b4⟩ | ⟨b1,rfl⟩
  ·have e1:=wV a1
   have e2:=wV a2
   have e3:=wV b1
   have e4:=wV b2
   have:=hV _ _ _ _ a4 b4
   constructor
   ·intro e
    exact Prod.ext (by rw [e2,e4]) (this.1 (by rw [e]))
   ·intro e
    exact Prod.ext (by rw [e1,e3]) (this.2 (by rw [e]))
  ·constructor
   ·intro e;rw [e,b1] at a1;cases a1
   ·intro e;rw [e,b1] at a2;cases a2
 ·rcases h' with ⟨b1,b2,b3,b4⟩ | ⟨b1,rfl⟩
  ·constructor
   ·intro e;rw [←e,a1] at b1;cases b1
   ·intro e;rw [←e,a1] at b2;cases b2
  ·exact Iff.rfl
theorem aQk (hV:lF V) {l m:List Nd} (h:aL (gN V) l m):∀{l' m':List Nd},aL (gN V) l' m'→(l=l'↔m=m'):=by
 induction h with
 | nil=>
  intro l' m' h'
  cases h' with
  | nil=>simp
  | cons _ _=>simp
 | cons a _ ih=>
  intro l' m' h'
  cases h' with
  | nil=>simp
  | cons b k=>
   rw [List.cons.injEq,List.cons.injEq,aQj hV a b,ih k]
theorem aQl (hV:lF V) {x y x' y':Lt} (h:gZ V x y) (h':gZ V x' y'):x=x'↔y=y':=by
 have:=aQk hV h.2 h'.2
 constructor
 ·intro e
  exact Prod.ext (by rw [←h.1,←h'.1,e]) (this.1 (by rw [e]))
 ·intro e
  exact Prod.ext (by rw [h.1,h'.1,e]) (this.2 (by rw [e]))
theorem aQm (hV:lF V) {c c':List Lt} (h:aL (gZ V) c c') {x x':Lt} (hx:gZ V x x'):eX c x=eX c' x':=by
 induction h with
 | nil=>rfl
 | cons a _ ih=>
  simp only [eX,List.any_cons] at ih ⊢
  rw [ih]
  congr 1
  exact decide_eq_decide.2 (aQl hV a hx)
theorem aQn (hV:lF V) {c c':List Lt} (h:aL (gZ V) c c'):aL (gZ V) (bQ c) (bQ c'):=by
 suffices ∀{c c':List Lt},aL (gZ V) c c'→∀{acc acc':List Lt},aL (gZ V) acc acc'→aL (gZ V) (c.foldl dK acc) (c'.foldl dK acc') from this h aL.nil
 intro c c' h
 induction h with
 | nil=>intro acc acc' ha;exact ha
 | cons a _ ih=>
  intro acc acc' ha
  simp only [List.foldl_cons]
  refine ih ?_
  unfold dK
  rw [aQm hV ha a]
  split
  ·exact ha
  ·exact ha.snoc a
theorem aQo (hV:lF V) {c c':List Lt} (h:aL (gZ V) c c'):(cH c).1=(cH c').1:=by
 suffices ∀{c c':List Lt},aL (gZ V) c c'→∀{st st':List Lt×List Int},st.1=st'.1→aL V st.2 st'.2→(c.foldl cS st).1=(c'.foldl cS st').1 from this h rfl aL.nil
 intro c c' h
 induction h with
 | nil=>intro st st' h1 _;exact h1
 | cons a _ ih=>
  intro st st' h1 h2
  simp only [List.foldl_cons]
  have hr:=aQ1 hV a.2 h2
  refine ih ?_ hr.2
  simp only [cS]
  rw [h1,a.1,hr.1]
theorem aFg (hV:lF V) {c c':List Lt} (h:aL (gZ V) c c'):aS c=aS c':=aQo hV (aQn hV h)
end
end Go.Proofs.YtbddofieljiihaaGreatDoor
namespace Go.Proofs.YtbddofieljiihaaGreatDoor
open Go.RowKit
def jT (w:World) (B k:Nat):Prop:=k < B∨∀cs T fr,w.heap[k]?=some (.cells cs T fr)→T≠78∧T≠3
structure Fr (B:Nat) (w w':World):Prop where
 os:w'.os=w.os
 tape:w'.tape=w.tape
 output:w'.output=w.output
 size:w.heap.size≤w'.heap.size
 block:∀k,k < w.heap.size→jT w B k→w'.heap[k]?=w.heap[k]?
theorem Fr.refl (B:Nat) (w:World):Fr B w w:=⟨rfl,rfl,rfl,Nat.le_refl _,fun _ _ _=>rfl⟩
theorem jT.fr {B k:Nat} {w w':World} (h:jT w B k) (hk:k < w.heap.size) (f:Fr B w w'):jT w' B k:=by
 have e:=f.block k hk h
 rcases h with h | h
 ·exact Or.inl h
 ·exact Or.inr fun cs T fr hx=>h cs T fr (by rw [←e];exact hx)
theorem Fr.trans {B:Nat} {a b c:World} (h:Fr B a b) (k:Fr B b c):Fr B a c:=
 ⟨k.os.trans h.os,k.tape.trans h.tape,k.output.trans h.output,Nat.le_trans h.size k.size,fun i hi hs=>by
  rw [k.block i (Nat.lt_of_lt_of_le hi h.size) (hs.fr hi h),h.block i hi hs]⟩
theorem Fr.of_below {B:Nat} {w w':World} (h:Below w.heap.size w w'):Fr B w w':=⟨h.os,h.tape,h.output,h.size,fun k hk _=>h.block k hk⟩
theorem Fr.below {B:Nat} {w w':World} (h:Fr B w w') (hB:B≤w.heap.size):Below B w w':=⟨h.os,h.tape,h.output,h.size,fun k hk=>h.block k (by omega) (Or.inl hk)⟩
theorem Fr.cell {B:Nat} {w w':World} (h:Fr B w w') {a:Addr} {v:Value} (hc:w.cell? a=some v) (hs:jT w B a.block):w'.cell? a=some v:=
 (World.cell?_of_block (h.block _ (World.block_lt_of_cell? w a hc) hs)).trans hc
theorem Fr.alloc {B:Nat} {a w:World} (h:Fr B a w) (o:Obj):Fr B a (w.alloc o):=h.trans (.of_below ((Below.refl _ _).alloc (Nat.le_refl _) o))
theorem Fr.drawn {B:Nat} {a w w1:World} (h:Fr B a w) (k:∃n,w1=w.drewN n):Fr B a w1:=h.trans (.of_below (aJ k))
structure eT (w:World) (B:Nat) (a:Option Addr) (l:List Nd):Prop where
 nodes:dB w a l
 low:∀p,a=some p→p.block < B
theorem eT.fr {w w':World} {B:Nat} {a:Option Addr} {l:List Nd} (h:eT w B a l) (f:Fr B w w'):eT w' B a l:=
 ⟨⟨h.nodes.few,h.nodes.short,fun k hk=>by
  obtain ⟨b,o,e,h1,h2⟩:=h.nodes.cell k hk
  have hl:=h.low _ e
  exact ⟨b,o,e,f.cell h1 (Or.inl hl),f.cell h2 (Or.inl hl)⟩⟩,h.low⟩
structure cJ (w:World) (B:Nat) (a:Option Addr) (c:List Lt):Prop where
 few:c.length≤8
 cell:∀k (h:k < c.length),∃b o aa cap,a=some ⟨b,o,none⟩∧jT w B b∧w.cell? ⟨b,o+k * 2,none⟩=some (.bool c[k].1)∧w.cell? ⟨b,o+k * 2+1,none⟩=some (.slice aa c[k].2.length cap)∧c[k].2.length≤cap∧eT w B aa c[k].2
theorem cJ.fr {w w':World} {B:Nat} {a:Option Addr} {c:List Lt} (h:cJ w B a c) (f:Fr B w w'):cJ w' B a c:=
 ⟨h.few,fun k hk=>by
  obtain ⟨b,o,aa,cap,e,hs,h1,h2,hc,h3⟩:=h.cell k hk
  exact ⟨b,o,aa,cap,e,hs.fr (World.block_lt_of_cell? w _ h1) f,f.cell h1 hs,f.cell h2 hs,hc,h3.fr f⟩⟩
def wW (w:World) (B:Nat) (r:Option (List Nd)) (v:Value):Prop:=
 match r with
 | none=>v=.slice none 0 0
 | some t=>∃a cap,v=.slice (some a) t.length cap∧eT w B (some a) t
theorem wW.fr {w w':World} {B:Nat} {r:Option (List Nd)} {v:Value} (h:wW w B r v) (f:Fr B w w'):wW w' B r v:=by
 cases r with
 | none=>exact h
 | some t=>obtain ⟨a,cap,h1,h2⟩:=h;exact ⟨a,cap,h1,h2.fr f⟩
structure bN (w:World) (B g:Nat) (dv:Value) (L:aU):Prop where
 low:B≤g
 blk:∃cs,w.heap[g]?=some (.cells cs 78 (0,0))
 among:w.cell? ⟨g,0,none⟩=some dv
 term:∀x:Nat,x < 60→∃v,w.cell? ⟨g,1+x,none⟩=some v∧wW w B (look L (x:Int)) v
 bound:∃bv,w.cell? ⟨g,61,none⟩=some bv∧w.ownsRow B 3 1 bv L.length (L.map fun p=>.int .i64 p.1)
 ok:kJ L
theorem bN.frozen {w:World} {B g:Nat} {dv:Value} {L:aU} (h:bN w B g dv L) (j:Nat):w.frozen? ⟨g,j,none⟩=false:=by
 obtain ⟨cs,hb⟩:=h.blk
 simp [World.frozen?,hb]
theorem bN.lt {w:World} {B g:Nat} {dv:Value} {L:aU} (h:bN w B g dv L):g < w.heap.size:=World.block_lt_of_cell? w _ h.among
theorem bN.below {w w':World} {B g:Nat} {dv:Value} {L:aU} (h:bN w B g dv L) (k:Below w.heap.size w w'):bN w' B g dv L:=by
 obtain ⟨bv,b1,b2⟩:=h.bound
 refine ⟨h.low,?_,Below.at' k (Nat.le_refl _) h.among,fun x hx=>?_,⟨bv,Below.at' k (Nat.le_refl _) b1,aZ b2 k (Nat.le_refl _)⟩,h.ok⟩
 ·obtain ⟨cs,hb⟩:=h.blk
  exact ⟨cs,by rw [k.block g h.lt];exact hb⟩
 ·obtain ⟨v,v1,v2⟩:=h.term x hx
  exact ⟨v,Below.at' k (Nat.le_refl _) v1,v2.fr (Fr.of_below k)⟩
theorem bN.drawn {w w':World} {B g:Nat} {dv:Value} {L:aU} (h:bN w B g dv L) (k:∃n,w'=w.drewN n):bN w' B g dv L:=h.below (aJ k)
theorem aQp {w:World} {B:Nat} {v:Value} {n k:Nat} {xs:List Value} (h:w.ownsRow B 3 1 v n xs) (hk:v.ownBlock=some k):¬jT w B k:=by
 obtain ⟨_,⟨rfl,_⟩ | ⟨g,cap,cur,rfl,hb,hh,_⟩⟩:=h
 ·simp [Value.ownBlock] at hk
 ·simp [Value.ownBlock] at hk
  subst hk
  rintro (hs | hs)
  ·omega
  ·exact (hs _ _ _ hh).2 rfl
theorem Fr.grownInts {w w':World} {B:Nat} {v:Value} {n:Nat} {xs:List Value} (h:w.ownsRow B 3 1 v n xs) (hg:w.grownBy w' v.ownBlock):Fr B w w':=
 ⟨hg.os,hg.tape,hg.output,hg.size,fun k hk hs=>hg.block k hk (fun e=>aQp h e.symm hs)⟩
theorem bN.apart {w:World} {B g:Nat} {dv:Value} {L:aU} (h:bN w B g dv L) {v:Value} {n:Nat} {xs:List Value} (ho:w.ownsRow B 3 1 v n xs):some g≠v.ownBlock:=by
 intro e
 obtain ⟨_,⟨rfl,_⟩ | ⟨k,cap,cur,rfl,hb,hh,_⟩⟩:=ho
 ·simp [Value.ownBlock] at e
 ·simp [Value.ownBlock] at e
  subst e
  obtain ⟨cs,hc⟩:=h.blk
  rw [hh] at hc
  simp at hc
theorem wX {w:World} {B:Nat} {e:TypeId} {size:Nat} {v:Value} {n:Nat} {xs:List Value} (h:w.ownsRow B e size v n xs) {p:Addr} (hp:some p.block≠v.ownBlock) (u:Value):(w.setCell p u).ownsRow B e size v n xs:=by
 obtain ⟨h1,⟨rfl,h2⟩ | ⟨g,cap,cur,rfl,hb,hh,hr⟩⟩:=h
 ·exact ⟨h1,Or.inl ⟨rfl,h2⟩⟩
 ·refine ⟨h1,Or.inr ⟨g,cap,cur,rfl,hb,?_,hr⟩⟩
  rw [heap_setCell_other _ _ _ _ (fun e=>hp (by simp [Value.ownBlock,e])),hh]
def mH (w:World) (g:Nat):Prop:=∃cs,w.heap[g]?=some (.cells cs 78 (0,0))
theorem mH.set {w:World} {g:Nat} (h:mH w g) (j:Nat) (u:Value):mH (w.setCell ⟨g,j,none⟩ u) g:=by
 obtain ⟨cs,hb⟩:=h
 exact ⟨_,heap_setCell_same w g j cs _ u hb⟩
theorem mH.grown {w w':World} {g:Nat} {r:Option Nat} (h:mH w g) (hg:w.grownBy w' r) (hr:some g≠r):mH w' g:=by
 obtain ⟨cs,hb⟩:=h
 exact ⟨cs,by rw [hg.block g (Array.getElem?_eq_some_iff.1 hb).1 hr];exact hb⟩
theorem Fr.setB {w:World} {B g:Nat} (hB:B≤g) (h:mH w g) (j:Nat) (u:Value):Fr B w (w.setCell ⟨g,j,none⟩ u):=by
 refine ⟨rfl,rfl,rfl,by simp [World.setCell],fun k _ hs=>heap_setCell_other _ _ _ _ (fun e=>?_)⟩
 simp at e
 subst e
 rcases hs with hs | hs
 ·omega
 ·obtain ⟨cs,hb⟩:=h;exact (hs cs _ _ hb).1 rfl
theorem aQq {L:aU} {m x:Nat} {t:List Nd} (hl:look L (m:Int)=none):look (L++[((m:Int),t)]) (x:Int)=if x=m then some t else look L (x:Int):=by
 rw [uC]
 by_cases h:x=m
 ·subst h;rw [hl];simp
 ·have:¬(x:Int)=(m:Int):=by omega
  simp [h,this]
theorem bN.more {w w2:World} {B g m cap:Nat} {dv bv bv':Value} {L:aU} {a:Addr} {t:List Nd} {o:Obj} (h:bN w B g dv L) (hm:m < 60) (hl:look L (m:Int)=none) (hN:eT w B (some a) t) (ht:aI t 1=true) (h60:t.length≤60)
  (ho:w.ownsRow B 3 1 bv L.length (L.map fun p=>.int .i64 p.1)) (hg:((w.setCell ⟨g,1+m,none⟩ (.slice (some a) t.length cap)).alloc o).grownBy w2 bv.ownBlock)
  (ho2:w2.ownsRow B 3 1 bv' (L.length+1) ((L.map fun p=>.int .i64 p.1)++[.int .i64 (m:Int)])) :
  bN (w2.setCell ⟨g,61,none⟩ bv') B g dv (L++[((m:Int),t)])∧Fr B w (w2.setCell ⟨g,61,none⟩ bv'):=by
 have hap:=h.apart ho
 have b1:mH (w.setCell ⟨g,1+m,none⟩ (.slice (some a) t.length cap)) g:=mH.set h.blk _ _
 have o1:=wX ho (p:=⟨g,1+m,none⟩) hap (.slice (some a) t.length cap)
 have f1:Fr B w (w.setCell ⟨g,1+m,none⟩ (.slice (some a) t.length cap)):=Fr.setB h.low h.blk _ _
 have b2:mH w2 g:=(b1.grown (World.grownBy_alloc _ o none) (by simp)).grown hg hap
 have f2:Fr B w w2:=(f1.alloc o).trans (Fr.grownInts (o1.alloc o) hg)
 have f3:Fr B w (w2.setCell ⟨g,61,none⟩ bv'):=f2.trans (Fr.setB h.low b2 _ _)
 have old:∀j v,j≠1+m→j≠61→w.cell? ⟨g,j,none⟩=some v→(w2.setCell ⟨g,61,none⟩ bv').cell? ⟨g,j,none⟩=some v:=by
  intro j v h1 h2 hv
  rw [World.cell?_setCell_other w2 _ _ _ (by first | (simp;done) | (simp;omega))]
  refine hg.cell (Below.at' ((Below.refl _ _).alloc (Nat.le_refl _) o) (Nat.le_refl _) ?_) hap
  rw [World.cell?_setCell_other w _ _ _ (by first | (simp;done) | (simp;omega))]
  exact hv
 have new:(w2.setCell ⟨g,61,none⟩ bv').cell? ⟨g,1+m,none⟩=some (.slice (some a) t.length cap):=by
  rw [World.cell?_setCell_other w2 _ _ _ (by first | (simp;done) | (simp;omega))]
  obtain ⟨v,hv,_⟩:=h.term m hm
  exact hg.cell (Below.at' ((Below.refl _ _).alloc (Nat.le_refl _) o) (Nat.le_refl _) (World.cell?_setCell_same w _ _ hv)) hap
 have c61:∃u,w2.cell? ⟨g,61,none⟩=some u:=by
  obtain ⟨bv0,hb0,_⟩:=h.bound
  refine ⟨bv0,hg.cell (Below.at' ((Below.refl _ _).alloc (Nat.le_refl _) o) (Nat.le_refl _) ?_) hap⟩
  rw [World.cell?_setCell_other w _ _ _ (by first | (simp;done) | (simp;omega))]
  exact hb0
 obtain ⟨u,hu⟩:=c61
 have hap2:some g≠bv'.ownBlock:=by
  intro e
  obtain ⟨_,⟨rfl,_⟩ | ⟨k,cap,cur,rfl,hb,hh,_⟩⟩:=ho2
  ·simp [Value.ownBlock] at e
  ·simp [Value.ownBlock] at e
   subst e
   obtain ⟨cs,hc⟩:=b2
   rw [hh] at hc
   simp at hc
 refine ⟨⟨h.low,b2.set _ _,old 0 dv (by omega) (by omega) h.among,fun x hx=>?_,⟨bv',World.cell?_setCell_same w2 _ _ hu,?_⟩,h.ok.snoc hl (by omega) (by omega) ht h60⟩,f3⟩
 ·rw [aQq hl]
  by_cases hxm:x=m
  ·subst hxm
   rw [if_pos rfl]
   exact ⟨_,new,a,cap,rfl,hN.fr f3⟩
  ·rw [if_neg hxm]
   obtain ⟨v,hv,hT⟩:=h.term x hx
   exact ⟨v,old _ v (by omega) (by omega) hv,hT.fr f3⟩
 ·have:=wX ho2 (p:=⟨g,61,none⟩) hap2 bv'
  simpa using this
theorem bN.less {w w':World} {B g:Nat} {dv:Value} {L M:aU} (h:bN w B g dv (L++M)) (hblk:mH w' g) (hf:Fr B w w')
  (h0:w'.cell? ⟨g,0,none⟩=some dv) (hx:∀x:Nat,x < 60→w'.cell? ⟨g,1+x,none⟩=if (x:Int)∈M.map Prod.fst then some (.slice none 0 0) else w.cell? ⟨g,1+x,none⟩) (h1:(w'.cell? ⟨g,61,none⟩).isSome=true) {bv':Value}
  (ho:w'.ownsRow B 3 1 bv' L.length (L.map fun p=>.int .i64 p.1)):bN (w'.setCell ⟨g,61,none⟩ bv') B g dv L∧Fr B w (w'.setCell ⟨g,61,none⟩ bv'):=by
 have f3:Fr B w (w'.setCell ⟨g,61,none⟩ bv'):=hf.trans (Fr.setB h.low hblk _ _)
 obtain ⟨u,hu⟩:=Option.isSome_iff_exists.1 h1
 have hap2:some g≠bv'.ownBlock:=by
  intro e
  obtain ⟨_,⟨rfl,_⟩ | ⟨k,cap,cur,rfl,hb,hh,_⟩⟩:=ho
  ·simp [Value.ownBlock] at e
  ·simp [Value.ownBlock] at e
   subst e
   obtain ⟨cs,hc⟩:=hblk
   rw [hh] at hc
   simp at hc
 refine ⟨⟨h.low,hblk.set _ _,by rw [World.cell?_setCell_other w' _ _ _ (by simp)];exact h0,fun x hx60=>?_,⟨bv',World.cell?_setCell_same w' _ _ hu,wX ho (p:=⟨g,61,none⟩) hap2 bv'⟩,h.ok.left⟩,f3⟩
 rw [World.cell?_setCell_other w' _ _ _ (by first | (simp;done) | (simp;omega)),hx x hx60]
 obtain ⟨v,hv,hT⟩:=h.term x hx60
 by_cases hm:(x:Int)∈M.map Prod.fst
 ·rw [if_pos hm]
  refine ⟨_,rfl,?_⟩
  have:look L (x:Int)=none:=by
   cases hl:look L (x:Int) with
   | none=>rfl
   | some t=>
    exfalso
    have hnd:=h.ok.once
    rw [List.map_append,List.nodup_append] at hnd
    exact hnd.2.2 _ (List.mem_map.2 ⟨_,wU hl,rfl⟩) _ hm rfl
  rw [this]
  rfl
 ·rw [if_neg hm]
  refine ⟨v,hv,?_⟩
  have e:look (L++M) (x:Int)=look L (x:Int):=by
   rw [uD]
   have:look M (x:Int)=none:=by
    cases hl:look M (x:Int) with
    | none=>rfl
    | some t=>exact absurd (List.mem_map.2 ⟨_,wU hl,rfl⟩) hm
   rw [this]
   simp
  rw [←e]
  exact hT.fr f3
end Go.Proofs.YtbddofieljiihaaGreatDoor
namespace Go.Proofs.YtbddofieljiihaaGreatDoor
open Go.RowKit
set_option maxRecDepth 100000
theorem aQr {s:ByteArray} {x:Int} (h:dG (s,x)=true) (hv:¬s.toList.isEmpty=true):0≤x∧x≤5∧aX (s,x)=x.toNat:=by
 have h1:dW s=true∧0≤x∧x≤5:=by simpa [dG,aH,hv] using h
 exact ⟨h1.2.1,h1.2.2,by unfold aX aH;rw [if_neg hv]⟩
end Go.Proofs.YtbddofieljiihaaGreatDoor
