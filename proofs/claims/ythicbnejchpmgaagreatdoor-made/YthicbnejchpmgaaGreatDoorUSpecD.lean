/- Terms as graphs: what is the same by what was made the same, what has an end, and what is written of it. The document's own answer: letters, digits. The program: kinds of characters. -/
import Derived.Test.YthicbnejchpmgaaGreatDoorBase0D
import Derived.Laws.BytesArg
namespace Go.Proofs.YthicbnejchpmgaaGreatDoor
set_option maxRecDepth 100000
inductive aK {α β:Type} (R:α→β→Prop):List α→List β→Prop
 | nil:aK R [] []
 | cons {a b l m}:R a b→aK R l m→aK R (a :: l) (b :: m)
namespace aK
variable {α β:Type} {R S:α→β→Prop}
theorem length {l:List α} {m:List β} (h:aK R l m):l.length=m.length:=by
 induction h with
 | nil=>rfl
 | cons _ _ ih=>simp [ih]
theorem append {l l':List α} {m m':List β} (h:aK R l m) (k:aK R l' m'):aK R (l++l') (m++m'):=by
 induction h with
 | nil=>exact k
 | cons h1 _ ih=>exact aK.cons h1 ih
theorem mono {l:List α} {m:List β} (h:aK R l m) (f:∀a b,R a b→S a b):aK S l m:=by
 induction h with
 | nil=>exact aK.nil
 | cons h1 _ ih=>exact aK.cons (f _ _ h1) ih
theorem snoc {l:List α} {m:List β} {a:α} {b:β} (h:aK R l m) (k:R a b):aK R (l++[a]) (m++[b]):=h.append (aK.cons k aK.nil)
theorem refl {R:α→α→Prop} (f:∀a,R a a):∀l:List α,aK R l l
 | []=>aK.nil
 | a :: l=>aK.cons (f a) (refl f l)
theorem of_get {l:List α} {m:List β} (h:l.length=m.length) (f:∀(k:Nat) (a:α) (b:β),l[k]?=some a→m[k]?=some b→R a b):aK R l m:=by
 induction l generalizing m with
 | nil=>cases m with
  | nil=>exact aK.nil
  | cons=>simp at h
 | cons a l ih=>cases m with
  | nil=>simp at h
  | cons b m=>exact aK.cons (f 0 a b rfl rfl) (ih (by simpa using h) fun k a b h1 h2=>f (k+1) a b (by simpa using h1) (by simpa using h2))
theorem rev {l:List α} {m:List β} (h:aK R l m):aK R l.reverse m.reverse:=by
 induction h with
 | nil=>exact aK.nil
 | cons h1 _ ih=>rw [List.reverse_cons,List.reverse_cons];exact ih.snoc h1
end aK
def jJ (V:Int→Int→Prop):Prop:=∀x y x' y',V x y→V x' y'→(x=x'↔y=y')
def fJ (V:Int→Int→Prop) (n m:Nd):Prop:=(aG n=true∧aG m=true∧n.1=m.1∧V n.2 m.2)∨(aG n=false∧n=m)
theorem aRe {V:Int→Int→Prop} (hV:jJ V) {s t:List Int} (h:aK V s t) {x y:Int} (hx:V x y):pV s x=pV t y:=by
 induction h with
 | nil=>rfl
 | cons h1 h2 ih=>
  simp only [pV]
  have e:=hV _ _ _ _ h1 hx
  have hl:=h2.length
  rw [ih,hl]
  by_cases hc : ‹Int› = x <;> simp_all
theorem aRf {V:Int→Int→Prop} (hV:jJ V) {s t:List Int} (h:aK V s t) {x y:Int} (hx:V x y):dU s x=dU t y:=aRe hV h.rev hx
theorem aRg {V:Int→Int→Prop} (hV:jJ V) {st st':List Nd×List Int} (h1:st.1=st'.1) (h2:aK V st.2 st'.2) {n m:Nd} (h:fJ V n m):(bY st n).1=(bY st' m).1∧aK V (bY st n).2 (bY st' m).2:=by
 rcases h with ⟨a,b,c,d⟩ | ⟨a,rfl⟩
 ·have hp:=aRf hV h2 d
  have hl:=h2.length
  unfold bY
  rw [a,b,hp]
  by_cases hc:dU st'.2 m.2 < 0
  ·simp [hc,h1,c,hl];exact h2.snoc d
  ·simp [hc,h1,c];exact h2
 ·unfold bY
  rw [a]
  simp [h1];exact h2
theorem xM {V:Int→Int→Prop} (hV:jJ V) {l m:List Nd} (h:aK (fJ V) l m) {s t:List Int} (hs:aK V s t):(bW l s).1=(bW m t).1∧aK V (bW l s).2 (bW m t).2:=by
 unfold bW
 suffices ∀(st st':List Nd×List Int),st.1=st'.1→aK V st.2 st'.2→(l.foldl bY st).1=(m.foldl bY st').1∧aK V (l.foldl bY st).2 (m.foldl bY st').2 from this _ _ rfl hs
 induction h with
 | nil=>intro st st' h1 h2;exact ⟨h1,h2⟩
 | cons hc _ ih=>
  intro st st' h1 h2
  obtain ⟨g1,g2⟩:=aRg hV h1 h2 hc
  exact ih _ _ g1 g2
structure Gr where
 lab:Nat→Nd
 ch:Nat→List Nat
def Gr.named (G:Gr) (i:Nat):Prop:=aG (G.lab i)=false
inductive Cl (G:Gr) (B:Nat→Nat→Prop):Nat→Nat→Prop
 | refl (i):Cl G B i i
 | base {i j}:B i j→Cl G B i j
 | symm {i j}:Cl G B i j→Cl G B j i
 | trans {i j k}:Cl G B i j→Cl G B j k→Cl G B i k
 | down {i j k p q:Nat}:Cl G B i j→G.named i→G.named j→(G.ch i)[k]?=some p→(G.ch j)[k]?=some q→Cl G B p q
structure gD (G:Gr) (R:Nat→Nat→Prop):Prop where
 refl:∀i,R i i
 symm:∀i j,R i j→R j i
 trans:∀i j k,R i j→R j k→R i k
 down:∀i j k p q:Nat,R i j→G.named i→G.named j→(G.ch i)[k]?=some p→(G.ch j)[k]?=some q→R p q
theorem Cl.isDown (G:Gr) (B:Nat→Nat→Prop):gD G (Cl G B):=⟨Cl.refl,fun _ _=>Cl.symm,fun _ _ _=>Cl.trans,fun _ _ _ _ _=>Cl.down⟩
theorem Cl.le {G:Gr} {B R:Nat→Nat→Prop} (hR:gD G R) (hB:∀i j,B i j→R i j) {i j:Nat} (h:Cl G B i j):R i j:=by
 induction h with
 | refl i=>exact hR.refl i
 | base h=>exact hB _ _ h
 | symm _ ih=>exact hR.symm _ _ ih
 | trans _ _ h1 h2=>exact hR.trans _ _ _ h1 h2
 | down _ a b c d ih=>exact hR.down _ _ _ _ _ ih a b c d
def fK (G:Gr) (R:Nat→Nat→Prop):Prop:=∀i j,R i j→G.named i→G.named j→G.lab i=G.lab j
inductive bG (G:Gr) (R:Nat→Nat→Prop):Nat→Prop
 | mk (i):(∀j,R i j→G.named j→∀p∈G.ch j,bG G R p)→bG G R i
theorem bG.parts {G:Gr} {R:Nat→Nat→Prop} {i:Nat} (h:bG G R i) {j p:Nat} (hj:R i j) (hn:G.named j) (hp:p∈G.ch j):bG G R p:=by cases h with | mk _ h=>exact h j hj hn p hp
theorem bG.same {G:Gr} {R:Nat→Nat→Prop} (hR:gD G R) {i j:Nat} (h:bG G R i) (hj:R i j):bG G R j:=⟨_,fun _ hk hn _ hp=>h.parts (hR.trans _ _ _ hj hk) hn hp⟩
inductive aO (G:Gr) (R:Nat→Nat→Prop) (rep:Nat→Nat):List Nat→List Nd→Prop
 | nil:aO G R rep [] []
 | var {i r l}:(∀j,R i j→¬G.named j)→aO G R rep r l→aO G R rep (i :: r) ((⟨#[]⟩,(rep i:Int)) :: l)
 | name {i j r l}:R i j→G.named j→aO G R rep (G.ch j++r) l→aO G R rep (i :: r) (G.lab j :: l)
section
variable {G:Gr} {R:Nat→Nat→Prop} {rep:Nat→Nat}
theorem aO.append {r s:List Nat} {l m:List Nd} (h:aO G R rep r l) (k:aO G R rep s m):aO G R rep (r++s) (l++m):=by
 induction h with
 | nil=>exact k
 | var h1 _ ih=>exact aO.var h1 ih
 | name h1 h2 _ ih=>exact aO.name h1 h2 (by rw [List.append_assoc] at ih;exact ih)
theorem aO.split {x:List Nat} {l:List Nd} (h:aO G R rep x l):∀r s,x=r++s→∃l1 l2,l=l1++l2∧aO G R rep r l1∧aO G R rep s l2:=by
 induction h with
 | nil=>
  intro r s e
  obtain ⟨rfl,rfl⟩:=List.append_eq_nil_iff.1 e.symm
  exact ⟨[],[],rfl,aO.nil,aO.nil⟩
 | @var i r0 l h1 h2 ih=>
  intro r s e
  cases r with
  | nil=>
   simp at e;subst e
   exact ⟨[],_,rfl,aO.nil,aO.var h1 h2⟩
  | cons y r=>
   simp at e
   obtain ⟨rfl,e⟩:=e
   obtain ⟨l1,l2,rfl,a,b⟩:=ih r s e
   exact ⟨_ :: l1,l2,rfl,aO.var h1 a,b⟩
 | @name i j r0 l h1 h2 h3 ih=>
  intro r s e
  cases r with
  | nil=>
   simp at e;subst e
   exact ⟨[],_,rfl,aO.nil,aO.name h1 h2 h3⟩
  | cons y r=>
   simp at e
   obtain ⟨rfl,e⟩:=e
   obtain ⟨l1,l2,rfl,a,b⟩:=ih (G.ch j++r) s (by rw [e,List.append_assoc])
   exact ⟨_ :: l1,l2,rfl,aO.name h1 h2 a,b⟩
theorem aO.same (hR:gD G R) (hrep:∀i j,R i j→rep i=rep j) {x:List Nat} {l:List Nd} (h:aO G R rep x l):∀y,aK R x y→aO G R rep y l:=by
 induction h with
 | nil=>intro y hy;cases hy;exact aO.nil
 | @var i r l h1 _ ih=>
  intro y hy
  cases hy with
  | @cons _ b _ m hb hm=>
   rw [hrep _ _ hb]
   exact aO.var (fun j hj=>h1 j (hR.trans _ _ _ hb hj)) (ih _ hm)
 | @name i j r l h1 h2 _ ih=>
  intro y hy
  cases hy with
  | @cons _ b _ m hb hm=>
   exact aO.name (hR.trans _ _ _ (hR.symm _ _ hb) h1) h2 (ih _ ((aK.refl hR.refl _).append hm))
def Gr.Arity (G:Gr):Prop:=∀i j,G.named i→G.named j→G.lab i=G.lab j→(G.ch i).length=(G.ch j).length
theorem aB9 (hR:gD G R) (hN:fK G R) (hA:G.Arity) {i j:Nat} (h:R i j) (hi:G.named i) (hj:G.named j):aK R (G.ch i) (G.ch j):=
 aK.of_get (hA i j hi hj (hN i j h hi hj)) fun k a b h1 h2=>hR.down i j k a b h hi hj h1 h2
theorem aO.one (hR:gD G R) (hN:fK G R) (hA:G.Arity) (hrep:∀i j,R i j→rep i=rep j) {x:List Nat} {l:List Nd} (h:aO G R rep x l):∀m,aO G R rep x m→l=m:=by
 induction h with
 | nil=>intro m hm;cases hm;rfl
 | @var i r l h1 _ ih=>
  intro m hm
  cases hm with
  | var _ h2=>rw [ih _ h2]
  | name h2 h3 _=>exact absurd h3 (h1 _ h2)
 | @name i j r l h1 h2 _ ih=>
  intro m hm
  cases hm with
  | var h3 _=>exact absurd h2 (h3 _ h1)
  | @name _ j' _ m' h3 h4 h5=>
   have hjj:R j' j:=hR.trans _ _ _ (hR.symm _ _ h3) h1
   rw [hN j' j hjj h4 h2,ih _ (h5.same hR hrep _ ((aB9 hR hN hA hjj h4 h2).append (aK.refl hR.refl _)))]
theorem aO.exists_of_all {x:List Nat} (h:∀i∈x,∃l,aO G R rep [i] l):∃l,aO G R rep x l:=by
 induction x with
 | nil=>exact ⟨[],aO.nil⟩
 | cons i r ih=>
  obtain ⟨l,hl⟩:=h i (by simp)
  obtain ⟨m,hm⟩:=ih fun j hj=>h j (by simp [hj])
  exact ⟨l++m,hl.append hm⟩
theorem bG.exp {i:Nat} (h:bG G R i):∃l,aO G R rep [i] l:=by
 induction h with
 | mk i _ ih=>
  by_cases hn:∃j,R i j∧G.named j
  ·obtain ⟨j,h1,h2⟩:=hn
   obtain ⟨l,hl⟩:=aO.exists_of_all (G:=G) (R:=R) (rep:=rep) fun p hp=>ih j h1 h2 p hp
   exact ⟨_,aO.name h1 h2 (by rw [List.append_nil];exact hl)⟩
  ·exact ⟨_,aO.var (fun j h1 h2=>hn ⟨j,h1,h2⟩) aO.nil⟩
theorem aO.pos {i:Nat} {l:List Nd} (h:aO G R rep [i] l):1≤l.length:=by
 cases h with
 | var=>simp
 | name=>simp
end
theorem nN (x:Int):aG (⟨#[]⟩,x)=true:=by
 have he:(⟨#[]⟩ : ByteArray).toList=[]:=by rw [ByteArray.toList_eq]
 simp [aG,he]
structure Laid (P D:Gr) (BP BD:Nat→Nat→Prop) (f:Nat→Nat):Prop where
 named:∀p,P.named p↔D.named (f p)
 lab:∀p,P.named p→P.lab p=D.lab (f p)
 ch:∀p,P.named p→D.ch (f p)=(P.ch p).map f
 ker:∀p q,f p=f q→Cl P BP p q
 base:∀p q,BP p q→Cl D BD (f p) (f q)
 back:∀r s,BD r s→∃p q,f p=r∧f q=s∧Cl P BP p q
 onto:∀r,D.named r→∃p,f p=r
section
variable {P D:Gr} {BP BD:Nat→Nat→Prop} {f:Nat→Nat}
theorem Laid.to (h:Laid P D BP BD f) {p q:Nat} (c:Cl P BP p q):Cl D BD (f p) (f q):=by
 refine Cl.le (R:=fun p q=>Cl D BD (f p) (f q)) ⟨fun _=>Cl.refl _,fun _ _=>Cl.symm,fun _ _ _=>Cl.trans,?_⟩ (fun i j hb=>h.base i j hb) c
 intro i j k p q c hi hj hp hq
 exact Cl.down (k:=k) c ((h.named i).1 hi) ((h.named j).1 hj) (by rw [h.ch i hi];simp [hp]) (by rw [h.ch j hj];simp [hq])
theorem Laid.from (h:Laid P D BP BD f) {p q:Nat} (c:Cl D BD (f p) (f q)):Cl P BP p q:=by
 have key:f p=f q∨∃p' q',f p'=f p∧f q'=f q∧Cl P BP p' q':=by
  refine Cl.le (R:=fun r s=>r=s∨∃p' q',f p'=r∧f q'=s∧Cl P BP p' q') ⟨fun _=>Or.inl rfl,?_,?_,?_⟩ ?_ c
  ·rintro i j (rfl | ⟨a,b,rfl,rfl,h1⟩)
   ·exact Or.inl rfl
   ·exact Or.inr ⟨b,a,rfl,rfl,h1.symm⟩
  ·rintro i j k (rfl | ⟨a,b,rfl,rfl,h1⟩) (rfl | ⟨a',b',h2,rfl,h3⟩)
   ·exact Or.inl rfl
   ·exact Or.inr ⟨a',b',h2,rfl,h3⟩
   ·exact Or.inr ⟨a,b,rfl,rfl,h1⟩
   ·exact Or.inr ⟨a,b',rfl,rfl,h1.trans ((h.ker _ _ h2.symm).trans h3)⟩
  ·rintro i j k x y (rfl | ⟨a,b,rfl,rfl,h1⟩) hi hj hx hy
   ·rw [hx] at hy;exact Or.inl (by simpa using hy)
   ·have ha:=(h.named a).2 hi
    have hb:=(h.named b).2 hj
    rw [h.ch a ha,List.getElem?_map] at hx
    rw [h.ch b hb,List.getElem?_map] at hy
    simp at hx hy
    obtain ⟨x',hx,rfl⟩:=hx
    obtain ⟨y',hy,rfl⟩:=hy
    exact Or.inr ⟨x',y',rfl,rfl,Cl.down h1 ha hb hx hy⟩
  ·intro i j hb
   exact Or.inr (h.back i j hb)
 rcases key with e | ⟨p',q',e1,e2,c⟩
 ·exact h.ker _ _ e
 ·exact (h.ker _ _ e1.symm).trans (c.trans (h.ker _ _ e2))
theorem Laid.clash (h:Laid P D BP BD f):fK P (Cl P BP)↔fK D (Cl D BD):=by
 constructor
 ·intro n r s c hr hs
  obtain ⟨p,rfl⟩:=h.onto r hr
  obtain ⟨q,rfl⟩:=h.onto s hs
  have hp:=(h.named p).2 hr
  have hq:=(h.named q).2 hs
  rw [←h.lab p hp,←h.lab q hq]
  exact n p q (h.from c) hp hq
 ·intro n p q c hp hq
  rw [h.lab p hp,h.lab q hq]
  exact n _ _ (h.to c) ((h.named p).1 hp) ((h.named q).1 hq)
theorem Laid.ends_to (h:Laid P D BP BD f) {p:Nat} (e:bG P (Cl P BP) p):bG D (Cl D BD) (f p):=by
 induction e with
 | mk i _ ih=>
  refine ⟨_,fun j hj hn x hx=>?_⟩
  obtain ⟨q,rfl⟩:=h.onto j hn
  have hq:=(h.named q).2 hn
  rw [h.ch q hq] at hx
  obtain ⟨y,hy,rfl⟩:=List.mem_map.1 hx
  exact ih q (h.from hj) hq y hy
theorem Laid.ends_from (h:Laid P D BP BD f) {r:Nat} (e:bG D (Cl D BD) r):∀p,f p=r→bG P (Cl P BP) p:=by
 induction e with
 | mk i _ ih=>
  rintro p rfl
  refine ⟨_,fun q hq hn x hx=>?_⟩
  exact ih (f q) (h.to hq) ((h.named q).1 hn) (f x) (by rw [h.ch q hn];exact List.mem_map_of_mem hx) x rfl
theorem Laid.exp (h:Laid P D BP BD f) {rp rd:Nat→Nat} {x:List Nat} {l:List Nd} (e:aO P (Cl P BP) rp x l) :
  ∃m,aO D (Cl D BD) rd (x.map f) m∧aK (fJ fun a b=>∃p,a=(rp p:Int)∧b=(rd (f p):Int)) l m:=by
 induction e with
 | nil=>exact ⟨[],aO.nil,aK.nil⟩
 | @var i r l h1 _ ih=>
  obtain ⟨m,a,b⟩:=ih
  refine ⟨_,aO.var (i:=f i) (fun j hj hn=>?_) a,aK.cons (Or.inl ⟨nN _,nN _,rfl,i,rfl,rfl⟩) b⟩
  obtain ⟨q,rfl⟩:=h.onto j hn
  exact h1 q (h.from hj) ((h.named q).2 hn)
 | @name i j r l h1 h2 _ ih=>
  obtain ⟨m,a,b⟩:=ih
  refine ⟨_,aO.name (i:=f i) (j:=f j) (h.to h1) ((h.named j).1 h2) (by rw [h.ch j h2,←List.map_append];exact a),aK.cons (Or.inr ⟨h2,h.lab j h2⟩) b⟩
theorem Laid.pairs (h:Laid P D BP BD f) {rp rd:Nat→Nat} (hp:∀p q,rp p=rp q↔Cl P BP p q) (hd:∀p q,rd p=rd q↔Cl D BD p q):jJ fun a b=>∃p,a=(rp p:Int)∧b=(rd (f p):Int):=by
 rintro x y x' y' ⟨p,rfl,rfl⟩ ⟨q,rfl,rfl⟩
 constructor
 ·intro e
  have:rd (f p)=rd (f q):=(hd _ _).2 (h.to ((hp p q).1 (by omega)))
  omega
 ·intro e
  have:rp p=rp q:=(hp _ _).2 (h.from ((hd _ _).1 (by omega)))
  omega
end
end Go.Proofs.YthicbnejchpmgaaGreatDoor
namespace Go.Proofs.YthicbnejchpmgaaGreatDoor
open Go.RowKit
set_option maxRecDepth 100000
def eQ (c:Int):Bool:=decide (97≤c) && decide (c≤122)
def eH (c:Int):Bool:=decide (65≤c) && decide (c≤90)
def rQ (c:Int):Bool:=decide (48≤c) && decide (c≤57)
def gE (c:Int):Bool:=eQ c || eH c || rQ c || c == 95
theorem aG6 (c:Int) (w:World):Calls Tryz.prog 76 #[.int .i32 c] w fun e w'=>e=.returned (.bool (eQ c))∧w'=w:=by
 unfold eQ
 by_cases h:97≤c
 all_goals
  go_enter Tryz.func76,Tryz.ntmps76
  go_wp2
  go_ret
  exact ⟨cS (by rw [Bool.eq_iff_iff];simp;omega),rfl⟩
theorem aG7 (c:Int) (w:World):Calls Tryz.prog 78 #[.int .i32 c] w fun e w'=>e=.returned (.bool (eH c))∧w'=w:=by
 unfold eH
 by_cases h:65≤c
 all_goals
  go_enter Tryz.func78,Tryz.ntmps78
  go_wp2
  go_ret
  exact ⟨cS (by rw [Bool.eq_iff_iff];simp;omega),rfl⟩
theorem aRh (c:Int) (w:World):Calls Tryz.prog 119 #[.int .i32 c] w fun e w'=>e=.returned (.bool (rQ c))∧w'=w:=by
 unfold rQ
 by_cases h:48≤c
 all_goals
  go_enter Tryz.func119,Tryz.ntmps119
  go_wp2
  go_ret
  exact ⟨cS (by rw [Bool.eq_iff_iff];simp;omega),rfl⟩
theorem aRi (c:Int) (w:World):Calls Tryz.prog 105 #[.int .i32 c] w fun e w'=>e=.returned (.bool (gE c))∧w'=w:=by
 have c1:=aG6 c w
 have c2:=aG7 c w
 have c3:=aRh c w
 have HI:Hid (gE c=(eQ c || eH c || rQ c || c == 95)):=rfl
 generalize eQ c=b1 at *
 generalize eH c=b2 at *
 generalize rQ c=b3 at *
 go_enter Tryz.func105,Tryz.ntmps105
 cases b1 <;> cases b2 <;> cases b3
 all_goals
  go_wp2_with (first
   | (go_at_call 76;refine c1.mono ?_;rintro e w' ⟨rfl,rfl⟩)
   | (go_at_call 78;refine c2.mono ?_;rintro e w' ⟨rfl,rfl⟩)
   | (go_at_call 119;refine c3.mono ?_;rintro e w' ⟨rfl,rfl⟩))
  go_ret
  exact ⟨cS (by rw [HI.out];simp),rfl⟩
def mT (c:Int):Bool:=decide (c=39) || decide (c=92)
theorem aRj (c:Int) (w:World):Calls Tryz.prog 106 #[.int .i32 c] w fun e w'=>e=.returned (.bool (mT c))∧w'=w:=by
 by_cases h:c=39
 ·have h1:(c == 39)=true:=by simp [h]
  have HE:=aA (show mT c=true by simp [mT,h])
  clear h
  go_enter Tryz.func106,Tryz.ntmps106
  go_wp2
  go_ret
  exact ⟨cS HE.out.symm,rfl⟩
 ·have h1:(c == 39)=false:=by simp [h]
  have HE:=aA (show mT c=(c == 92) by simp [mT,h];rfl)
  clear h
  go_enter Tryz.func106,Tryz.ntmps106
  go_wp2
  go_ret
  exact ⟨cS HE.out.symm,rfl⟩
end Go.Proofs.YthicbnejchpmgaaGreatDoor
