import Derived.Test.YtcldkjcpofjmhaaGreatDoorBase0F
import Derived.Maps.OwnSet
import Derived.Maps.Keyed
open List renaming reverse_cons→zy,append_assoc→zx,getElem?_map→zw
open Or renaming inr→zz,inl→zv
namespace Go.Proofs.YtcldkjcpofjmhaaGreatDoor
set_option maxHeartbeats 1000000
set_option maxRecDepth 100000
variable{V:Int->Int->Prop}{l:List Nd}{R:Nat->Nat->Prop}
section
open Go.RowKit Go.WideMaps
theorem zH{D:DataW Unit}(hD:Maps.IsMap D){k:Lit}(h:Maps.has D k=false)(z:DataW Unit):D.atKey k z=z:=by
 obtain ⟨es,rfl⟩:=hD;rw [Maps.has_eq] at h;have:es.find? (λp=>p.1.sameKey k)=none:=by rw [List.find?_eq_none];intro p hp;rw [List.any_eq_false] at h;exact h p hp
 simp [DataW.atKey,this]
end
section
open Go.RowKit
theorem aRg(a:Option Addr)(cp:Nat)(l:List Nd)(w:World)(h:cU w a l) :
  Calls Tryz.prog 42 #[.slice a l.length cp] w λe w'=>e=.returned (.bool (fT l))/\Below w.heap.size w w':=by
 have hfew:=h.few;go_enter Tryz.func42,Tryz.ntmps42;go_wp2;go_loopw [3,4] (λq i wr=>∃k m:Nat,k<=l.length/\m<=1+5*k/\i=.int .i64 k/\q=.int .i64 m/\Below w.heap.size w wr/\aW l 1=aW (l.drop k) m) (λ_ i _=>l.length-(intOf i).toNat);case atStart=>exact ⟨0,1,by omega,by omega,rfl,rfl,Below.refl _ _,rfl⟩
 case round=>
  obtain ⟨k,m,hk,hm,rfl,rfl,hbel,hg⟩:=hrel;by_cases hlt:k<l.length
  ·obtain ⟨b,o,rfl,e1,f1⟩:=h.cell k hlt;have e2:=Below.at' hbel (Nat.le_refl _) e1;have f2:=Below.at' hbel (Nat.le_refl _) f1;have hsh:=h.short k hlt;clear e1 f1 h;by_cases hm0:m=0
   ·subst hm0;rw [aF0 l k hlt] at hg;have HR:Hid (fT l=false):=by unfold fT;rw [hg];rfl
    have HB:=aA hbel;clear hg hbel;go_wp2;go_ret;exact ⟨cI HR.out.symm,HB.out.alloc HB.out.size _⟩
   ·have hb1:((m:Int) == 0)=false:=by rw [beq_eq_false_iff_ne];omega
    have hon:=aF2 l k m hlt hm0;have hbad:=aF1 l k m hlt;generalize l[k]=nd at *;obtain ⟨s,x⟩:=nd;simp only at e2 f2 hsh;have cN:=λwx=>aMt s wx (by omega)
    by_cases hok:eA (s,x)=true
    ·have hg2:=hg.trans (hon hok);have HG:=aA hg2;have HB:=aA hbel;clear hg hg2 hon hbad hbel;by_cases hv:s.toList.isEmpty=true
     ·have hx:0<=x/\x<60:=by simpa [eA,aF,hv] using hok
      have HW:Hid (bJ (s,x)=0):=by unfold bJ aF;rw [if_pos hv];exact rfl
      obtain ⟨hx1,hx2⟩:=hx;clear hok;go_wp2;go_roundw;case rel=>exact ⟨k+1,m-1,by omega,by omega,by go_num,by go_num,HB.out.alloc HB.out.size _,by rw [HG.out,HW.out];rfl⟩
      case measure=>simp [intOf];omega
     ·have hx:gE s=true/\0<=x/\x<=5:=by simpa [eA,aF,hv] using hok
      have HW:Hid (bJ (s,x)=x.toNat):=by unfold bJ aF;rw [if_neg hv];exact rfl
      obtain ⟨hn,hx1,hx2⟩:=hx;simp only [hn] at cN;have HC:=aA cN;have hv':s.toList.isEmpty=false:=by simpa using hv
      clear hok cN hn hv;go_wp2_with (go_at_call 67;refine (aB HC _).mono ?_;rintro e w' ⟨rfl,rfl⟩);go_roundw;case rel=>exact ⟨k+1,m-1+x.toNat,by omega,by omega,by go_num,by go_num,HB.out.alloc HB.out.size _,by rw [HG.out,HW.out]⟩
      case measure=>simp [intOf];omega
    ·have hok':eA (s,x)=false:=by simpa using hok
     rw [hbad hok'] at hg;have HR:Hid (fT l=false):=by unfold fT;rw [hg];rfl
     have HB:=aA hbel;clear hg hon hbad hbel;by_cases hv:s.toList.isEmpty=true
     ·have hx:x<0\/60<=x:=by
       have:¬(0<=x/\x<60):=by simpa [eA,aF,hv] using hok
       omega
      clear hok hok';rcases hx with hx | hx;all_goals
       go_wp2;go_ret;exact ⟨cI HR.out.symm,HB.out.alloc HB.out.size _⟩
     ·have hv':s.toList.isEmpty=false:=by simpa using hv
      have hx:gE s=false\/(gE s=true/\(x<0\/5<x)):=by
       cases hn:gE s
       ·exact zv rfl
       ·have:¬(0<=x/\x<=5):=by simpa [eA,aF,hv,hn] using hok
        exact zz ⟨rfl,by omega⟩
      clear hok hok' hv;rcases hx with hx | ⟨hx,hy | hy⟩;all_goals
       simp only [hx] at cN;have HC:=aA cN;clear cN hx;go_wp2_with (go_at_call 67;refine (aB HC _).mono ?_;rintro e w' ⟨rfl,rfl⟩);go_ret;exact ⟨cI HR.out.symm,HB.out.alloc HB.out.size _⟩
  ·have hd:l.drop k=[]:=List.drop_eq_nil_of_le (by omega);rw [hd] at hg;have HR:Hid (fT l=(decide (m=0) && decide (l.length<=60))):=by unfold fT;rw [hg];rfl
   have HB:=aA hbel;clear hg hd hbel;go_wp2;all_goals
    go_ret;refine ⟨cI ?_,HB.out⟩;rw [HR.out,Bool.eq_iff_iff];simp;omega
end
section
inductive aM{α β:Type}(R:α->β->Prop):List α->List β->Prop
 | nil:aM R [] []
 | cons {a b l m}:R a b->aM R l m->aM R (a :: l) (b :: m)
namespace aM
variable {α β:Type}{R S:α->β->Prop}
theorem length{l:List α}{m:List β}(h:aM R l m):l.length=m.length:=by
 induction h with
 | nil=>rfl
 | cons _ _ ih=>simp [ih]
theorem append{l l':List α}{m m':List β}(h:aM R l m)(k:aM R l' m'):aM R (l++l') (m++m'):=by
 induction h with
 | nil=>exact k
 | cons h1 _ ih=>exact aM.cons h1 ih
theorem snoc{l:List α}{m:List β}{a:α}{b:β}(h:aM R l m)(k:R a b):aM R (l++[a]) (m++[b]):=h.append (aM.cons k aM.nil)
theorem refl{R:α->α->Prop}(f:∀a,R a a):∀l:List α,aM R l l
 | []=>aM.nil
 | a :: l=>aM.cons (f a) (refl f l)
theorem of_get{l:List α}{m:List β}(h:l.length=m.length)(f:∀(k:Nat) (a:α) (b:β),l[k]?=some a->m[k]?=some b->R a b):aM R l m:=by
 induction l generalizing m with
 | nil=>cases m with
  | nil=>exact aM.nil
  | cons=>simp at h
 | cons a l ih=>cases m with
  | nil=>simp at h
  | cons b m=>exact aM.cons (f 0 a b rfl rfl) (ih (by simpa using h) λk a b h1 h2=>f (k+1) a b (by simpa using h1) (by simpa using h2))
theorem rev{l:List α}{m:List β}(h:aM R l m):aM R l.reverse m.reverse:=by
 induction h with
 | nil=>exact aM.nil
 | cons h1 _ ih=>rw [zy,zy];exact ih.snoc h1
end aM
def lH(V:Int->Int->Prop):Prop:=∀x y x' y',V x y->V x' y'->(x=x'↔y=y')
def kQ(V:Int->Int->Prop)(n m:Nd):Prop:=(aF n=true/\aF m=true/\n.1=m.1/\V n.2 m.2)\/(aF n=false/\n=m)
theorem aRh(hV:lH V){s t:List Int}(h:aM V s t){x y:Int}(hx:V x y):uR s x=uR t y:=by
 induction h with
 | nil=>rfl
 | cons h1 h2 ih=>
  simp only [uR];have e:=hV _ _ _ _ h1 hx;have hl:=h2.length;rw [ih,hl];by_cases hc : ‹Int› = x <;> simp_all
theorem aRi(hV:lH V){s t:List Int}(h:aM V s t){x y:Int}(hx:V x y):eJ s x=eJ t y:=aRh hV h.rev hx
theorem aRj(hV:lH V){st st':List Nd×List Int}(h1:st.1=st'.1)(h2:aM V st.2 st'.2){n m:Nd}(h:kQ V n m):(dC st n).1=(dC st' m).1/\aM V (dC st n).2 (dC st' m).2:=by
 rcases h with ⟨a,b,c,d⟩ | ⟨a,rfl⟩
 ·have hp:=aRi hV h2 d;have hl:=h2.length;unfold dC;rw [a,b,hp];by_cases hc:eJ st'.2 m.2<0
  ·simp [hc,h1,c,hl];exact h2.snoc d
  ·simp [hc,h1,c];exact h2
 ·unfold dC;rw [a];simp [h1];exact h2
theorem aRk(hV:lH V){l m:List Nd}(h:aM (kQ V) l m){s t:List Int}(hs:aM V s t):(cG l s).1=(cG m t).1/\aM V (cG l s).2 (cG m t).2:=by
 unfold cG;suffices ∀(st st':List Nd×List Int),st.1=st'.1->aM V st.2 st'.2->(l.foldl dC st).1=(m.foldl dC st').1/\aM V (l.foldl dC st).2 (m.foldl dC st').2 from this _ _ rfl hs
 induction h with
 | nil=>intro st st' h1 h2;exact ⟨h1,h2⟩
 | cons hc _ ih=>
  intro st st' h1 h2;obtain ⟨g1,g2⟩:=aRj hV h1 h2 hc;exact ih _ _ g1 g2
structure Gr where
 lab:Nat->Nd
 ch:Nat->List Nat
def Gr.named(G:Gr)(i:Nat):Prop:=aF (G.lab i)=false
inductive Cl(G:Gr)(B:Nat->Nat->Prop):Nat->Nat->Prop
 | refl (i):Cl G B i i
 | base {i j}:B i j->Cl G B i j
 | symm {i j}:Cl G B i j->Cl G B j i
 | trans {i j k}:Cl G B i j->Cl G B j k->Cl G B i k
 | down {i j k p q:Nat}:Cl G B i j->G.named i->G.named j->(G.ch i)[k]?=some p->(G.ch j)[k]?=some q->Cl G B p q
structure eK(G:Gr)(R:Nat->Nat->Prop):Prop where
 refl:∀i,R i i
 symm:∀i j,R i j->R j i
 trans:∀i j k,R i j->R j k->R i k
 down:∀i j k p q:Nat,R i j->G.named i->G.named j->(G.ch i)[k]?=some p->(G.ch j)[k]?=some q->R p q
theorem Cl.isDown(G:Gr)(B:Nat->Nat->Prop):eK G (Cl G B):=⟨Cl.refl,λ_ _=>Cl.symm,λ_ _ _=>Cl.trans,λ_ _ _ _ _=>Cl.down⟩
theorem Cl.le{G:Gr}{B:Nat->Nat->Prop}(hR:eK G R)(hB:∀i j,B i j->R i j){i j:Nat}(h:Cl G B i j):R i j:=by
 induction h with
 | refl i=>exact hR.refl i
 | base h=>exact hB _ _ h
 | symm _ ih=>exact hR.symm _ _ ih
 | trans _ _ h1 h2=>exact hR.trans _ _ _ h1 h2
 | down _ a b c d ih=>exact hR.down _ _ _ _ _ ih a b c d
def dW(G:Gr)(R:Nat->Nat->Prop):Prop:=∀i j,R i j->G.named i->G.named j->G.lab i=G.lab j
inductive bD(G:Gr)(R:Nat->Nat->Prop):Nat->Prop
 | mk (i):(∀j,R i j->G.named j->∀p∈G.ch j,bD G R p)->bD G R i
theorem bD.parts{G:Gr}{i:Nat}(h:bD G R i){j p:Nat}(hj:R i j)(hn:G.named j)(hp:p∈G.ch j):bD G R p:=by cases h with | mk _ h=>exact h j hj hn p hp
theorem bD.same{G:Gr}(hR:eK G R){i j:Nat}(h:bD G R i)(hj:R i j):bD G R j:=⟨_,λ_ hk hn _ hp=>h.parts (hR.trans _ _ _ hj hk) hn hp⟩
inductive aL(G:Gr)(R:Nat->Nat->Prop)(rep:Nat->Nat):List Nat->List Nd->Prop
 | nil:aL G R rep [] []
 | var {i r l}:(∀j,R i j->¬G.named j)->aL G R rep r l->aL G R rep (i :: r) ((⟨#[]⟩,(rep i:Int)) :: l)
 | name {i j r l}:R i j->G.named j->aL G R rep (G.ch j++r) l->aL G R rep (i :: r) (G.lab j :: l)
section
variable {G:Gr}{R:Nat->Nat->Prop}{rep:Nat->Nat}
theorem aL.append{r s:List Nat}{m:List Nd}(h:aL G R rep r l)(k:aL G R rep s m):aL G R rep (r++s) (l++m):=by
 induction h with
 | nil=>exact k
 | var h1 _ ih=>exact aL.var h1 ih
 | name h1 h2 _ ih=>exact aL.name h1 h2 (by rw [zx] at ih;exact ih)
theorem aL.split{x:List Nat}(h:aL G R rep x l):∀r s,x=r++s->∃l1 l2,l=l1++l2/\aL G R rep r l1/\aL G R rep s l2:=by
 induction h with
 | nil=>
  intro r s e;obtain ⟨rfl,rfl⟩:=List.append_eq_nil_iff.1 e.symm;exact ⟨[],[],rfl,aL.nil,aL.nil⟩
 | @var i r0 l h1 h2 ih=>
  intro r s e;cases r with
  | nil=>
   simp at e;subst e;exact ⟨[],_,rfl,aL.nil,aL.var h1 h2⟩
  | cons y r=>
   simp at e;obtain ⟨rfl,e⟩:=e;obtain ⟨l1,l2,rfl,a,b⟩:=ih r s e;exact ⟨_ :: l1,l2,rfl,aL.var h1 a,b⟩
 | @name i j r0 l h1 h2 h3 ih=>
  intro r s e;cases r with
  | nil=>
   simp at e;subst e;exact ⟨[],_,rfl,aL.nil,aL.name h1 h2 h3⟩
  | cons y r=>
   simp at e;obtain ⟨rfl,e⟩:=e;obtain ⟨l1,l2,rfl,a,b⟩:=ih (G.ch j++r) s (by rw [e,zx]);exact ⟨_ :: l1,l2,rfl,aL.name h1 h2 a,b⟩
theorem aL.same(hR:eK G R)(hrep:∀i j,R i j->rep i=rep j){x:List Nat}{l:List Nd}(h:aL G R rep x l):∀y,aM R x y->aL G R rep y l:=by
 induction h with
 | nil=>intro y hy;cases hy;exact aL.nil
 | @var i r l h1 _ ih=>
  intro y hy;cases hy with
  | @cons _ b _ m hb hm=>
   rw [hrep _ _ hb];exact aL.var (λj hj=>h1 j (hR.trans _ _ _ hb hj)) (ih _ hm)
 | @name i j r l h1 h2 _ ih=>
  intro y hy;cases hy with
  | @cons _ b _ m hb hm=>
   exact aL.name (hR.trans _ _ _ (hR.symm _ _ hb) h1) h2 (ih _ ((aM.refl hR.refl _).append hm))
def Gr.Arity(G:Gr):Prop:=∀i j,G.named i->G.named j->G.lab i=G.lab j->(G.ch i).length=(G.ch j).length
theorem uX(hR:eK G R)(hN:dW G R)(hA:G.Arity){i j:Nat}(h:R i j)(hi:G.named i)(hj:G.named j):aM R (G.ch i) (G.ch j):=
 aM.of_get (hA i j hi hj (hN i j h hi hj)) λk a b h1 h2=>hR.down i j k a b h hi hj h1 h2
theorem aL.one(hR:eK G R)(hN:dW G R)(hA:G.Arity)(hrep:∀i j,R i j->rep i=rep j){x:List Nat}{l:List Nd}(h:aL G R rep x l):∀m,aL G R rep x m->l=m:=by
 induction h with
 | nil=>intro m hm;cases hm;rfl
 | @var i r l h1 _ ih=>
  intro m hm;cases hm with
  | var _ h2=>rw [ih _ h2]
  | name h2 h3 _=>exact absurd h3 (h1 _ h2)
 | @name i j r l h1 h2 _ ih=>
  intro m hm;cases hm with
  | var h3 _=>exact absurd h2 (h3 _ h1)
  | @name _ j' _ m' h3 h4 h5=>
   have hjj:R j' j:=hR.trans _ _ _ (hR.symm _ _ h3) h1;rw [hN j' j hjj h4 h2,ih _ (h5.same hR hrep _ ((uX hR hN hA hjj h4 h2).append (aM.refl hR.refl _)))]
theorem aL.exists_of_all{x:List Nat}(h:∀i∈x,∃l,aL G R rep [i] l):∃l,aL G R rep x l:=by
 induction x with
 | nil=>exact ⟨[],aL.nil⟩
 | cons i r ih=>
  obtain ⟨l,hl⟩:=h i (by simp);obtain ⟨m,hm⟩:=ih λj hj=>h j (by simp [hj])
  exact ⟨l++m,hl.append hm⟩
theorem bD.exp{i:Nat}(h:bD G R i):∃l,aL G R rep [i] l:=by
 induction h with
 | mk i _ ih=>
  by_cases hn:∃j,R i j/\G.named j
  ·obtain ⟨j,h1,h2⟩:=hn;obtain ⟨l,hl⟩:=aL.exists_of_all (G:=G) (R:=R) (rep:=rep) λp hp=>ih j h1 h2 p hp
   exact ⟨_,aL.name h1 h2 (by rw [List.append_nil];exact hl)⟩
  ·exact ⟨_,aL.var (λj h1 h2=>hn ⟨j,h1,h2⟩) aL.nil⟩
theorem aL.pos{i:Nat}(h:aL G R rep [i] l):1<=l.length:=by
 cases h with
 | var=>simp
 | name=>simp
end
theorem oI(x:Int):aF (⟨#[]⟩,x)=true:=by
 have he:(⟨#[]⟩ : ByteArray).toList=[]:=by rw [ByteArray.toList_eq]
 simp [aF,he]
structure Laid(P D:Gr)(BP BD:Nat->Nat->Prop)(f:Nat->Nat):Prop where
 named:∀p,P.named p↔D.named (f p)
 lab:∀p,P.named p->P.lab p=D.lab (f p)
 ch:∀p,P.named p->D.ch (f p)=(P.ch p).map f
 ker:∀p q,f p=f q->Cl P BP p q
 base:∀p q,BP p q->Cl D BD (f p) (f q)
 back:∀r s,BD r s->∃p q,f p=r/\f q=s/\Cl P BP p q
 onto:∀r,D.named r->∃p,f p=r
section
variable {P D:Gr}{BP BD:Nat->Nat->Prop}{f:Nat->Nat}
theorem Laid.to(h:Laid P D BP BD f){p q:Nat}(c:Cl P BP p q):Cl D BD (f p) (f q):=by refine Cl.le (R:=λp q=>Cl D BD (f p) (f q)) ⟨λ_=>Cl.refl _,λ_ _=>Cl.symm,λ_ _ _=>Cl.trans,?_⟩ (λi j hb=>h.base i j hb) c;intro i j k p q c hi hj hp hq;exact Cl.down (k:=k) c ((h.named i).1 hi) ((h.named j).1 hj) (by rw [h.ch i hi];simp [hp]) (by rw [h.ch j hj];simp [hq])
theorem Laid.from(h:Laid P D BP BD f){p q:Nat}(c:Cl D BD (f p) (f q)):Cl P BP p q:=by
 have key:f p=f q\/∃p' q',f p'=f p/\f q'=f q/\Cl P BP p' q':=by
  refine Cl.le (R:=λr s=>r=s\/∃p' q',f p'=r/\f q'=s/\Cl P BP p' q') ⟨λ_=>zv rfl,?_,?_,?_⟩ ?_ c
  ·rintro i j (rfl | ⟨a,b,rfl,rfl,h1⟩)
   ·exact zv rfl
   ·exact zz ⟨b,a,rfl,rfl,h1.symm⟩
  ·rintro i j k (rfl | ⟨a,b,rfl,rfl,h1⟩) (rfl | ⟨a',b',h2,rfl,h3⟩)
   ·exact zv rfl
   ·exact zz ⟨a',b',h2,rfl,h3⟩
   ·exact zz ⟨a,b,rfl,rfl,h1⟩
   ·exact zz ⟨a,b',rfl,rfl,h1.trans ((h.ker _ _ h2.symm).trans h3)⟩
  ·rintro i j k x y (rfl | ⟨a,b,rfl,rfl,h1⟩) hi hj hx hy
   ·rw [hx] at hy;exact zv (by simpa using hy)
   ·have ha:=(h.named a).2 hi;have hb:=(h.named b).2 hj;rw [h.ch a ha,zw] at hx;rw [h.ch b hb,zw] at hy;simp at hx hy;obtain ⟨x',hx,rfl⟩:=hx;obtain ⟨y',hy,rfl⟩:=hy;exact zz ⟨x',y',rfl,rfl,Cl.down h1 ha hb hx hy⟩
  ·intro i j hb;exact zz (h.back i j hb)
 rcases key with e | ⟨p',q',e1,e2,c⟩
 ·exact h.ker _ _ e
 ·exact (h.ker _ _ e1.symm).trans (c.trans (h.ker _ _ e2))
theorem Laid.clash(h:Laid P D BP BD f):dW P (Cl P BP)↔dW D (Cl D BD):=by
 constructor
 ·intro n r s c hr hs;obtain ⟨p,rfl⟩:=h.onto r hr;obtain ⟨q,rfl⟩:=h.onto s hs;have hp:=(h.named p).2 hr;have hq:=(h.named q).2 hs;rw [<-h.lab p hp,<-h.lab q hq];exact n p q (h.from c) hp hq
 ·intro n p q c hp hq;rw [h.lab p hp,h.lab q hq];exact n _ _ (h.to c) ((h.named p).1 hp) ((h.named q).1 hq)
theorem Laid.ends_to(h:Laid P D BP BD f){p:Nat}(e:bD P (Cl P BP) p):bD D (Cl D BD) (f p):=by
 induction e with
 | mk i _ ih=>
  refine ⟨_,λj hj hn x hx=>?_⟩;obtain ⟨q,rfl⟩:=h.onto j hn;have hq:=(h.named q).2 hn;rw [h.ch q hq] at hx;obtain ⟨y,hy,rfl⟩:=List.mem_map.1 hx;exact ih q (h.from hj) hq y hy
theorem Laid.ends_from(h:Laid P D BP BD f){r:Nat}(e:bD D (Cl D BD) r):∀p,f p=r->bD P (Cl P BP) p:=by
 induction e with
 | mk i _ ih=>
  rintro p rfl;refine ⟨_,λq hq hn x hx=>?_⟩;exact ih (f q) (h.to hq) ((h.named q).1 hn) (f x) (by rw [h.ch q hn];exact List.mem_map_of_mem hx) x rfl
theorem Laid.exp(h:Laid P D BP BD f){rp rd:Nat->Nat}{x:List Nat}{l:List Nd}(e:aL P (Cl P BP) rp x l) :
  ∃m,aL D (Cl D BD) rd (x.map f) m/\aM (kQ λa b=>∃p,a=(rp p:Int)/\b=(rd (f p):Int)) l m:=by
 induction e with
 | nil=>exact ⟨[],aL.nil,aM.nil⟩
 | @var i r l h1 _ ih=>
  obtain ⟨m,a,b⟩:=ih;refine ⟨_,aL.var (i:=f i) (λj hj hn=>?_) a,aM.cons (zv ⟨oI _,oI _,rfl,i,rfl,rfl⟩) b⟩;obtain ⟨q,rfl⟩:=h.onto j hn;exact h1 q (h.from hj) ((h.named q).2 hn)
 | @name i j r l h1 h2 _ ih=>
  obtain ⟨m,a,b⟩:=ih;refine ⟨_,aL.name (i:=f i) (j:=f j) (h.to h1) ((h.named j).1 h2) (by rw [h.ch j h2,<-List.map_append];exact a),aM.cons (zz ⟨h2,h.lab j h2⟩) b⟩
theorem Laid.pairs(h:Laid P D BP BD f){rp rd:Nat->Nat}(hp:∀p q,rp p=rp q↔Cl P BP p q)(hd:∀p q,rd p=rd q↔Cl D BD p q):lH λa b=>∃p,a=(rp p:Int)/\b=(rd (f p):Int):=by
 rintro x y x' y' ⟨p,rfl,rfl⟩ ⟨q,rfl,rfl⟩;constructor
 ·intro e;have:rd (f p)=rd (f q):=(hd _ _).2 (h.to ((hp p q).1 (by omega)));omega
 ·intro e;have:rp p=rp q:=(hp _ _).2 (h.from ((hd _ _).1 (by omega)));omega
end
end
section
def aH:List Nd->Nat->Nat
 | _,0=>0
 | [],_+1=>0
 | n :: r,q+1=>1+aH r (q+bJ n)
@[simp] theorem aZw(l:List Nd):aH l 0=0:=by cases l <;> rfl
theorem uY(n:Nd)(r:List Nd)(q:Nat):aW (n :: r) (q+1)=(eA n && aW r (q+bJ n)):=by simp only [aW];cases eA n <;> simp
theorem zI(t:List Nd):∀p s,aW t p=true->aH (t++s) p=t.length:=by
 induction t with
 | nil=>intro p s h;simp [aW] at h;subst h;simp
 | cons n r ih=>
  intro p s h;cases p with
  | zero=>simp [aW] at h
  | succ p=>
   rw [uY,Bool.and_eq_true] at h;simp [aH,ih _ s h.2];omega
theorem mD(l:List Nd):∀q,aH l q<=l.length:=by
 induction l with
 | nil=>intro q;cases q <;> simp [aH]
 | cons n r ih=>intro q;cases q with
  | zero=>simp
  | succ q=>have:=ih (q+bJ n);simp [aH];omega
abbrev Bd':=List (Int×List Nd)
def aRl(L:Bd')(x:Int):Option (List Nd):=L.lookup x
def subst(σ:Int->List Nd)(l:List Nd):List Nd:=l.flatMap λn=>if aF n then σ n.2 else [n]
def Tm(σ:Int->List Nd):Prop:=∀x,aW (σ x) 1=true
def Ext(σ:Int->List Nd)(L:Bd'):Prop:=∀x t,aRl L x=some t->σ x=t
theorem oJ{n:Nd}(hv:aF n=true):bJ n=0:=by simp [bJ,hv]
def Cov(d c:List Lt)(L:Bd'):Prop:=∃σ,Tm σ/\Ext σ L/\∀l∈c,(l.1,subst σ l.2)∈d
end
end Go.Proofs.YtcldkjcpofjmhaaGreatDoor
