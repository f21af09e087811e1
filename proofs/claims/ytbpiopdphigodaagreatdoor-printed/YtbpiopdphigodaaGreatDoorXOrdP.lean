import Derived.Deep.RegionHeld
open Array renaming setIfInBounds_comm→zx,replicate→zr
open Bool renaming and_eq_true→zw,not_eq_true'→zu
namespace Go.Proofs.YtbpiopdphigodaaGreatDoor
open Region renaming ready→zz,binds→zy,noSelect_spec→zv,free_spec→zt,noSelect→zs
variable{a:Act}{fuel i:Nat}{oi:Oper}{v:Value}{w:World}
section
variable {P:Program}{ops:Array Oper}{Q:Exit->Act->World->Prop}{md:Region.Mode}{k:Nat}{C D:World->Prop}
def jQ(k:Nat)(C D:World->Prop)(b:Array Bool)(w:World):Prop:=(b.getD k true=false->C w)/\D w
def lL(P:Program)(md:Region.Mode)(ops:Array Oper)(Q:Exit->Act->World->Prop)(k:Nat)(C D:World->Prop):Nat->Array Bool->Act->World->Prop
 |0,listed,a,w=>zz md ops listed=[]/\Q .normal a w
 |fuel+1,listed,a,w=>
  (zz md ops listed=[]->Q .normal a w)/\
  ∀i∈zz md ops listed,wpOp P ops Q i (λc b=>jQ k C D (listed.setIfInBounds i true) b/\lL P md ops Q k C D fuel (listed.setIfInBounds i true) c b) a w
theorem aL4:∀(fuel:Nat) (b:Array Bool) (a:Act) (w:World),lL P md ops Q k C D fuel b a w->wpAny P md ops Q fuel b a w
 |0,_,_,_,h=>h
 |fuel+1,_,_,_,h=>⟨h.1,λi e=>wpOp_mono (λc f d=>aL4 fuel _ c f d.2) (h.2 i e)⟩
theorem jQ.set{b:Array Bool}(i:Nat)(e:jQ k C D b w):jQ k C D (b.setIfInBounds i true) w:=by
 refine ⟨λc=>e.1 ?_,e.2⟩;by_cases d:i=k
 ·subst d;rcases Nat.lt_or_ge i b.size with h'|h'
  ·simp [h'] at c
  ·simp [h'] at c
 ·rwa [getD_set_ne true d] at c
theorem jQ.unset{b:Array Bool}(d:i≠k)(c:jQ k C D (b.setIfInBounds i true) w):jQ k C D b w:=
 ⟨λe=>c.1 (by rwa [getD_set_ne true d]),c.2⟩
def tM(md:Region.Mode)(ops:Array Oper)(k i:Nat):Bool:=match ops[k]? with
 |none=>false
 |some o=>o.after.any λb=>zy md b && b.on==i
theorem aZ4(c:tM md ops k i=true):∃d b,ops[k]?=some d/\b∈d.after/\zy md b=true/\b.on=i:=by
 unfold tM at c;split at c
 ·cases c
 ·rename_i d j;simp only [Array.any_eq_true',zw,beq_iff_eq] at c;obtain ⟨b,f,e,g⟩:=c;exact ⟨d,b,j,f,e,g⟩
theorem aL5{t:World->Prop}(G:ops[i]?=some oi)(a3:i≠k)(T:∀(b:Nat) (H:Oper) r q,ops[b]?=some H->H.op≠.select r q)
  (Y:∀I a w,Q (.panic I) (a.put oi.dst v) w->Q (.panic I) a w) (Z:(∀w,D w->t w)\/((∀w,C w->D w->t w)/\tM md ops k i=true)):∀(fuel:Nat) (c:Array Bool) (a:Act) (w:World),
   (∀b m,ops[b]?=some m->b≠i->c.getD b true=false->(∀d∈m.after,zy md d=true->d.on≠i)->oi.apart ops m=true)->
   i∈zz md ops c->YieldsIf P ops t oi v a->jQ k C D c w->(tM md ops k i=true->c.getD k true=false)->
   lL P md ops Q k C D fuel (c.setIfInBounds i true) (a.put oi.dst v) w->lL P md ops Q k C D (fuel+1) c a w:=by
 have M:∀(A:Array Bool) (w:World),jQ k C D A w->(tM md ops k i=true->A.getD k true=false)->t w:=λA w e y=>by
  rcases Z with g|⟨g,h'⟩
  ·exact g w e.2
  ·exact g w (e.1 (y h')) e.2
 intro fuel;induction fuel with
 |zero=>
  intro c a w _ l z e o p;refine ⟨λg=>(by rw [g] at l;cases l),λb u=>?_⟩;by_cases f:b=i
  ·subst f;exact z.wpOp G (M _ _ e o) ⟨e.set _,p⟩
  ·have:=ready_mono u f;rw [p.1] at this;cases this
 |succ fuel ih=>
  intro c a w N l z e o p;refine ⟨λg=>(by rw [g] at l;cases l),λb u=>?_⟩;by_cases f:b=i
  ·subst f;exact z.wpOp G (M _ _ e o) ⟨e.set _,p⟩
  ·have j:=p.2 b (ready_mono u f);obtain ⟨O,m,x,a0⟩:=mem_ready.1 u;have R:∀d∈m.after,zy md d=true->d.on≠i:=λd F E a1=>by
    have j:=a0 d F E;have J:=(mem_ready.1 l).1;rw [a1] at j;rcases Nat.lt_or_ge i c.size with h'|h'
    ·simp [h'] at J j;rw [J] at j;cases j
    ·simp [Array.getElem?_eq_none h'] at j
   have X:=wpOp_putIf x (N b m x f O R) (λr q=>T i oi r q G) (λr q=>T b m r q x) Y z j;have a2:∀k s,ops[k]?=some s->k≠i->(c.setIfInBounds b true).getD k true=false->
     (∀d∈s.after,zy md d=true->d.on≠i)->oi.apart ops s=true:=λk s o a5 U a6=>by
    refine N k s o a5 ?_ a6;by_cases n:b=k
    ·subst n;exact O
    ·rw [getD_set_ne true n] at U;exact U
   have a4:tM md ops k i=true->(c.setIfInBounds b true).getD k true=false:=λy=>by
    obtain ⟨H,d,S,F,E,a7⟩:=aZ4 y;have n:b≠k:=λn=>by
     subst n;rw [x] at S;cases S;exact R d F E a7
    rw [getD_set_ne true n];exact o y
   refine wpOp_mono (λW V B=>?_) X;have L:jQ k C D (c.setIfInBounds b true) V:=by have:=B.2.1;rw [zx _ _ (Ne.symm f)] at this;exact this.unset a3
   refine ⟨L,ih (c.setIfInBounds b true) W V a2 (ready_mono l (Ne.symm f)) B.1 L a4 ?_⟩;rw [zx _ _ f];exact B.2.2
theorem aDw{d:Option Tmp}{b:Array Bool}(g:ops[i]?=some oi)(o:oi.dst=d)(c:(tM md ops k i && (i != k) && !(b.getD k true))=true)
  (r:zs ops=true) (p:Region.free md ops b i=true) (q:(zz md ops b).contains i=true)
  (n:∀e a w,Q (.panic e) (a.put d v) w->Q (.panic e) a w) (s:YieldsIf P ops (λw=>C w/\D w) oi v a) (f:jQ k C D b w)
  (j:jQ k C D (b.setIfInBounds i true) w->lL P md ops Q k C D fuel (b.setIfInBounds i true) (a.put d v) w):lL P md ops Q k C D (fuel+1) b a w:=by
 subst o;simp only [zw,bne_iff_ne,ne_eq,zu] at c;exact aL5 g c.1.2 (zv r) n (Or.inr ⟨λw l m=>⟨l,m⟩,c.1.1⟩) fuel b a w (zt g p) (by simpa using q) s f (λ_=>c.2) (j (f.set _))
theorem rB{d:Option Tmp}{b:Array Bool}(j:ops[i]?=some oi)(m:oi.dst=d)(e:((i != k) && !(b.getD k true))=true)
  (p:zs ops=true) (n:Region.free md ops b i=true) (o:(zz md ops b).contains i=true)
  (l:∀f a w,Q (.panic f) (a.put d v) w->Q (.panic f) a w) (q:YieldsIf P ops D oi v a) (g:jQ k C D b w)
  (c:jQ k C D (b.setIfInBounds i true) w->lL P md ops Q k C D fuel (b.setIfInBounds i true) (a.put d v) w):lL P md ops Q k C D (fuel+1) b a w:=by
 subst m;simp only [zw,bne_iff_ne,ne_eq,zu] at e;exact aL5 j e.1 (zv p) l (Or.inl (λ_ c=>c)) fuel b a w (zt j n) (by simpa using o) q g (λ_=>e.2) (c (g.set _))
def mF(P:Program)(md:Region.Mode)(ops:Array Oper)(Q:Exit->Act->World->Prop)(k:Nat)(C D:World->Prop)(fuel:Nat)(b:Array Bool)(a:Act)(w:World)(rs:List Nat):Prop:=
 ∀i∈rs,wpOp P ops Q i (λd c=>jQ k C D (b.setIfInBounds i true) c/\lL P md ops Q k C D fuel (b.setIfInBounds i true) d c) a w
theorem mF.nil{c:Array Bool}:mF P md ops Q k C D fuel c a w []:=λ_ b=>by cases b
theorem mF.cons{fuel:Nat}{c:Array Bool}{a:Act}{w:World}{i:Nat}{o:Oper}{rs:List Nat}(g:ops[i]?=some o)
  (d:∀b:Act->World->Prop,Shut (∀a w,jQ k C D (c.setIfInBounds i true) w->lL P md ops Q k C D fuel (c.setIfInBounds i true) a w->b a w)->if Region.wanted o (yielded ops a.tmps)=true then Oper.wp P o a w b Q else b (a.put o.dst undef) w)
  (l:mF P md ops Q k C D fuel c a w rs):mF P md ops Q k C D fuel c a w (i::rs):=λj hj=>by
 rcases List.mem_cons.1 hj with rfl|hj
 ·exact wpOp_step g (λb hK=>d b (λa w e f=>hK a w ⟨e,f⟩))
 ·exact l j hj
theorem aDx{rs:List Nat}{b:Array Bool}(c:zz md ops b=rs)(f:rs≠[])
 (d:mF P md ops Q k C D fuel b a w rs):lL P md ops Q k C D (fuel+1) b a w:=⟨λe=>absurd (c▸e) f,c▸d⟩
theorem fP(i:Nat){fuel:Nat}{b:Array Bool}{a:Act}{w:World}{c:Oper}(g:zz md ops b=[i])(f:ops[i]?=some c)
 (e:∀d:Act->World->Prop,Shut (∀a w,jQ k C D (b.setIfInBounds i true) w->lL P md ops Q k C D fuel (b.setIfInBounds i true) a w->d a w)->if Region.wanted c (yielded ops a.tmps)=true then Oper.wp P c a w d Q else d (a.put c.dst undef) w):lL P md ops Q k C D (fuel+1) b a w:=aDx g (by simp) (mF.cons f e mF.nil)
theorem aDy{d:Array Bool}(c:zz md ops d=[])(b:Q .normal a w):∀fuel,lL P md ops Q k C D fuel d a w
 |0=>⟨c,b⟩
 |_+1=>⟨λ_=>b,by rw [c];simp⟩
theorem aZ5{f:Nat}(k:Nat)(C D:World->Prop)(e:P.follows .mixedOrders=true)(c:C w.drew)(d:D w.drew)
  (b:jQ k C D (zr ops.size false) w.drew->lL P .any ops Q k C D ops.size (zr ops.size false) a w.drew):(Code.region f ops true).wp P Q a w:=
 wp_region_any e (aL4 _ _ _ _ (b ⟨λ_=>c,d⟩))
end
