import Derived.Sort.QuietIn
open Array renaming getElem_setIfInBounds→zw,getElem?_eq_some_iff→zv,replicate→zs
open Bool renaming and_eq_true→zu
open List renaming replicate→zz,getElem?_toArray→zy,getElem?_eq_getElem→zt,all_eq_true→zq,range→zm
namespace Go.Proofs.YtbpiopdphigodaaGreatDoor
open Region renaming ready→zx,binds→zr,wanted→zp,lexB→zn
open Go.RowKit
variable{w:World}
section
variable {F:Fence}{n:Nat}{P:Program}{md:Region.Mode}{Q:Exit->Act->World->Prop}{l1 l2:List Oper}{C:World->Prop}{Q1:Act->Prop}
def wY(md:Region.Mode)(b:List Oper):Nat->Nat->Nat->Bool
 |0,_,_=>false
 |f+1,j,i=>match b[j]? with
  |none=>false
  |some o=>o.after.any λa=>zr md a && (a.on==i || wY md b f a.on i)
def sD(md:Region.Mode)(l1 l2:List Oper):Bool:=
 ((zm l1.length).all λb=>match l1[b]? with
  |none=>true
  |some o=>(o.after.all λa=>!zr md a || decide (a.on<b)) && (match o.guard with|none=>true|some g=>decide (g.1<l1.length))) &&
 ((zm l2.length).all λd=>(zm l1.length).all λc=>wY md (l1++l2) (l1.length+l2.length) (l1.length+d) c)
theorem aDg(f:sD md l1 l2=true){d:Nat}{e:Oper}(g:l1[d]?=some e):(∀b∈e.after,zr md b=true->b.on<d)/\∀c,e.guard=some c->c.1<l1.length:=by
 have l:=(List.getElem?_eq_some_iff.1 g).1;simp only [sD,zu,zq,List.mem_range] at f;have:=f.1 d l;rw [g] at this;simp only [zu] at this;refine ⟨λb j i=>?_,λc k=>?_⟩
 ·have a:=this.1;rw [Array.all_eq_true_iff_forall_mem] at a;have:=a b j;simpa [i] using this
 ·have a:=this.2;rw [k] at a;simpa using a
theorem aY0(c:sD md l1 l2=true){a b:Nat}(e:l1.length<=a)(f:a<l1.length+l2.length)(d:b<l1.length):wY md (l1++l2) (l1.length+l2.length) a b=true:=by simp only [sD,zu,zq,List.mem_range] at c;have:=c.2 (a-l1.length) (by omega) b d;rwa [show l1.length+(a-l1.length)=a by omega] at this
def aK4(md:Region.Mode)(e:List Oper)(a:Array Bool):Prop:=∀c d,e[c]?=some d->a.getD c false=true->∀b∈d.after,zr md b=true->a.getD b.on false=true
theorem aK5{e:List Oper}{g:Array Bool}(i:aK4 md e g):∀(f c b:Nat),wY md e f c b=true->(∀d,e[c]?=some d->∀a∈d.after,zr md a=true->g.getD a.on false=true)->g.getD b false=true
 |0,_,_,h,_=>by cases h
 |f+1,c,b,h,hd=>by
  unfold wY at h;cases ho:e[c]? with
  |none=>rw [ho] at h;cases h
  |some d=>
   rw [ho] at h;simp only [Array.any_eq_true',zu,Bool.or_eq_true,beq_iff_eq] at h;obtain ⟨a,l,k,hr⟩:=h;have j:=hd d ho a l k;rcases hr with rfl|hr
   ·exact j
   ·exact aK5 i f a.on b hr (λo m=>i a.on o m j)
structure qW(md:Region.Mode)(l1 l2:List Oper)(L' L:Array Bool):Prop where
 s1:L'.size=l1.length
 s2:L.size=l1.length+l2.length
 same:∀j (h1:j<L'.size) (h2:j<L.size),L[j]=L'[j]
 rest:∀j (h:j<L.size),l1.length<=j->L[j]=false
 closed:aK4 md (l1++l2) L
theorem uU{a:Array Bool}{b:Nat}(d:b<a.size)(c:Bool):a.getD b c=a[b]:=by simp [d]
theorem qW.get{d c:Array Bool}(b:qW md l1 l2 d c){a:Nat}(f:a<l1.length)(e:Bool):c.getD a e=d.getD a e:=by rw [uU (by rw [b.s2];omega),uU (by rw [b.s1];omega)];exact b.same a _ _
theorem aDh{a:Nat}(b:a<l1.length):(l1++l2)[a]?=l1[a]?:=List.getElem?_append_left b
theorem aK6{e:Array Oper}:∀(f:Nat) (c:Array Bool) (a:Act) (w:World),wpAnyIn F n P md e Q f c a w->wpAnyIn F n P md e Q (f+1) c a w
 |0,_,_,_,h=>⟨λ_=>h.2,λd b=>by rw [h.1] at b;cases b⟩
 |f+1,_,_,_,h=>⟨h.1,λd b=>wpOpIn_mono (λa w g=>aK6 f _ a w g) (h.2 d b)⟩
theorem aK7{e:Array Oper}{c:Nat}{a:Array Bool}{b:Act}{w:World}(d:wpAnyIn F n P md e Q c a b w):∀k,wpAnyIn F n P md e Q (k+c) a b w
 |0=>by rw [Nat.zero_add];exact d
 |k+1=>by rw [Nat.add_right_comm];exact aK6 _ _ _ _ (aK7 d k)
theorem aY1(c:sD md l1 l2=true){i:Nat}{a:Oper}(f:l1[i]?=some a)(b:Array Value):zp a (yielded (l1++l2).toArray b)=zp a (yielded l1.toArray b):=by
 have d:=(aDg c f).2;unfold zp;cases hq:a.guard with
 |none=>rfl
 |some g=>
  obtain ⟨j,k⟩:=g;have e:j<l1.length:=d _ hq;simp only [yielded,zy,aDh (l2:=l2) e]
theorem qW.set{e a:Array Bool}(b:qW md l1 l2 e a){d:Nat}(y:d<l1.length)(v:d∈zx md (l1++l2).toArray a):qW md l1 l2 (e.setIfInBounds d true) (a.setIfInBounds d true):=by
 refine ⟨by simpa using b.s1,by simpa using b.s2,λj k l=>?_,λj c u=>?_,λj x p c g o m=>?_⟩
 ·have q:j<e.size:=by simpa using k
  have r:j<a.size:=by simpa using l
  rw [zw (by simpa using l),zw (by simpa using k)];split
  ·rfl
  ·exact b.same j q r
 ·have t:j<a.size:=by simpa using c
  rw [zw (by simpa using c),if_neg (by omega)];exact b.rest j t u
 ·refine getD_set_true ?_;by_cases i:d=j
  ·subst i;obtain ⟨_,z,f,s⟩:=mem_ready.1 v;simp only [zy] at f;rw [p] at f;cases f;exact s g o m
  ·rw [getD_set_ne false i] at c;exact b.closed j x p c g o m
theorem aY2{c:Oper}{b:Act}{K:Act->Prop}{j:Act->World->Prop}{k:Exit->Act->World->Prop}(t:c.semAt F.round b.eval=execOp b.eval c)(e:C w)(g:∀b d,C d->K b->j b d)
  (m:c.askedIn F P b C) (s:c.quietIn F n P b C K):c.wpIn F n P b w j k:=by
 obtain ⟨y,l,i⟩:=s;have a:=l w e;unfold Oper.quietAtIn at a;refine ⟨m w e,?_⟩;rw [t];revert a;generalize (execOp b.eval c).run P w=r;intro a;match r,a with
 | .ok (.value u) d,a=>
  obtain ⟨rfl,rfl⟩:=a;exact g _ _ e i
 | .ok .skip d,a=>
  obtain ⟨rfl,rfl⟩:=a;exact g _ _ e i
 | .ok (.enter f args) d,a=>
  obtain ⟨rfl,p,o⟩:=a;exact ⟨p,o.mono λx z q=>by
   obtain ⟨rfl,v⟩:=q;exact g _ _ v i⟩
theorem aY3(X:∀r∈l1,∀M,r.semAt F.round M=execOp M r)(t:sD md l1 l2=true)
  (E:∀g w,C w->Q1 g->wpAnyIn F n P md (l1++l2).toArray Q l2.length ((zz l1.length true++zz l2.length false).toArray) g w):∀(p:Nat) (a c:Array Bool) (g:Act) (w:World),qW md l1 l2 a c->C w->wpAnyQIn F n P md l1.toArray C Q1 p a g->wpAnyIn F n P md (l1++l2).toArray Q (p+l2.length) c g w:=by
 have S:∀(a c:Array Bool),qW md l1 l2 a c->zx md l1.toArray a=[]->∀d,d<l1.length->a.getD d true=true:=by
  intro a c b i d;induction d using Nat.strongRecOn with
  |_ d ih=>
   intro o;cases hx:a.getD d true with
   |true=>rfl
   |false=>
    have:d∈zx md l1.toArray a:=by refine mem_ready.2 ⟨hx,l1[d],by simp [o],λs v u=>?_⟩;have W:=(aDg t (zt o)).1 s v u;have:=ih s.on W (by omega);rw [uU (by rw [b.s1];omega)] at this ⊢;exact this
    rw [i] at this;cases this
 have I:∀(a c:Array Bool),qW md l1 l2 a c->zx md l1.toArray a=[]->c=(zz l1.length true++zz l2.length false).toArray:=by
  intro a c b i;refine Array.ext (by simp [b.s2]) (λd D _=>?_);by_cases o:d<l1.length
  ·have:=S a c b i d o;rw [uU (by rw [b.s1];omega)] at this;rw [b.same d (by rw [b.s1];omega) D,this];simp [o]
  ·rw [b.rest d D (by omega)];simp [List.getElem_append,o]
 have L:∀(a c:Array Bool),qW md l1 l2 a c->∀f,f<l1.length->(f∈zx md (l1++l2).toArray c↔f∈zx md l1.toArray a):=by intro a c b f l;rw [mem_ready,mem_ready,b.get l true];simp only [zy,aDh (l2:=l2) l];refine and_congr Iff.rfl (exists_congr λr=>and_congr_right λj=>forall_congr' λs=>forall_congr' λv=>forall_congr' λu=>?_);rw [b.get (by have:=(aDg t j).1 s v u;omega) false]
 intro p;induction p with
 |zero=>
  intro a c g w b k q;rw [Nat.zero_add,I a c b q.1];exact E g w k q.2
 |succ p ih=>
  intro a c g w b k q;by_cases i:zx md l1.toArray a=[]
  ·rw [I a c b i];exact aK7 (E g w k (q.1 i)) _
  ·obtain ⟨B,x⟩:=List.exists_mem_of_ne_nil _ i;have y:B<l1.length:=by
    obtain ⟨_,r,j,_⟩:=mem_ready.1 x;simpa using (zv.1 j).1
   rw [Nat.add_right_comm];refine ⟨λO=>?_,λf l=>?_⟩
   ·have:=(L a c b B y).2 x;rw [O] at this;cases this
   ·by_cases m:f<l1.length
    ·have U:=(L a c b f m).1 l;have e:=q.2 f U;have G:=b.set m l;unfold qOpIn at e;unfold wpOpIn;simp only [zy,aDh (l2:=l2) m] at e ⊢;rw [zt m] at e ⊢;simp only at e ⊢;rw [aY1 t (zt m)];obtain ⟨H,e⟩:=e;split
     ·rename_i A;simp only [A,if_true] at e;exact aY2 (X _ (List.getElem_mem m) _) k (λN Y R hK=>ih _ _ N Y G R hK) H e
     ·rename_i A;simp only [A] at e;exact ⟨H w k,ih _ _ _ w G k e⟩
    ·exfalso;obtain ⟨_,r,j,T⟩:=mem_ready.1 l;have V:f<l1.length+l2.length:=by simpa using (zv.1 j).1
     have:=aK5 b.closed _ f B (aY0 t (by omega) V y) (λZ J=>by
      simp only [zy] at j;rw [j] at J;cases J;exact T)
     rw [b.get y false] at this;have z:=(mem_ready.1 x).1;rw [uU (by rw [b.s1];omega)] at this z;rw [this] at z;cases z
theorem aY4(a b:Nat):(zs a false).getD b false=false:=by unfold Array.getD;split<;>simp
theorem aDi{s:Nat}{b:Act}{g:Array Oper}(l1 l2:List Oper)(p:g=(l1++l2).toArray)(r:∀d∈l1,∀i,d.semAt F.round i=execOp i d)(o:P.follows .mixedOrders=true)(m:sD .any l1 l2=true)(c:zn .any l1.toArray=true)
  (j:wpQuietIn F n P l1.toArray (λa=>∃n,a=w.drewN n) (λe=>∀a,(∃n,a=w.drewN n)->wpAnyIn F n P .any (l1++l2).toArray Q l2.length ((zz l1.length true++zz l2.length false).toArray) e a) l1 b):(Code.region s g true).wpIn F n P Q b w:=by
 subst p;refine wpIn_region_any o ?_;simp only [zn,zu] at c;have q:=wpAnyQIn_lex (F:=F) (n:=n) (P:=P) (C:=λa=>∃n,a=w.drewN n) (md:=.any) c.1 l1 0 (zs l1.toArray.size false) b (by simp) (by simpa using c.2) j;have:=aY3 (l2:=l2) r m (λe a k l=>l a k) l1.length (zs l1.toArray.size false) (zs (l1++l2).toArray.size false) b (w.drewN 1) ⟨by simp,by simp,by simp,by simp,λt d _ f=>by rw [aY4] at f;cases f⟩ ⟨1,rfl⟩ q;simp only [List.size_toArray,List.length_append] at this ⊢;exact this
theorem aK8(c:F.round=none):∀a∈l1,∀b,a.semAt F.round b=execOp b a:=λa _ b=>by rw [c,Oper.semAt_none]
def aK9(a:List Oper):Bool:=a.all λb=>match b.op with | .defer _=>false|_=>true
theorem aY5(c:aK9 l1=true):∀a∈l1,∀b,a.semAt F.round b=execOp b a:=λa e b=>Oper.semAt_eq _ _ _ (λf d=>by
 have:=zq.1 c a e;rw [d] at this;cases this)
theorem wZ{t:Nat}{b:Act}{k:Array Oper}(l1:List Oper)(i:k=l1.toArray)(s:aK9 l1=true)(q:P.follows .mixedOrders=true)(m:sD .any l1 []=true)(l:zn .any l1.toArray=true)
  (c:wpQuietIn F n P l1.toArray (λa=>∃n,a=w.drewN n) (λd=>∀a,(∃n,a=w.drewN n)->Q .normal d a) l1 b):(Code.region t k true).wpIn F n P Q b w:=by
 refine aDi l1 [] (by rw [i,List.append_nil]) (aY5 s) q m l ?_;have r:zx .any (l1++[]).toArray ((zz l1.length true++zz ([]:List Oper).length false).toArray)=[]:=by
  refine List.eq_nil_iff_forall_not_mem.2 (λu o=>?_);obtain ⟨j,x,i,_⟩:=mem_ready.1 o;have p:u<l1.length:=by simpa using (zv.1 i).1
  rw [uU (by simpa using p)] at j;simp at j
 have v:∀(f:List Oper) (b:Act),wpQuietIn F n P l1.toArray (λa=>∃n,a=w.drewN n) (λd=>∀a,(∃n,a=w.drewN n)->Q .normal d a) f b->wpQuietIn F n P l1.toArray (λa=>∃n,a=w.drewN n) (λd=>∀a,(∃n,a=w.drewN n)->wpAnyIn F n P .any (l1++[]).toArray Q ([]:List Oper).length ((zz l1.length true++zz ([]:List Oper).length false).toArray) d a) f b:=by
  intro f;induction f with
  |nil=>exact λb c a e=>wpAnyIn_done r (c a e) _
  |cons x f ih=>
   intro b c;refine ⟨c.1,?_⟩;have g:=c.2;split at g
   ·rename_i e;rw [if_pos e];exact Oper.quietIn_mono ih g
   ·rename_i e;rw [if_neg e];exact ih _ g
 exact v l1 b c
end
