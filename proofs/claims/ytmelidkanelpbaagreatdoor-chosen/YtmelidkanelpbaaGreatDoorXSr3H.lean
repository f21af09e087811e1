import Derived.Test.YtmelidkanelpbaaGreatDoorXSr0H
import Derived.Test.YtmelidkanelpbaaGreatDoorXDelH
open Array renaming getElem?_eq_some_iff→zz,getElem?_eq_getElem→zy,getElem_modify_self→zx,size_modify→zw
namespace Go.Proofs.YtmelidkanelpbaaGreatDoor
set_option maxRecDepth 100000
open Go.RowKit Go.Shelf Go.WideMaps
attribute [local go_sem] Oper.semAt_some
def bI:List (aK×Int)->List Cd->Nat->Bool->List Cd->Nat->Bool->Prop
 |[],L,n,b,L',n',b'=>L'=L/\n'=n/\b'=b
 |x::r,L,n,b,L',n',b'=>
  if x.2≠0\/bL x.1.c=false then bI r L n true L' n' b'
  else if dP x.1.c=true then bI r L n b L' n' b'
  else ∃a c,bI r (iH L.length (L++[eD x.1 a c n]) L.length) (n+1) b L' n' b'
theorem bI.snoc{p:aK×Int}{i:List Cd}{o:Nat}{j:Bool}:∀(b:List (aK×Int)) {c e:List Cd} {n g:Nat} {d f:Bool},bI b c n d e g f->bI [p] e g f i o j->bI (b++[p]) c n d i o j
 |[],c,e,n,g,d,f,a,k=>by
  obtain ⟨rfl,rfl,rfl⟩:=a;exact k
 |y::b,c,e,n,g,d,f,a,k=>by
  show bI (y::(b++[p])) c n d i o j;unfold bI at a ⊢;split
  ·rename_i l;rw [aH l] at a;exact bI.snoc b a k
  ·rename_i l;rw [aI l] at a;split
   ·rename_i m;rw [aH m] at a;exact bI.snoc b a k
   ·rename_i m;rw [aI m] at a;obtain ⟨q,r,a⟩:=a;exact ⟨q,r,bI.snoc b a k⟩
theorem bI.len:∀(b:List (aK×Int)) {c d:List Cd} {e f:Nat} {g i:Bool},bI b c e g d f i->d.length<=c.length+b.length/\f<=e+b.length
 |[],c,d,e,f,g,i,a=>by
  obtain ⟨rfl,rfl,rfl⟩:=a;simp
 |y::b,c,d,e,f,g,i,a=>by
  unfold bI at a;split at a
  ·have:=bI.len b a;simp;omega
  ·split at a
   ·have:=bI.len b a;simp;omega
   ·obtain ⟨j,k,a⟩:=a;have:=bI.len b a;rw [aG7] at this;simp at this ⊢;omega
theorem bN.bigged{e:Nat}{c:World}{b j:Nat}{n p o:Value}{g:List Cd}{m:Nat}{i:List (aK×Value)}{l:List Nat}{r:Bool}(a:bN e c b j n p o g m i l r)(f:Bool):bN e (c.setCell ⟨b,4,none⟩ (.bool f)) b j n p o g m i l f/\Mv [76] e c (c.setCell ⟨b,4,none⟩ (.bool f)):=by have t:=(zz.1 a.box).1;have d:Mv [76] e c (c.setCell ⟨b,4,none⟩ (.bool f)):=Mv.of_grown (cN c ⟨b,4,none⟩ _) (λu s=>by cases s;exact ⟨a.base,_,_,a.box,by simp⟩);refine ⟨⟨?_,⟨d.cells a.heap.box (by decide),d.row a.heap.row (by decide),a.heap.base⟩,a.st.kept d.kps (by decide) (by decide) (by decide),d.row a.kp (by decide),λq k=>⟨d.clause (a.cl q k).1 (by decide) (by decide),(a.cl q k).2⟩,a.base⟩,d⟩;show (c.heap.modify b _)[b]?=_;rw [zy (by rw [zw];exact t),zx,(zz.1 a.box).2];rfl
theorem bN.rekept{d:Nat}{k b:World}{a o:Nat}{s u t i:Value}{l:List Cd}{r:Nat}{m:List (aK×Value)}{x q:List Nat}{n:Bool}(c:bN d k a o s u t l r m x n)(e:Mv [3] d k b)(j:dO d b i q):bN d (b.setCell ⟨a,3,none⟩ i) a o s u i l r m q n/\Mv [3,76] d k (b.setCell ⟨a,3,none⟩ i)/\b.cell? ⟨a,3,none⟩=some t/\b.frozen? ⟨a,3,none⟩=false:=by have g:=e.cells c.box (by decide);have w:=(zz.1 g).1;have f:Mv [76] d b (b.setCell ⟨a,3,none⟩ i):=Mv.of_grown (cN b ⟨a,3,none⟩ _) (λy j=>by cases j;exact ⟨c.base,_,_,g,by simp⟩);refine ⟨⟨?_,⟨f.cells (e.cells c.heap.box (by decide)) (by decide),f.row (e.row c.heap.row (by decide)) (by decide),c.heap.base⟩,(c.st.kept e.kps (by decide) (by decide) (by decide)).kept f.kps (by decide) (by decide) (by decide),f.row j (by decide),λv p=>⟨f.clause (e.clause (c.cl v p).1 (by decide) (by decide)) (by decide) (by decide),(c.cl v p).2⟩,c.base⟩,(e.mono (by decide) (Nat.le_refl _)).trans (f.mono (by decide) (Nat.le_refl _)),by simp [World.cell?,g],by simp [World.frozen?,g]⟩;show (b.heap.modify a _)[a]?=_;rw [zy (by rw [zw];exact w),zx,(zz.1 g).2];rfl
theorem bEc(g v w:Nat)(V x G:Value)(I:List Cd)(U:Nat)(c:List (aK×Value))(e:List Nat)(J:Bool)(n o:Nat)(b:aK)(s:Option Addr)(t:Nat)(f:World)(d:bN g f v w V x G I U c e J)(y:f.heap[n]?=some (.cells #[.int .i64 b.r,.int .i64 b.a,.int .i64 b.b,.int .i64 b.i,.int .i64 b.j,.slice s b.c.length t] 53 (0,0)))(H:Boxed f o 47 (.pointer (some ⟨v,0,none⟩)))(A:bR g f (.slice s b.c.length t) b.c)(B:∀a∈e,kH b.c (aE c a))(C:∀a∈e,a<c.length)(D:e.length<=1000000):Calls Tryz.prog 49 #[G,.func (.func 50) #[] #[.pointer (some ⟨n,0,none⟩),.pointer (some ⟨o,0,none⟩)]] f λk r=>∃q F m,k=.returned (.slice q F m)/\dO g r (.slice q F m) (e.filter λa=>!bC b.c (aE c a))/\Mv [3] g f r:=by
 obtain ⟨q,m,rfl⟩:=d.kp.shape;obtain ⟨_,_,L,_,_⟩:=d.cells;cases hany:e.any (λa=>bC b.c (aE c a))
 ·have N:(e.filter λa=>!bC b.c (aE c a))=e:=by
   rw [List.filter_eq_self];intro a i;cases w:bC b.c (aE c a)
   ·rfl
   ·rw [List.any_eq_true.2 ⟨a,i,w⟩] at hany;cases hany
  refine (bD9 g n o (λa=>bC b.c (aE c a)) q m e f d.kp D (λa i l j=>aOv g v x c n o a b s t l (aC j L) (d.st.kept (S:=[]) (bW j) (by simp) (by simp) (by simp)) ((j.block _ (zz.1 y).1).trans y) ((bW (S:=bU) j).boxed H (by decide)) (A.below j) (B a i) (C a i)) hany).mono ?_;rintro k r ⟨rfl,u⟩;exact ⟨q,_,m,rfl,by rw [N];exact bG d.kp u (Nat.le_refl _),Mv.of_below u⟩
 ·obtain ⟨Z,R,_⟩:=List.any_eq_true.1 hany;obtain ⟨Y,Q,_⟩:=List.getElem_of_mem R;obtain ⟨z,rfl,_⟩:=d.kp.cell Q;have E:∀l,f.grownBy l (some z)->Mv [3] g f l:=λl j=>Mv.of_grown j (λa i=>by
   cases i;obtain ⟨_,⟨k,_⟩|⟨X,W,M,k,u,P,_⟩⟩:=d.kp
   ·cases k
   ·simp at k;obtain ⟨rfl,_⟩:=k;exact ⟨u,M,_,P,by simp⟩)
  refine (bDa g n o (λa=>bC b.c (aE c a)) z m e f d.kp D (λa i l j=>?_) hany).mono ?_
  ·have p:=E l j;exact aOv g v x c n o a b s t l (by have:=p.cells d.box (by decide);simp [World.cell?,this]) (d.st.kept p.kps (by decide) (by decide) (by decide)) (p.cells y (by decide)) (p.boxed H (by decide)) (p.clause A (by decide) (by decide)) (B a i) (C a i)
  ·rintro k r ⟨rfl,T,O⟩;exact ⟨_,_,m,rfl,T,E r O⟩
