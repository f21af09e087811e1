import Derived.Test.YtmelidkanelpbaaGreatDoorUAppT
open Array renaming getElem?_eq_some_iff→zz
namespace Go.Proofs.YtmelidkanelpbaaGreatDoor
open _root_.Go.Proofs.Tryz renaming prog→zy
open Go.RowKit Go.Shelf Go.WideMaps
set_option maxHeartbeats 4000000
set_option maxRecDepth 100000
variable{w:World}
theorem bAt{a:Nat}(b:w.heap[a]?=some (.map #[] 0)):w.ownsMap zy 185 fU a 0 (.map []):=by
 have e:=(zz.1 b).1;have c:(World.alloc {w with heap:=w.heap.extract 0 a} (.map #[] 0)).ownsMap zy 185 fU ({w with heap:=w.heap.extract 0 a}:World).heap.size 0 (.map []):=World.ownsMap_made _ _ _ _;have d:({w with heap:=w.heap.extract 0 a}:World).heap.size=a:=by simp;omega
 rw [d] at c;refine aFc c ?_;rw [b];have:=heap_alloc_new ({w with heap:=w.heap.extract 0 a}:World) (.map #[] 0);rw [d] at this;exact this.symm
theorem aBk{e:World}{d a b g:Nat}{c:Array Value}{f:TypeId}(j:d<=a)(i:e.heap[a]?=some (.cells c f))(k:c.size=b*g)(l:b<=1000000):e.ownsRow d f g (.slice (some ⟨a,0,none⟩) 0 b) 0 []:=
 ⟨by simp,Or.inr ⟨a,b,c,rfl,j,i,Nat.zero_le _,by unfold maxLen;omega,k,by simp⟩⟩
structure aFe(w:World)(tb mp:Nat)(vn ve vl vs:Value)(w':World):Prop where
 tm:cK w' w.heap.size tb vn ve vl vs (.map (some mp)) [] [] [] []
 first:gG w' mp []
 low:aB w w'
 ne:mp≠tb
 mlow:w.heap.size<=mp
theorem bAu{b:World}{a j c d e f tb:Nat}{l g:Array Value}(i:a<=1000000)(A:l.size=a*2)(k:g.size=a*1)(y:aB w b)(t:b.heap[j]?=some (.cells l 117))(u:b.heap[c]?=some (.cells g 3))(v:b.heap[d]?=some (.cells g 3))(x:b.heap[e]?=some (.cells g 3))(z:b.heap[f]?=some (.map #[] 0))
  (B:b.heap[tb]?=some (.cells #[.slice (some ⟨j,0,none⟩) 0 a,.slice (some ⟨c,0,none⟩) 0 a,.slice (some ⟨d,0,none⟩) 0 a,.slice (some ⟨e,0,none⟩) 0 a,.map (some f)] 165))
  (C:w.heap.size<=j/\w.heap.size<=c/\w.heap.size<=d/\w.heap.size<=e/\w.heap.size<=f/\w.heap.size<=tb) (D:c≠d/\c≠e/\d≠e/\f≠tb):aFe w tb f (.slice (some ⟨j,0,none⟩) 0 a) (.slice (some ⟨c,0,none⟩) 0 a) (.slice (some ⟨d,0,none⟩) 0 a) (.slice (some ⟨e,0,none⟩) 0 a) b:=by
 obtain ⟨m,n,o,p,q,r⟩:=C;obtain ⟨E,F,G,s⟩:=D;refine ⟨⟨B,r,aBk m t A i,aBk n u k i,aBk o v k i,aBk p x k i,?_,?_,?_,?_,?_,?_⟩,⟨0,.map [],bAt z,oA.start,Nat.le_refl _⟩,y,s,q⟩;all_goals simp [Value.ownBlock]
 all_goals assumption
abbrev Ob:=Option Nat
def vS(a:Nat):Ob->Value
 |some k=>.slice (some ⟨k,0,none⟩) 0 a
 |none=>undef
def vM:Ob->Value
 |some k=>.map (some k)
 |none=>undef
def aMl(a b c d e:Ob):Array Bool:=#[true,a.isSome,true,b.isSome,true,c.isSome,true,d.isSome,e.isSome,false,false,false]
def oU(a:Nat)(b c d e f:Ob):Act:={tmps:=#[.int .i64 a,undef,.pointer none,.int .i64 a,vS a b,.int .i64 a,vS a c,.int .i64 a,vS a d,.int .i64 a,vS a e,vM f,undef,undef],defers:=[]}
def rT(a b c d e:Bool):List Nat:=(if a then [] else [1])++(if b then [] else [3])++(if c then [] else [5])++(if d then [] else [7])++(if e then [] else [8])
def qU(a b c d e:Ob):List Nat:=rT a.isSome b.isSome c.isSome d.isSome e.isSome
structure fX(w:World)(c1 c2:Array Value)(o1 o2 o3 o4 o5:Ob)(W:World):Prop where
 low:aB w W
 h1:∀k,o1=some k->w.heap.size<=k/\W.heap[k]?=some (.cells c1 117)
 h2:∀k,o2=some k->w.heap.size<=k/\W.heap[k]?=some (.cells c2 3)
 h3:∀k,o3=some k->w.heap.size<=k/\W.heap[k]?=some (.cells c2 3)
 h4:∀k,o4=some k->w.heap.size<=k/\W.heap[k]?=some (.cells c2 3)
 h5:∀k,o5=some k->w.heap.size<=k/\W.heap[k]?=some (.map #[] 0)
 n23:∀k,o2=some k->o3≠some k
 n24:∀k,o2=some k->o4≠some k
 n34:∀k,o3=some k->o4≠some k
section
variable {w W:World}{c1 c2:Array Value}{o1 o2 o3 o4 o5:Ob}
theorem fX.start(b:aB w W):fX w c1 c2 none none none none none W:=⟨b,(λ_ a=>nomatch a),(λ_ a=>nomatch a),(λ_ a=>nomatch a),(λ_ a=>nomatch a),(λ_ a=>nomatch a),(λ_ a=>nomatch a),(λ_ a=>nomatch a),(λ_ a=>nomatch a)⟩
theorem fX.lt(b:fX w c1 c2 o1 o2 o3 o4 o5 W):(o1≠some W.heap.size/\o2≠some W.heap.size)/\o3≠some W.heap.size/\o4≠some W.heap.size/\o5≠some W.heap.size:=by
 refine ⟨⟨λa=>?_,λa=>?_⟩,λa=>?_,λa=>?_,λa=>?_⟩
 ·have:=(zz.1 (b.h1 _ a).2).1;omega
 ·have:=(zz.1 (b.h2 _ a).2).1;omega
 ·have:=(zz.1 (b.h3 _ a).2).1;omega
 ·have:=(zz.1 (b.h4 _ a).2).1;omega
 ·have:=(zz.1 (b.h5 _ a).2).1;omega
theorem zB{c d:Obj}{b:Nat}(a:W.heap[b]?=some c):(W.alloc d).heap[b]?=some c:=by rw [heap_alloc_old W d (zz.1 a).1,a]
theorem fX.alloc(a:fX w c1 c2 o1 o2 o3 o4 o5 W)(x:Obj):fX w c1 c2 o1 o2 o3 o4 o5 (W.alloc x):=
 ⟨a.low.alloc a.low.size x,λk b=>⟨(a.h1 k b).1,zB (a.h1 k b).2⟩,λk b=>⟨(a.h2 k b).1,zB (a.h2 k b).2⟩,λk b=>⟨(a.h3 k b).1,zB (a.h3 k b).2⟩,λk b=>⟨(a.h4 k b).1,zB (a.h4 k b).2⟩,λk b=>⟨(a.h5 k b).1,zB (a.h5 k b).2⟩,a.n23,a.n24,a.n34⟩
theorem fX.s1(c:fX w c1 c2 o1 o2 o3 o4 o5 W):fX w c1 c2 (some W.heap.size) o2 o3 o4 o5 (W.alloc (.cells c1 117)):=by have a:=c.alloc (.cells c1 117);exact ⟨a.low,λd b=>by simp at b;subst b;exact ⟨c.low.size,heap_alloc_new _ _⟩,a.h2,a.h3,a.h4,a.h5,a.n23,a.n24,a.n34⟩
theorem fX.s2(c:fX w c1 c2 o1 o2 o3 o4 o5 W):fX w c1 c2 o1 (some W.heap.size) o3 o4 o5 (W.alloc (.cells c2 3)):=by have b:=c.alloc (.cells c2 3);exact ⟨b.low,b.h1,λd a=>by simp at a;subst a;exact ⟨c.low.size,heap_alloc_new _ _⟩,b.h3,b.h4,b.h5,λd a=>by simp at a;subst a;exact c.lt.2.1,λd a=>by simp at a;subst a;exact c.lt.2.2.1,b.n34⟩
theorem fX.s3(c:fX w c1 c2 o1 o2 o3 o4 o5 W):fX w c1 c2 o1 o2 (some W.heap.size) o4 o5 (W.alloc (.cells c2 3)):=by have b:=c.alloc (.cells c2 3);exact ⟨b.low,b.h1,b.h2,λe a=>by simp at a;subst a;exact ⟨c.low.size,heap_alloc_new _ _⟩,b.h4,b.h5,λe a d=>by simp at d;subst d;exact c.lt.1.2 a,b.n24,λe a=>by simp at a;subst a;exact c.lt.2.2.1⟩
theorem fX.s4(d:fX w c1 c2 o1 o2 o3 o4 o5 W):fX w c1 c2 o1 o2 o3 (some W.heap.size) o5 (W.alloc (.cells c2 3)):=by have b:=d.alloc (.cells c2 3);exact ⟨b.low,b.h1,b.h2,b.h3,λe a=>by simp at a;subst a;exact ⟨d.low.size,heap_alloc_new _ _⟩,b.h5,b.n23,λe a c=>by simp at c;subst c;exact d.lt.1.2 a,λe a c=>by simp at c;subst c;exact d.lt.2.1 a⟩
theorem fX.s5(c:fX w c1 c2 o1 o2 o3 o4 o5 W):fX w c1 c2 o1 o2 o3 o4 (some W.heap.size) (W.alloc (.map #[] 0)):=by have a:=c.alloc (.map #[] 0);exact ⟨a.low,a.h1,a.h2,a.h3,a.h4,λd b=>by simp at b;subst b;exact ⟨c.low.size,heap_alloc_new _ _⟩,a.n23,a.n24,a.n34⟩
end
def uQ(a b c d e:Ob):Nat:=(qU a b c d e).length
theorem bAv{n:Nat}{c1 c2:Array Value}{g:Array Oper}{D:Exit->Act->World->Prop}{m o p q r:Oper}
  (U:g[1]?=some m) (V:g[3]?=some o) (W:g[5]?=some p) (X:g[7]?=some q) (Y:g[8]?=some r)
  (Z:m.guard=none/\o.guard=none/\p.guard=none/\q.guard=none/\r.guard=none) (N:m.dst=some 4/\o.dst=some 6/\p.dst=some 8/\q.dst=some 10/\r.dst=some 11)
  (H:∀(b c d e f:Ob) (a:World),(execOp (oU n b c d e f).eval m).run zy a=.ok (.value (.slice (some ⟨a.heap.size,0,none⟩) 0 n)) (a.alloc (.cells c1 117)))
  (I:∀(b c d e f:Ob) (a:World),(execOp (oU n b c d e f).eval o).run zy a=.ok (.value (.slice (some ⟨a.heap.size,0,none⟩) 0 n)) (a.alloc (.cells c2 3)))
  (J:∀(b c d e f:Ob) (a:World),(execOp (oU n b c d e f).eval p).run zy a=.ok (.value (.slice (some ⟨a.heap.size,0,none⟩) 0 n)) (a.alloc (.cells c2 3)))
  (L:∀(b c d e f:Ob) (a:World),(execOp (oU n b c d e f).eval q).run zy a=.ok (.value (.slice (some ⟨a.heap.size,0,none⟩) 0 n)) (a.alloc (.cells c2 3)))
  (M:∀(b c d e f:Ob) (a:World),(execOp (oU n b c d e f).eval r).run zy a=.ok (.value (.map (some a.heap.size))) (a.alloc (.map #[] 0)))
  (G:∀(s t u v x:Bool),(s && t && u && v && x)=false->Region.ready .any g #[true,s,true,t,true,u,true,v,x,false,false,false]=rT s t u v x)
  (E:∀(y z A B C:Nat) (a:World),fX w c1 c2 (some y) (some z) (some A) (some B) (some C) a->wpAny zy .any g D 3 (aMl (some y) (some z) (some A) (some B) (some C)) (oU n (some y) (some z) (some A) (some B) (some C)) a):∀(j:Nat) (b c d e f:Ob) (a:World),uQ b c d e f=j->fX w c1 c2 b c d e f a->wpAny zy .any g D (j+3) (aMl b c d e f) (oU n b c d e f) a:=by
 obtain ⟨a0,a1,a2,a3,a4⟩:=Z;obtain ⟨O,P,Q,R,S⟩:=N;intro j;induction j with
 |zero=>
  intro b c d e f a k i;have a5:=List.eq_nil_of_length_eq_zero k;cases b<;>cases c<;>cases d<;>cases e<;>cases f<;>first|(simp [qU,rT] at a5;done)|exact E _ _ _ _ _ _ i
 |succ j ih=>
  intro b c d e f a k i;have F:qU b c d e f≠[]:=λT=>by unfold uQ at k;rw [T] at k;simp at k
  rw [show j+1+3=(j+3)+1 by omega];refine wpAny_all (rs:=qU b c d e f) (G _ _ _ _ _ (by cases b<;>cases c<;>cases d<;>cases e<;>cases f<;>first|rfl|exact absurd rfl F)) F λl a6=>?_
  have a7:(l=1/\b=none)\/(l=3/\c=none)\/(l=5/\d=none)\/(l=7/\e=none)\/(l=8/\f=none):=by clear G E ih H I J L M;cases b<;>cases c<;>cases d<;>cases e<;>cases f<;>simp [qU,rT] at a6 ⊢<;>omega
  rcases a7 with ⟨rfl,rfl⟩|⟨rfl,rfl⟩|⟨rfl,rfl⟩|⟨rfl,rfl⟩|⟨rfl,rfl⟩
  ·refine vV U a0 (H _ _ _ _ _ a) ?_;rw [O];exact ih (some a.heap.size) c d e f _ (by unfold uQ qU rT at *;simp at *;omega) i.s1
  ·refine vV V a1 (I _ _ _ _ _ a) ?_;rw [P];exact ih b (some a.heap.size) d e f _ (by unfold uQ qU rT at *;simp at *;omega) i.s2
  ·refine vV W a2 (J _ _ _ _ _ a) ?_;rw [Q];exact ih b c (some a.heap.size) e f _ (by unfold uQ qU rT at *;simp at *;omega) i.s3
  ·refine vV X a3 (L _ _ _ _ _ a) ?_;rw [R];exact ih b c d (some a.heap.size) f _ (by unfold uQ qU rT at *;simp at *;omega) i.s4
  ·refine vV Y a4 (M _ _ _ _ _ a) ?_;rw [S];exact ih b c d e (some a.heap.size) _ (by unfold uQ qU rT at *;simp at *;omega) i.s5
theorem aMm(a:Nat)(V:a<=1000000)(w:World):Calls zy 103 #[.int .i64 a] w λe a2=>∃H X a0 Y Z a1,e=.returned (.pointer (some ⟨H,0,none⟩))/\aFe w H X a0 Y Z a1 a2:=by
 obtain ⟨G,z,A,B,C⟩:=info_parts sF;obtain ⟨F,b,u,x,y⟩:=info_parts tM;have U:=@run_makeMap zy;obtain ⟨m,D,T⟩ : ∃m:Array Value,m.size=a*2/\∀w:World,(Instr.makeSlice 84 (.int .i64 0) (.int .i64 a)).run zy w=.ok (.slice (some ⟨w.heap.size,0,none⟩) 0 a) (w.alloc (.cells m 117)):=
  ⟨madeCells (Value.agg #[.string ⟨#[]⟩,.int .i64 0]).cells (a*G.size),by rw [size_madeCells,B],λw=>by
   have:=run_make (P:=zy) w 84 117 G _ Tryz.underlying84 z A .i64 .i64 0 a (Int.le_refl _) (by omega) (by rw [C];omega) (by omega);simpa using this⟩
 obtain ⟨n,E,t⟩ : ∃n:Array Value,n.size=a*1/\∀w:World,(Instr.makeSlice 28 (.int .i64 0) (.int .i64 a)).run zy w=.ok (.slice (some ⟨w.heap.size,0,none⟩) 0 a) (w.alloc (.cells n 3)):=
  ⟨madeCells (Value.int .i64 0).cells (a*F.size),by rw [size_madeCells,x],λw=>by
   have:=run_make (P:=zy) w 28 3 F _ Tryz.underlying28 b u .i64 .i64 0 a (Int.le_refl _) (by omega) (by rw [y];omega) (by omega);simpa using this⟩
 have I:=aA D;have J:=aA E;clear z A B C b u x y D E;go_enter Tryz.func103,Tryz.ntmps103;go_upto_region 1 with (fail);refine wp_region_any (by kernel_rfl) ?_;refine wpAny_take (i:=0) (v:=.int .i64 a) rfl (by kernel_rfl) (by kernel_rfl) (by kernel_rfl) (λ_ _ _ c=>c) (Or.inl ⟨by rfl,λw=>rfl⟩) ?_;refine wpAny_take (i:=2) (v:=.int .i64 a) rfl (by kernel_rfl) (by kernel_rfl) (by kernel_rfl) (λ_ _ _ c=>c) (Or.inl ⟨by rfl,λw=>rfl⟩) ?_;refine wpAny_take (i:=4) (v:=.int .i64 a) rfl (by kernel_rfl) (by kernel_rfl) (by kernel_rfl) (λ_ _ _ c=>c) (Or.inl ⟨by rfl,λw=>rfl⟩) ?_;refine wpAny_take (i:=6) (v:=.int .i64 a) rfl (by kernel_rfl) (by kernel_rfl) (by kernel_rfl) (λ_ _ _ c=>c) (Or.inl ⟨by rfl,λw=>rfl⟩) ?_;refine bAv (w:=w) (c1:=m) (c2:=n) (n:=a) rfl rfl rfl rfl rfl ⟨rfl,rfl,rfl,rfl,rfl⟩ ⟨rfl,rfl,rfl,rfl,rfl⟩ ?_ ?_ ?_ ?_ ?_ ?_ ?_ 5 none none none none none _ rfl ?_
 ·intro o p q r s d;simp [execOp,oU,Act.eval,T]
 ·intro o p q r s d;simp [execOp,oU,Act.eval,t]
 ·intro o p q r s d;simp [execOp,oU,Act.eval,t]
 ·intro o p q r s d;simp [execOp,oU,Act.eval,t]
 ·intro o p q r s d;simp [execOp,oU,U]
 ·intro M N O Q R c;cases M<;>cases N<;>cases O<;>cases Q<;>cases R<;>first|(cases c;done)|kernel_rfl
 ·intro j f i k l d b;change wpAny zy .any _ _ 3 #[true,true,true,true,true,true,true,true,true,false,false,false] {tmps:=#[.int .i64 a,undef,.pointer none,.int .i64 a,.slice (some ⟨j,0,none⟩) 0 a,.int .i64 a,.slice (some ⟨f,0,none⟩) 0 a,.int .i64 a,.slice (some ⟨i,0,none⟩) 0 a,.int .i64 a,.slice (some ⟨k,0,none⟩) 0 a,.map (some l),undef,undef],defers:=[]} d;refine wpAny_take (i:=9) (v:=.agg #[.slice (some ⟨j,0,none⟩) 0 a,.slice (some ⟨f,0,none⟩) 0 a,.slice (some ⟨i,0,none⟩) 0 a,.slice (some ⟨k,0,none⟩) 0 a,.map (some l)]) rfl (by kernel_rfl) (by kernel_rfl) (by kernel_rfl) (λ_ _ _ c=>c) (Or.inl ⟨by rfl,λw=>by go_simp⟩) ?_;refine wpAny_all (rs:=[10]) (by kernel_rfl) (by simp) λW S=>?_
  obtain rfl:W=10:=by simpa using S
  refine vV (v:=.pointer (some ⟨d.heap.size,0,none⟩)) (w':=d.alloc (.cells #[.slice (some ⟨j,0,none⟩) 0 a,.slice (some ⟨f,0,none⟩) 0 a,.slice (some ⟨i,0,none⟩) 0 a,.slice (some ⟨k,0,none⟩) 0 a,.map (some l)] 165)) rfl rfl (by rfl) ?_;refine wpAny_take (i:=11) (v:=.pointer (some ⟨d.heap.size,0,none⟩)) rfl (by kernel_rfl) (by kernel_rfl) (by kernel_rfl) (λ_ _ _ c=>c) (Or.inl ⟨by rfl,λw=>by rfl⟩) ?_;refine wpAny_done (by kernel_rfl) ?_ _;have g:=b.alloc (.cells #[.slice (some ⟨j,0,none⟩) 0 a,.slice (some ⟨f,0,none⟩) 0 a,.slice (some ⟨i,0,none⟩) 0 a,.slice (some ⟨k,0,none⟩) 0 a,.map (some l)] 165);have L:=aA (bAu (tb:=d.heap.size) V I.o J.o g.low (g.h1 j rfl).2 (g.h2 f rfl).2 (g.h3 i rfl).2 (g.h4 k rfl).2 (g.h5 l rfl).2 (heap_alloc_new _ _) ⟨(b.h1 j rfl).1,(b.h2 f rfl).1,(b.h3 i rfl).1,(b.h4 k rfl).1,(b.h5 l rfl).1,b.low.size⟩ ⟨λe=>b.n23 f rfl (by rw [e]),λe=>b.n24 f rfl (by rw [e]),λe=>b.n34 i rfl (by rw [e]),λe=>b.lt.2.2.2 (by rw [e])⟩);clear b g;go_wp2;go_ret;exact ⟨_,_,_,_,_,_,rfl,L.o⟩
 ·exact fX.start (aS ⟨1,rfl⟩)
