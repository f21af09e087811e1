import Derived.Test.YtenobhkjiebhaaaGreatDoorUJnLS18
open And renaming intro->yz
open Array renaming replicate_succ->yk,replicate_zero->yj
open Bool renaming true->zt,false->zl
open List renaming length->Z,length_append->zn,getElem_of_mem->zm,filterMap_append->zk,filterMap_cons->zi,append_assoc->zh,getElem_mem->zf,drop_eq_getElem_cons->ze,length_cons->zd,map_append->zc,flatMap_cons->zb,filterMap_nil->z4,eraseIdx_append_of_length_le->z5,take_succ_eq_append_getElem->z6,nodup_append->z7,take_append_drop->z8,take_length->z9,mem_of_mem_take->yy,length_map->yx,append_nil->yw,eraseIdx_of_length_le->yu,getElem?_append_right->yt,perm_append_singleton->ys,getElem?_map->yq,getElem?_eq_getElem->yp,mem_of_mem_eraseIdx->yo,length_eraseIdx_le->yn,mem_of_getElem?->yl,append_toArray->yi,size_toArray->yf,push_toArray->ye,cons_append->yd
open Nat renaming le_trans->zs,le_refl->zo,zero_le->yr
open Option renaming some->V,none->zr
open Or renaming inl->yv,inr->ym
open Prod renaming snd->zu
namespace Go.Proofs.YtenobhkjiebhaaaGreatDoor
open Go renaming World->zx,Value->U
open _root_.Go.Proofs.Tryz renaming prog->zp
open Value renaming ownBlock->zv
open World renaming ownsRow->zq,alloc_heap_new->zj,cell?->zg,size_alloc->za,grownBy->yh,ownsRow_nil->yg
open Go.RowKit Go.Shelf Go.WideMaps
set_option maxHeartbeats 8000000
set_option maxRecDepth 100000
variable{R:List (Int×Lt)}{L:List Cd}{d:List Lt}{S:List TypeId}{us vs:List U}{B k n tb:Nat}{α β:Type}{v:U}{W W' w w':zx}
theorem bFq{a:Nat}(b:w.heap[a]?=V (.map #[] 0)):w.ownsMap zp 198 jC a 0 (.map []):=by
 have f:=(bA b);have c:(World.alloc {w with heap:=w.heap.extract 0 a} (.map #[] 0)).ownsMap zp 198 jC ({w with heap:=w.heap.extract 0 a}:zx).heap.size 0 (.map []):=World.ownsMap_made _ _ _ _;have e:({w with heap:=w.heap.extract 0 a}:zx).heap.size=a:=by simp;omega
 rw[e]at c;refine aIl c ?_;rw[b];have:=heap_alloc_new ({w with heap:=w.heap.extract 0 a}:zx) (.map #[] 0);rw[e]at this;exact this.symm
theorem aEv{c:Nat}{a:Array U}{b:TypeId}(f:B<=k)(e:W.heap[k]?=V (.cells a b))(g:a.size=n*c)(i:n<=1000000):zq W B b c (sQ k 0 n) 0 []:=
 ⟨by simp,ym ⟨k,n,a,rfl,f,e,yr _,by unfold maxLen;omega,g,by simp⟩⟩
structure aIt(w:zx)(tb mp:Nat)(vn ve vl vs:U)(w':zx):Prop where
 tm:dZ w' w.heap.size tb vn ve vl vs (.map (V mp)) [] [] [] []
 first:iV w' mp []
 low:aB w w'
 ne:mp≠tb
 mlow:w.heap.size<=mp
theorem bFr{i a b c e:Nat}{l f:Array U}(g:n<=1000000)(D:l.size=n*2)(j:f.size=n*1)(A:aB w W)(u:W.heap[i]?=V (.cells l 52))(x:W.heap[a]?=V (.cells f 3))(y:W.heap[b]?=V (.cells f 3))(z:W.heap[c]?=V (.cells f 3))(C:W.heap[e]?=V (.map #[] 0))
  (E:W.heap[tb]?=V (.cells #[sQ i 0 n,sQ a 0 n,sQ b 0 n,sQ c 0 n,.map (V e)] 158))
  (F:w.heap.size<=i/\w.heap.size<=a/\w.heap.size<=b/\w.heap.size<=c/\w.heap.size<=e/\w.heap.size<=tb) (G:a≠b/\a≠c/\b≠c/\e≠tb):aIt w tb e (sQ i 0 n) (sQ a 0 n) (sQ b 0 n) (sQ c 0 n) W:=by
 obtain⟨m,o,p,q,r,s⟩:=F;obtain⟨H,I,J,t⟩:=G;refine⟨⟨E,s,aEv m u D g,aEv o x j g,aEv p y j g,aEv q z j g,?_,?_,?_,?_,?_,?_⟩,⟨0,.map [],bFq C,pV.start,zo _⟩,A,t,r⟩;all_goals simp[zv]
 all_goals assumption
abbrev Ob:=Option Nat
def vS(n:Nat):Ob->U
 |some k=>sQ k 0 n
 |none=>undef
def vM:Ob->U
 |some k=>.map (some k)
 |none=>undef
def aQx(a b c e f:Ob):Array Bool:=#[zt,a.isSome,zt,b.isSome,zt,c.isSome,zt,e.isSome,f.isSome,zl,zl,zl]
def rL(n:Nat)(a b c e f:Ob):Act:={tmps:=#[iQ n,undef,.pointer zr,iQ n,vS n a,iQ n,vS n b,iQ n,vS n c,iQ n,vS n e,vM f,undef,undef],defers:=[]}
def vT(a b c e f:Bool):List Nat:=(if a then [] else [1])++(if b then [] else [3])++(if c then [] else [5])++(if e then [] else [7])++(if f then [] else [8])
def uB(a b c e f:Ob):List Nat:=vT a.isSome b.isSome c.isSome e.isSome f.isSome
structure jG(w:zx)(c1 c2:Array U)(o1 o2 o3 o4 o5:Ob)(W:zx):Prop where
 low:aB w W
 h1:∀k,o1=V k->w.heap.size<=k/\W.heap[k]?=V (.cells c1 52)
 h2:∀k,o2=V k->w.heap.size<=k/\W.heap[k]?=V (.cells c2 3)
 h3:∀k,o3=V k->w.heap.size<=k/\W.heap[k]?=V (.cells c2 3)
 h4:∀k,o4=V k->w.heap.size<=k/\W.heap[k]?=V (.cells c2 3)
 h5:∀k,o5=V k->w.heap.size<=k/\W.heap[k]?=V (.map #[] 0)
 n23:∀k,o2=V k->o3≠V k
 n24:∀k,o2=V k->o4≠V k
 n34:∀k,o3=V k->o4≠V k
section
variable {w W:zx}{c1 c2:Array U}{o1 o2 o3 o4 o5:Ob}
theorem jG.start(b:aB w W):jG w c1 c2 none none none none none W:=⟨b,(λ_ a=>nomatch a),(λ_ a=>nomatch a),(λ_ a=>nomatch a),(λ_ a=>nomatch a),(λ_ a=>nomatch a),(λ_ a=>nomatch a),(λ_ a=>nomatch a),(λ_ a=>nomatch a)⟩
theorem jG.lt(a:jG w c1 c2 o1 o2 o3 o4 o5 W):(o1≠V W.heap.size/\o2≠V W.heap.size)/\o3≠V W.heap.size/\o4≠V W.heap.size/\o5≠V W.heap.size:=by
 refine⟨⟨λe=>?_,λe=>?_⟩,λe=>?_,λe=>?_,λe=>?_⟩
 .have:=(Array.getElem?_eq_some_iff.1 (a.h1 _ e).2).1;omega
 .have:=(Array.getElem?_eq_some_iff.1 (a.h2 _ e).2).1;omega
 .have:=(Array.getElem?_eq_some_iff.1 (a.h3 _ e).2).1;omega
 .have:=(Array.getElem?_eq_some_iff.1 (a.h4 _ e).2).1;omega
 have:=(Array.getElem?_eq_some_iff.1 (a.h5 _ e).2).1;omega
theorem aC2{b c:Obj}(a:W.heap[k]?=V b):(W.alloc c).heap[k]?=V b:=by rw[heap_alloc_old W c (bA a),a]
theorem jG.alloc(a:jG w c1 c2 o1 o2 o3 o4 o5 W)(x:Obj):jG w c1 c2 o1 o2 o3 o4 o5 (W.alloc x):=
 ⟨a.low.alloc a.low.size x,λk b=>⟨(a.h1 k b).1,aC2 (a.h1 k b).2⟩,λk b=>⟨(a.h2 k b).1,aC2 (a.h2 k b).2⟩,λk b=>⟨(a.h3 k b).1,aC2 (a.h3 k b).2⟩,λk b=>⟨(a.h4 k b).1,aC2 (a.h4 k b).2⟩,λk b=>⟨(a.h5 k b).1,aC2 (a.h5 k b).2⟩,a.n23,a.n24,a.n34⟩
theorem jG.s1(b:jG w c1 c2 o1 o2 o3 o4 o5 W):jG w c1 c2 (V W.heap.size) o2 o3 o4 o5 (W.alloc (.cells c1 52)):=by have k:=b.alloc (.cells c1 52);exact⟨k.low,λj a=>by simp at a;subst a;exact⟨b.low.size,heap_alloc_new _ _⟩,k.h2,k.h3,k.h4,k.h5,k.n23,k.n24,k.n34⟩
theorem jG.s2(b:jG w c1 c2 o1 o2 o3 o4 o5 W):jG w c1 c2 o1 (V W.heap.size) o3 o4 o5 (W.alloc (.cells c2 3)):=by have k:=b.alloc (.cells c2 3);exact⟨k.low,k.h1,λj a=>by simp at a;subst a;exact⟨b.low.size,heap_alloc_new _ _⟩,k.h3,k.h4,k.h5,λj a=>by simp at a;subst a;exact b.lt.2.1,λj a=>by simp at a;subst a;exact b.lt.2.2.1,k.n34⟩
theorem jG.s3(b:jG w c1 c2 o1 o2 o3 o4 o5 W):jG w c1 c2 o1 o2 (V W.heap.size) o4 o5 (W.alloc (.cells c2 3)):=by have k:=b.alloc (.cells c2 3);exact⟨k.low,k.h1,k.h2,λj a=>by simp at a;subst a;exact⟨b.low.size,heap_alloc_new _ _⟩,k.h4,k.h5,λj a c=>by simp at c;subst c;exact b.lt.1.2 a,k.n24,λj a=>by simp at a;subst a;exact b.lt.2.2.1⟩
theorem jG.s4(c:jG w c1 c2 o1 o2 o3 o4 o5 W):jG w c1 c2 o1 o2 o3 (V W.heap.size) o5 (W.alloc (.cells c2 3)):=by have k:=c.alloc (.cells c2 3);exact⟨k.low,k.h1,k.h2,k.h3,λj a=>by simp at a;subst a;exact⟨c.low.size,heap_alloc_new _ _⟩,k.h5,k.n23,λj a b=>by simp at b;subst b;exact c.lt.1.2 a,λj a b=>by simp at b;subst b;exact c.lt.2.1 a⟩
theorem jG.s5(b:jG w c1 c2 o1 o2 o3 o4 o5 W):jG w c1 c2 o1 o2 o3 o4 (V W.heap.size) (W.alloc (.map #[] 0)):=by have k:=b.alloc (.map #[] 0);exact⟨k.low,k.h1,k.h2,k.h3,k.h4,λj a=>by simp at a;subst a;exact⟨b.low.size,heap_alloc_new _ _⟩,k.n23,k.n24,k.n34⟩
end
def yO(a b c e f:Ob):Nat:=(uB a b c e f).length
theorem bFs{c1 c2:Array U}{g:Array Oper}{G:Exit->Act->zx->Prop}{o p q r s:Oper}
  (a5:g[1]?=V o) (a6:g[3]?=V p) (a7:g[5]?=V q) (a8:g[7]?=V r) (a9:g[8]?=V s)
  (b0:o.guard=zr/\p.guard=zr/\q.guard=zr/\r.guard=zr/\s.guard=zr) (d:o.dst=V 4/\p.dst=V 6/\q.dst=V 8/\r.dst=V 10/\s.dst=V 11)
  (M:∀(a b c e f:Ob) (W:zx),(execOp (rL n a b c e f).eval o).run zp W=.ok (.value (sQ W.heap.size 0 n)) (W.alloc (.cells c1 52)))
  (N:∀(a b c e f:Ob) (W:zx),(execOp (rL n a b c e f).eval p).run zp W=.ok (.value (sQ W.heap.size 0 n)) (W.alloc (.cells c2 3)))
  (P:∀(a b c e f:Ob) (W:zx),(execOp (rL n a b c e f).eval q).run zp W=.ok (.value (sQ W.heap.size 0 n)) (W.alloc (.cells c2 3)))
  (Q:∀(a b c e f:Ob) (W:zx),(execOp (rL n a b c e f).eval r).run zp W=.ok (.value (sQ W.heap.size 0 n)) (W.alloc (.cells c2 3)))
  (T:∀(a b c e f:Ob) (W:zx),(execOp (rL n a b c e f).eval s).run zp W=.ok (.value (.map (V W.heap.size))) (W.alloc (.map #[] 0)))
  (J:∀(t u x y z:Bool),(t && u && x && y && z)=zl->Region.ready .any g #[zt,t,zt,u,zt,x,zt,y,z,zl,zl,zl]=vT t u x y z)
  (H:∀(A C D E F:Nat) (W:zx),jG w c1 c2 (V A) (V C) (V D) (V E) (V F) W->wpAny zp .any g G 3 (aQx (V A) (V C) (V D) (V E) (V F)) (rL n (V A) (V C) (V D) (V E) (V F)) W):∀(j:Nat) (a b c e f:Ob) (W:zx),yO a b c e f=j->jG w c1 c2 a b c e f W->wpAny zp .any g G (j+3) (aQx a b c e f) (rL n a b c e f) W:=by
 obtain⟨b1,b2,b3,b4,b5⟩:=b0;obtain⟨X,a0,a1,a2,a3⟩:=d;intro j;induction j with
 |zero=>
  intro a b c e f W l i;have b6:=List.eq_nil_of_length_eq_zero l;cases a<;>cases b<;>cases c<;>cases e<;>cases f<;>first|(simp[uB,vT]at b6;done)|exact H _ _ _ _ _ _ i
 |succ j ih=>
  intro a b c e f W l i;have I:uB a b c e f≠[]:=λa4=>by unfold yO at l;rw[a4]at l;simp at l
  rw[show j+1+3=(j+3)+1 by omega];refine wpAny_all (rs:=uB a b c e f) (J _ _ _ _ _ (by cases a<;>cases b<;>cases c<;>cases e<;>cases f<;>first|rfl|exact absurd rfl I)) I λm b7=>?_
  have b8:(m=1/\a=zr)\/(m=3/\b=zr)\/(m=5/\c=zr)\/(m=7/\e=zr)\/(m=8/\f=zr):=by clear J H ih M N P Q T;cases a<;>cases b<;>cases c<;>cases e<;>cases f<;>simp[uB,vT]at b7 ⊢<;>omega
  rcases b8 with⟨rfl,rfl⟩|⟨rfl,rfl⟩|⟨rfl,rfl⟩|⟨rfl,rfl⟩|⟨rfl,rfl⟩
  .refine yC a5 b1 (M _ _ _ _ _ W) ?_;rw[X];exact ih (V W.heap.size) b c e f _ (by unfold yO uB vT at *;simp at *;omega) i.s1
  .refine yC a6 b2 (N _ _ _ _ _ W) ?_;rw[a0];exact ih a (V W.heap.size) c e f _ (by unfold yO uB vT at *;simp at *;omega) i.s2
  .refine yC a7 b3 (P _ _ _ _ _ W) ?_;rw[a1];exact ih a b (V W.heap.size) e f _ (by unfold yO uB vT at *;simp at *;omega) i.s3
  .refine yC a8 b4 (Q _ _ _ _ _ W) ?_;rw[a2];exact ih a b c (V W.heap.size) f _ (by unfold yO uB vT at *;simp at *;omega) i.s4
  refine yC a9 b5 (T _ _ _ _ _ W) ?_;rw[a3];exact ih a b c e (V W.heap.size) _ (by unfold yO uB vT at *;simp at *;omega) i.s5
theorem aQy(n:Nat)(a5:n<=1000000)(w:zx):Calls zp 56 #[iQ n] w λc w'=>∃tb a7 b0 a8 a9 vs,c=.returned (pQ tb)/\aIt w tb a7 b0 a8 a9 vs w':=by
 obtain⟨I,A,C,D,E⟩:=info_parts kK;obtain⟨H,a,x,y,z⟩:=info_parts mR;have a4:=@run_makeMap zp;obtain⟨m,F,a3⟩:∃m:Array U,m.size=n*2/\∀w:zx,(Instr.makeSlice 50 (iQ 0) (iQ n)).run zp w=.ok (sQ w.heap.size 0 n) (w.alloc (.cells m 52)):=
  ⟨madeCells (Value.agg #[.string ⟨#[]⟩,iQ 0]).cells (n*I.size),by rw[size_madeCells,D],λw=>by
   have:=run_make (P:=zp) w 50 52 I _ Tryz.underlying50 A C .i64 .i64 0 n (Int.le_refl _) (by omega) (by rw[E];omega) (by omega);simpa using this⟩
 obtain⟨o,G,u⟩:∃o:Array U,o.size=n*1/\∀w:zx,(Instr.makeSlice 24 (iQ 0) (iQ n)).run zp w=.ok (sQ w.heap.size 0 n) (w.alloc (.cells o 3)):=
  ⟨madeCells (iQ 0).cells (n*H.size),by rw[size_madeCells,y],λw=>by
   have:=run_make (P:=zp) w 24 3 H _ Tryz.underlying24 a x .i64 .i64 0 n (Int.le_refl _) (by omega) (by rw[z];omega) (by omega);simpa using this⟩
 have J:=O F;have M:=O G;clear A C D E a x y z F G;go_enter Tryz.func56,Tryz.ntmps56;go_upto_region 1 with(fail);refine wp_region_any (by kernel_rfl) ?_;refine wpAny_take (i:=0) (v:=iQ n) rfl (by kernel_rfl) (by kernel_rfl) (by kernel_rfl) (λ_ _ _ b=>b) (yv ⟨by rfl,λw=>rfl⟩) ?_;refine wpAny_take (i:=2) (v:=iQ n) rfl (by kernel_rfl) (by kernel_rfl) (by kernel_rfl) (λ_ _ _ b=>b) (yv ⟨by rfl,λw=>rfl⟩) ?_;refine wpAny_take (i:=4) (v:=iQ n) rfl (by kernel_rfl) (by kernel_rfl) (by kernel_rfl) (λ_ _ _ b=>b) (yv ⟨by rfl,λw=>rfl⟩) ?_;refine wpAny_take (i:=6) (v:=iQ n) rfl (by kernel_rfl) (by kernel_rfl) (by kernel_rfl) (λ_ _ _ b=>b) (yv ⟨by rfl,λw=>rfl⟩) ?_;refine bFs (w:=w) (c1:=m) (c2:=o) (n:=n) rfl rfl rfl rfl rfl ⟨rfl,rfl,rfl,rfl,rfl⟩ ⟨rfl,rfl,rfl,rfl,rfl⟩ ?_ ?_ ?_ ?_ ?_ ?_ ?_ 5 zr zr zr zr zr _ rfl ?_
 .intro p q r s t W;simp[execOp,rL,Act.eval,a3]
 .intro p q r s t W;simp[execOp,rL,Act.eval,u]
 .intro p q r s t W;simp[execOp,rL,Act.eval,u]
 .intro p q r s t W;simp[execOp,rL,Act.eval,u]
 .intro p q r s t W;simp[execOp,rL,a4]
 .intro Q T X a0 a1 b;cases Q<;>cases T<;>cases X<;>cases a0<;>cases a1<;>first|(cases b;done)|kernel_rfl
 .intro i e g j l W a;change wpAny zp .any _ _ 3 #[zt,zt,zt,zt,zt,zt,zt,zt,zt,zl,zl,zl] {tmps:=#[iQ n,undef,.pointer zr,iQ n,sQ i 0 n,iQ n,sQ e 0 n,iQ n,sQ g 0 n,iQ n,sQ j 0 n,.map (V l),undef,undef],defers:=[]} W;refine wpAny_take (i:=9) (v:=.agg #[sQ i 0 n,sQ e 0 n,sQ g 0 n,sQ j 0 n,.map (V l)]) rfl (by kernel_rfl) (by kernel_rfl) (by kernel_rfl) (λ_ _ _ b=>b) (yv ⟨by rfl,λw=>by go_simp⟩) ?_;refine wpAny_all (rs:=[10]) (by kernel_rfl) (by simp) λa6 a2=>?_
  obtain rfl:a6=10:=by simpa using a2
  refine yC (v:=pQ W.heap.size) (w':=W.alloc (.cells #[sQ i 0 n,sQ e 0 n,sQ g 0 n,sQ j 0 n,.map (V l)] 158)) rfl rfl (by rfl) ?_;refine wpAny_take (i:=11) (v:=pQ W.heap.size) rfl (by kernel_rfl) (by kernel_rfl) (by kernel_rfl) (λ_ _ _ b=>b) (yv ⟨by rfl,λw=>by rfl⟩) ?_;refine wpAny_done (by kernel_rfl) ?_ _;have f:=a.alloc (.cells #[sQ i 0 n,sQ e 0 n,sQ g 0 n,sQ j 0 n,.map (V l)] 158);have N:=O (bFr (tb:=W.heap.size) a5 J.o M.o f.low (f.h1 i rfl).2 (f.h2 e rfl).2 (f.h3 g rfl).2 (f.h4 j rfl).2 (f.h5 l rfl).2 (heap_alloc_new _ _) ⟨(a.h1 i rfl).1,(a.h2 e rfl).1,(a.h3 g rfl).1,(a.h4 j rfl).1,(a.h5 l rfl).1,a.low.size⟩ ⟨λc=>a.n23 e rfl (by rw[c]),λc=>a.n24 e rfl (by rw[c]),λc=>a.n34 g rfl (by rw[c]),λc=>a.lt.2.2.2 (by rw[c])⟩);clear a f;go_wp2;go_ret;exact⟨_,_,_,_,_,_,rfl,N.o⟩
 exact jG.start (aN ⟨1,rfl⟩)
abbrev aW(o:Int)(a:List Nd):List Tg:=a.map λn=>(o,n)
theorem vU(o:Int)(a:List Nd):(aW o a).map zu=a:=by unfold aW;rw[List.map_map];exact List.map_id _
theorem Rows.tabOk{e:List Tg}{R:List Rw}{m:Nat->Nat}{f:Tb}(g:Rows e R m)(y:f.map Prod.fst=R)(N:∀(p:Nat) (b:Tg),e[p]?=V b->0<=b.2.2):jY f:=by
 have G:Z f=Z R:=by rw[<-y];simp
 have t:∀(a:Nat) (c:a<Z f),R[a]?=V f[a].1:=λa c=>by rw[<-y,yq,yp c];rfl
 have C:∀(a:Nat) (c:a<Z f),∃p b,e[p]?=V b/\m p=a/\aK f[a].1.node=aK b.2/\(aK b.2=zl->f[a].1=⟨b.2,a,((aF (e.map zu)).ch p).map m⟩):=by intro a c;obtain⟨p,H,rfl⟩:=g.onto a (by omega);have u:e[p]?=V e[p]:=yp H;obtain⟨T,D,M⟩:=g.at u;have s:=t _ c;rw[D]at s;simp at s;subst s;refine⟨p,e[p],u,rfl,M,λj=>?_⟩;have:=g.name p _ u j;rw[D]at this;simpa using this
 refine⟨λa c Q l=>?_,λa c=>?_,λa c j=>?_⟩
 .obtain⟨p,b,o,F,q,r⟩:=C a c;cases j:aK b.2
  .rw[r j]at l;obtain⟨E,z,rfl⟩:=List.mem_map.1 l;have i:(e.map zu)[p]?=V b.2:=by rw[yq,o];rfl
   rw[jE i]at z;have P:=(sY _ _ _ (g.whole p _ i) E z).2;have A:=(eE i);have x:aM ((e.map zu).drop p) 1<=Z ((e.map zu).drop p):=oC _ _;rw[ze A]at x;have J:(e.map zu)[p]=b.2:=(List.getElem?_eq_some_iff.1 i).2;rw[J]at x;simp[aM]at x A;rw[G];exact g.lt (by omega)
  have:=(g.fresh a _ (t a c)).2 (by rw[q];exact j);rw[this]at l;simp at l
 .rw[(g.fresh a _ (t a c)).1];exact c
 obtain⟨p,b,o,F,q,r⟩:=C a c;have I:aK b.2=false:=by rw[<-q];exact j
 rw[r I];have i:(e.map zu)[p]?=V b.2:=by rw[yq,o];rfl
 simp only[yx];rw[jE i,yG];grind[bI]
theorem bFt{a:List Nd}{e:Nat}(b:aP a e=zt):∀n∈a,0<=n.2:=by intro n c;have:=aA9 b n c;grind[dQ]
structure nX(B tb mp:Nat)(M:List Tg)(w:zx):Prop where
 tm:∃vn ve vl vs,dZ w B tb vn ve vl vs (.map (V mp)) (M.map zu) (gA (M.map zu)) (vR M) (List.replicate (Z M) 0)
 first:iV w mp M
 whole:dV (M.map zu)
 big:B<=w.heap.size
 ne:mp≠tb
 mlow:B<=mp
theorem nX.new{w w':zx}{tb b:Nat}{f c e vs:U}(a:aIt w tb b f c e vs w'):nX w.heap.size tb b [] w':=
 ⟨⟨f,c,e,vs,a.tm⟩,a.first,λi n g=>by simp at g,a.low.size,a.ne,a.mlow⟩
theorem aEw{i:Nat}{a:List Tg}(b:nX B tb i a w)(e:Int)(f:Option Addr)(j:Nat)(c:List Nd)(t:dI w f c)(o:aP c 1=zt)(s:∀p,f=V p->p.block<B)(r:Z a+Z c<=1000000)(u:-1000<=e/\e<=1000):Calls zp 59 #[pQ tb,iQ e,.slice f (Z c) j] w λl w'=>l=.returned (iQ (Z a))/\nX B tb i (a++aW e c) w'/\Below B w w':=by
 obtain⟨E,z,C,vs,y⟩:=b.tm;have g:Z (a.map zu)=Z a:=by simp
 refine(aQu B tb i E z C vs (a.map zu) (vR a) (List.replicate (Z a) 0) a e f j c w y rfl b.whole b.first (by rw[rJ,g]) (by rw[List.length_replicate,g]) b.big b.ne b.mlow o t s (by rw[g];exact r) u).mono ?_;rintro l w' ⟨F,A,D,G,rfl,H,q,m,_⟩;have x:(a++aW e c).map zu=a.map zu++c:=by rw[zc,vU]
 refine⟨by rw[g],⟨⟨F,A,D,G,?_⟩,q,by rw[x];exact b.whole.append (tD o),zs b.big m.low.size,b.ne,b.mlow⟩,m.low⟩;grind[aQv,zn,List.replicate_append_replicate.symm]
theorem bFu{L:List Nd}(p:dV L){m:Nat->Nat->Prop}{j:Nat->Nat}{l:List Nat}{e:List Nd}(o:aX (aF L) m j l e)(f:∀a∈l,a<Z L):∀n∈e,(aK n=zt/\∃a,a<Z L/\n=(⟨#[]⟩,(j a:Int)))\/(aK n=zl/\n∈L):=by
 induction o with
 |nil=>intro n hn;simp at hn
 |@var a r e h1 _ ih=>
  intro n hn;rcases List.mem_cons.1 hn with rfl|hn
  .exact yv ⟨oF _,a,f a (by simp),rfl⟩
  exact ih (λc q=>f c (by simp[q])) n hn
 |@name a c r e h1 h2 _ ih=>
  intro n hn;obtain⟨x,b,t⟩:=nC h2;have s:=(eE b);rcases List.mem_cons.1 hn with rfl|hn
  .right;rw[pR b];exact⟨t,yl b⟩
  refine ih (λi hp=>?_) n hn;rcases List.mem_append.1 hp with hp|hp
  .rw[jE b]at hp;have u:=(sY _ _ _ (p c _ b) i hp).2;have g:aM (L.drop c) 1<=Z (L.drop c):=oC _ _;rw[ze s,(List.getElem?_eq_some_iff.1 b).2]at g;simp[aM]at g;omega
  exact f i (by simp[hp])
theorem aAc{e:Option Addr}{b:List Nd}(f:dI w e b)(m:aP b 1=zt):∀c,e=V c->c.block<w.heap.size:=by
 intro c j;have g:0<Z b:=by grind[aP]
 obtain⟨l,o,a,i,_⟩:=f.cell 0 g;rw[j]at a;simp at a;rw[a];exact World.block_lt_of_cell? w _ i
theorem cE.toRaw{g b c vs f:U}{L:List Nd}{e:List Nat}{S:List Int}(a:cE w B tb g b c vs f L e S)(i:zv b≠zr)(j:zv c≠zr)(l:zv vs≠zr):dZ w B tb g b c vs f L (gA L) e S:=
 ⟨a.box,a.high,a.rn,by rw[pT];exact a.re,by rw[a.lf];exact a.rl,by rw[a.ls];exact a.rs,a.ab,a.ac,a.bc,i,j,l⟩
structure kG(B tb mp:Nat)(nb:Option Nat)(M:List Tg)(a b:Nat)(ps:List Nat)(ls:List (List Nd))(w:zx):Prop where
 tm:∃vn ve vl vs F rt d S,zv vn=nb/\dZ w B tb vn ve vl vs (.map (V mp)) (M.map zu) (gA (M.map zu)) F S/\iJ M a b F rt d S/\(∀p,p<Z M->bZ (aF (M.map zu)) (λi j=>rt i=rt j) p)/\aU (λp l=>aX (aF (M.map zu)) (λi j=>rt i=rt j) rt [p] l) ps ls
 low:∀p∈ps,p<Z M
 first:iV w mp M
 big:B<=w.heap.size
 ne:mp≠tb
 mlow:B<=mp
 short:∀t∈M,t.2.1.size<=140737488355328
def tE(e:Option Nat)(w w':zx):Prop:=∀(k:Nat) (b:Array U) (a:TypeId) (c:Nat×Nat),w.heap[k]?=V (.cells b a c)->a≠3->a≠158->e≠V k->w'.heap[k]?=w.heap[k]?
def aQz(w:zx)(c b:Option Nat):Prop:=b=c\/∃a,b=V a/\w.heap.size<=a
section
variable {B tb mp:Nat}{nb:Option Nat}{M:List Tg}{a b:Nat}{ps:List Nat}{ls:List (List Nd)}{w:zx}
theorem bFv(f:kG B tb mp nb M a b ps ls w)(g:Int)(m:Option Addr)(o:Nat)(e:List Nd)(A:dI w m e)(t:aP e 1=zt)(Q:∀c,m=V c->c.block<B)(P:Z M+Z e<=1000000)(a0:-1000<=g/\g<=1000):Calls zp 59 #[pQ tb,iQ g,.slice m (Z e) o] w λy w'=>y=.returned (iQ (Z M))/\∃D,kG B tb mp D (M++aW g e) a b ps ls w'/\Below B w w'/\aQz w nb D/\tE nb w w':=by
 obtain⟨a8,a4,a6,vs,F,l,d,S,C,a2,j,J,T⟩:=f.tm;have p:Z (M.map zu)=Z M:=by simp
 refine(aQu B tb mp a8 a4 a6 vs (M.map zu) F S M g m o e w a2 rfl j.whole f.first (by rw[j.lf,p]) (by rw[j.ls,p]) f.big f.ne f.mlow t A Q (by rw[p];exact P) a0).mono ?_;rintro y w' ⟨E,a5,a7,a9,rfl,G,H,r,I⟩;have s:(M++aW g e).map zu=M.map zu++e:=by rw[zc,vU]
 refine⟨by rw[p],zv E,⟨⟨E,a5,a7,a9,_,_,_,_,rfl,by rw[s];exact G,j.add (o:=g) t,?_,?_⟩,λc i=>by have:=f.low c i;simp;omega,H,zs f.big r.low.size,f.ne,f.mlow,?_⟩,r.low,by rw[<-C];exact I,by rw[<-C];exact r.nod⟩
 .intro c i;rw[s];have b1:c<Z M+Z e:=by simpa using i
  exact j.endsAll (o:=g) t J (Z M+Z e-c) c (by omega)
 .rw[s];have a3:∀{ps:List Nat}{ls:List (List Nd)},aU (λc x=>aX (aF (M.map zu)) (λq u=>l q=l u) l [c] x) ps ls->(∀c∈ps,c<Z M)->aU (λc x=>aX (aF (M.map zu++e)) (λq u=>eR M (M++e.map λn=>(g,n)) l q=eR M (M++e.map λn=>(g,n)) l u) (eR M (M++e.map λn=>(g,n)) l) [c] x) ps ls:=by
   intro ps ls f;induction f with
   |nil=>intro _;exact aU.nil
   |cons o _ ih=>
    intro i;exact aU.cons (j.exp (o:=g) o (λq z=>by simp at z;subst z;exact i _ (by simp))) (ih λc a1=>i c (by simp[a1]))
  exact a3 T f.low
 intro b0 hx;rcases List.mem_append.1 hx with hx|hx
 .exact f.short b0 hx
 obtain⟨n,X,rfl⟩:=List.mem_map.1 hx;obtain⟨k,N,rfl⟩:=zm X;exact A.short k N
theorem bFw(i:kG B tb mp nb M a b ps ls w)(j:Nat)(r:j<Z M)(Q:Z M<=1000000):Calls zp 98 #[pQ tb,iQ j] w λg w'=>∃v q,g=.returned (.tuple #[v,.bool q])/\Below B w w'/\w.heap.size<=w'.heap.size/\tE nb w w'/\∃c,
   (q=zt->Z c<=500/\zv v≠zr/\zq w' w.heap.size 52 2 v (Z c) (aV c)/\kG B tb mp nb M a b (ps++[j]) (ls++[c]) w')/\
   (q=zl->v=nQ/\500<Z c/\kG B tb mp nb M a b (ps++[j]) (ls++[c]) w'):=by
 obtain⟨I,G,H,vs,C,l,d,S,a2,m,e,x,a0⟩:=i.tm;have p:Z (M.map zu)=Z M:=by simp
 have X:=m.toIn (by rw[e.lf,p]) (by rw[e.ls,p]) (by rw[p];exact Q) (λn a1=>by obtain⟨a6,a3,rfl⟩:=List.mem_map.1 a1;exact i.short a6 a3);refine(bF0 B tb I G H vs _ (M.map zu) C l d e.whole e.forest e.named e.cl S j w X e.sz (λf g=>absurd g (e.none f)) (by rw[p];exact r)).mono ?_;rintro g w' ⟨v,q,J,rfl,f⟩;obtain⟨A,a5⟩:=f.keep (x j r);have E:Below B w w':=⟨f.far.os,f.far.tape,f.far.output,f.far.size,λk o=>f.far.block k (by have:=i.big;omega) (λg=>by have:=(bS m.rs k g.symm).1;omega)⟩;have F:tE nb w w':=λk a9 a7 b1 o A _ _=>f.far.block k (bA o) (λg=>by
  obtain⟨_,⟨rfl,_⟩|⟨b2,a8,b0,rfl,_,T,_⟩⟩:=m.rs
  .simp[zv]at g
  simp[zv]at g;subst g;rw[T]at o;simp at o;exact A o.2.1.symm)
 have D:∀c,aX (aF (M.map zu)) (λy z=>l y=l z) l [j] c->kG B tb mp nb M a b (ps++[j]) (ls++[c]) w':=λc a4=>
  ⟨⟨I,G,H,vs,C,l,d,J,a2,f.tm.toRaw m.ne m.nl m.ns,⟨e.whole,e.lf,by rw[f.tm.ls,p],e.forest,e.named,e.cl,e.iff,A,λs g=>e.none s ((a5 s).1 g),e.ha,e.hb⟩,x,a0.snoc a4⟩,λs hq=>by
   rcases List.mem_append.1 hq with hq|hq
   .exact i.low s hq
   simp at hq;subst hq;exact r,i.first.grown f.far (uA m.rs i.first),zs i.big f.far.size,i.ne,i.mlow,i.short⟩
 cases q with
 |true=>
  obtain⟨_,e2,c,t,u,P⟩:=f.yes rfl;exact⟨v,zt,rfl,E,f.far.size,F,c,λ_=>⟨u,e2,P,D c t⟩,(λg=>by cases g)⟩
 |false=>
  obtain⟨N,e2⟩:=f.no rfl;obtain⟨c,t,u⟩:∃c,aX (aF (M.map zu)) (λy z=>l y=l z) l [j] c/\500<Z c:=by
   rcases e2 with e2|e2
   .exact absurd (x j r) e2
   exact e2
  exact⟨v,zl,rfl,E,f.far.size,F,c,(λg=>by cases g),λ_=>⟨N,u,D c t⟩⟩
end
theorem aEx(a:Int×Lt)(b:List (Int×Lt)):aL (a::b)=(a.2.2.map λn=>(a.1,n))++aL b:=by simp[aL]
theorem aR0(b:List Tg)(a:Int×Lt)(c:List (Int×Lt)):b++aL (a::c)=(b++a.2.2.map λn=>(a.1,n))++aL c:=by rw[aEx,zh]
def tF(c:List Tg)(j l:Nat)(g:List Nat)(o:List (List Nd)):Prop:=
 ∃i b d S,iJ c j l i b d S/\(∀a,a<Z c->bZ (aF (c.map zu)) (λe f=>b e=b f) a)/\aU (λa m=>aX (aF (c.map zu)) (λe f=>b e=b f) b [a] m) g o/\∀a∈g,a<Z c
section
variable {M:List Tg}{a b:Nat}{ps:List Nat}{ls:List (List Nd)}
theorem tF.more(m:tF M a b ps ls)(o:Int){e:List Nd}(u:aP e 1=zt):∃g,tF (M++e.map λn=>(o,n)) a b (ps++[M.length]) (ls++[g]):=by
 obtain⟨E,f,d,S,q,x,A,z⟩:=m;have t:=tC M o e;have F:0<Z e:=by grind[aP]
 have r:∀p,p<Z M+Z e->bZ (aF (M.map zu++e)) (λj l=>eR M (M++e.map λn=>(o,n)) f j=eR M (M++e.map λn=>(o,n)) f l) p:=λp i=>q.endsAll (o:=o) u x (Z M+Z e-p) p (by omega)
 obtain⟨g,y⟩:=(r (Z M) (by omega)).exp (rep:=eR M (M++e.map λn=>(o,n)) f);refine⟨g,_,_,_,_,q.add (o:=o) u,λp i=>by rw[t];exact r p (by simpa using i),?_,λp i=>?_⟩
 .rw[t];have D:∀{ps:List Nat}{ls:List (List Nd)},aU (λp g=>aX (aF (M.map zu)) (λj l=>f j=f l) f [p] g) ps ls->(∀p∈ps,p<Z M)->aU (λp g=>aX (aF (M.map zu++e)) (λj l=>eR M (M++e.map λn=>(o,n)) f j=eR M (M++e.map λn=>(o,n)) f l) (eR M (M++e.map λn=>(o,n)) f) [p] g) ps ls:=by
   intro ps ls m;induction m with
   |nil=>intro _;exact aU.nil
   |cons c _ ih=>
    intro i;exact aU.cons (q.exp (o:=o) c (λj s=>by simp at s;subst s;exact i _ (by simp))) (ih λp C=>i p (by simp[C]))
  exact(D A z).snoc y
 grind
theorem tF.all:∀(c:List (Int×Lt)) {M:List Tg}{ps:List Nat}{ls:List (List Nd)},tF M a b ps ls->(∀e∈c,aP e.2.2 1=zt)->∃i,tF (M++aL c) a b (ps++bO (Z M) c) (ls++i):=by
 intro c;induction c with
 |nil=>
  intro M ps ls f _;exact⟨[],by simpa[aL,bO]using f⟩
 |cons e rs ih=>
  intro M ps ls f g;obtain⟨l,j⟩:=f.more e.1 (g e (by simp));grind[aR0,bO]
end
theorem bFx:∀(g:List (Int×Lt)) {a:List Tg}{c e:Nat},(∀b∈g,aP b.2.2 1=zt)->dV (a.map zu)->nW (a++aL g) c e->fU (aF (a.map zu)) (cX a c e)/\∀f,f<Z a->bZ (aF (a.map zu)) (cX a c e) f:=by
 intro g;induction g with
 |nil=>
  grind[aL,nW,fU,dV,aF,aP]
 |cons b rs ih=>
  intro a c e p i j;rw[aR0]at j;have o:=tC a b.1 b.2.2;obtain⟨l,m⟩:=ih (λr q=>p r (by simp[q])) (by rw[o];exact i.append (tD (p b (by simp)))) j;rw[o]at l m;exact⟨bEg i l,λf s=>bEf i (m f (by simp;omega))⟩
theorem bFy{a:List Lt}{b:Lt}(e:b∈a):b∈eG a:=by
 suffices ∀(a:List Lt) (c:List Lt) (b:Lt),b∈c\/b∈a->b∈a.foldl jH c from this a [] b (ym e)
 intro a;induction a with
 |nil=>intro c b e;simpa using e
 |cons y r ih=>
  grind[jH,aAu]
theorem bFz(a:List Lt):aY (dY a).1=aY a:=by
 suffices ∀(a:List Lt) (b:List Lt×List Int),aY (a.foldl iZ b).1=aY b.1+aY a by
  grind[aY,dY]
 intro a;induction a with
 |nil=>intro b;simp[aY]
 |cons x r ih=>
  grind[aY,tK,iZ,eF,xV]
theorem aIu{a:List Lt}{b:Lt}(c:b∈a)(e:500<Z b.2):500<aY (bB a):=by unfold bB;rw[bFz];have:=xW (eG a) b (bFy c);omega
theorem aR1:∀(e:List (Int×Lt)) (b:List (List Nd)),Z e=Z b->∀a∈b,∃c,(c,a)∈dS e b
 |[],[],_,a,hl=>by simp at hl
 |r::rs,m::ms,h,a,hl=>by
  rcases List.mem_cons.1 hl with rfl|hl
  .exact⟨r.2.1,by simp[dS]⟩
  obtain⟨c,f⟩:=aR1 rs ms (by simpa using h) a hl;exact⟨c,by simp only[dS,List.zipWith_cons_cons];exact List.mem_cons_of_mem _ f⟩
theorem tF.out{b:List Tg}{c f:Nat}{rest:List (Int×Lt)}{ls:List (List Nd)}(q:tF (b++aL rest) c f (bO (Z b) rest) ls):(500<aY (bB (dS rest ls))->fD b c f rest [] zl 4)/\(aY (bB (dS rest ls))<=500->fD b c f rest (bB (dS rest ls)) zt 0):=by
 obtain⟨s,i,d,S,g,o,m,t⟩:=q;have r:(λa j=>i a=i j)=cX (b++aL rest) c f:=by
  funext a j
  exact propext (g.iff a j)
 rw[r]at o m;have p:nW (b++aL rest) c f:=by refine⟨?_,o⟩;have:=g.cl.done (B:=λa j=>cA (b++aL rest) a=cA (b++aL rest) j\/(a=c/\j=f)) (vN i) (λa j e=>(g.iff a j).1 e) (λa j e=>(g.iff a j).2 (Cl.base e));exact this.2
 exact⟨λl=>ym ⟨p,i,ls,g.iff,m,yv ⟨l,rfl,rfl,rfl⟩⟩,λl=>ym ⟨p,i,ls,g.iff,m,ym ⟨l,rfl,rfl,rfl⟩⟩⟩
def kT(c:List Lt)(out a:Nat):List Lt:=(c.take a).eraseIdx out
theorem aR2{b:List Lt}{a:Nat}(c:a<Z b):kT b a (a+1)=kT b a a:=by grind[kT,z5,yu,z6]
theorem aR3{b:List Lt}{c a:Nat}(e:a<Z b)(f:a≠c):kT b c (a+1)=kT b c a++[b[a]]:=by grind[kT,z5,List.eraseIdx_append_of_lt_length,yu,z6]
theorem aR4(a:List Lt)(b:Nat):kT a b (Z a)=a.eraseIdx b:=by unfold kT;rw[z9]
theorem bG0(a:List Lt)(b:Nat):kT a b 0=[]:=by simp[kT]
def bY:Nat->List (List Lt×Nat)->List (Int×Lt)
 |_,[]=>[]
 |o,p::ps=>((p.1.eraseIdx p.2).map λa=>((o:Int),a))++bY (o+1) ps
theorem aR5:∀(a:List (List Lt×Nat)) (b k:Nat) (c:k<Z a),bY b (a.take (k+1))=bY b (a.take k)++((a[k].1.eraseIdx a[k].2).map λe=>(((b+k:Nat):Int),e)):=by
 intro a;induction a with
 |nil=>intro b k c;simp at c
 |cons p a ih=>
  intro b k c;cases k with
  |zero=>simp[bY]
  |succ k=>
   grind[bY,zh]
theorem aR6(R:List (Int×Lt))(a:Int×Lt):aL (R++[a])=aL R++a.2.2.map λn=>(a.1,n):=by simp[aL]
theorem aR7:∀(R:List (Int×Lt)) (n:Nat) (a:Int×Lt),bO n (R++[a])=bO n R++[n+Z (aL R)]:=by
 intro R;induction R with
 |nil=>intro n a;simp[bO,aL]
 |cons x R ih=>
  grind[bO,aEx]
theorem bG1(R:List (Int×Lt))(a:List (List Nd))(e:Z R=Z a)(c:Int×Lt)(b:List Nd):dS (R++[c]) (a++[b])=dS R a++[(c.2.1,b)]:=by unfold dS;rw[List.zipWith_append e];rfl
section
variable {B tb mp:Nat}{nb:Option Nat}{M:List Tg}{a b:Nat}{ps:List Nat}{ls:List (List Nd)}{w w':zx}
theorem kG.below(c:kG B tb mp nb M a b ps ls w)(hb:aB w w'):kG B tb mp nb M a b ps ls w':=by obtain⟨o,l,m,vs,e,j,d,S,f,i,g⟩:=c.tm;exact⟨⟨o,l,m,vs,e,j,d,S,f,i.below hb,g⟩,c.low,c.first.at (hb.block mp c.first.lt),zs c.big hb.size,c.ne,c.mlow,c.short⟩
theorem kG.lits(c:kG B tb mp nb M a b ps ls w){v:U}{n i:Nat}{s:List U}(e:zq w i 55 2 v n s)(g:yh w w' (zv v)):kG B tb mp nb M a b ps ls w':=by obtain⟨r,p,q,vs,j,o,d,S,l,f,m⟩:=c.tm;exact⟨⟨r,p,q,vs,j,o,d,S,l,f.grown g (eX e f.box (by decide)) (dC f.rn e (by decide)) (dC f.re e (by decide)) (dC f.rl e (by decide)) (dC f.rs e (by decide)),m⟩,c.low,c.first.grown g (uA e c.first),zs c.big g.size,c.ne,c.mlow,c.short⟩
theorem kG.nbT(f:kG B tb mp nb M a b ps ls w){k:Nat}(c:nb=V k):∃e,w.heap[k]?=V (.cells e 52):=by
 obtain⟨u,s,t,vs,l,r,d,S,i,j,q⟩:=f.tm;rw[<-i]at c;obtain⟨_,⟨rfl,_⟩|⟨p,m,o,rfl,_,g,_⟩⟩:=j.rn
 .simp[zv]at c
 simp[zv]at c;subst c;exact⟨_,g⟩
theorem kG.pure(c:kG B tb mp nb M a b ps ls w):tF M a b ps ls:=by obtain⟨o,l,m,vs,e,j,d,S,_,_,i,f,g⟩:=c.tm;exact⟨e,j,d,S,i,f,g,c.low⟩
theorem kG.nodes(g:kG B tb mp nb M a b ps ls w)(A:Z M<=1000000):∀e∈ls,zR e/\∀n∈e,n.1.size<=140737488355328:=by
 obtain⟨H,F,G,vs,z,l,d,S,_,D,u,C,p⟩:=g.tm;have r:∀{ps:List Nat}{ls:List (List Nd)},aU (λi e=>aX (aF (M.map zu)) (λf x=>l f=l x) l [i] e) ps ls->(∀i∈ps,i<Z M)->∀e∈ls,∀n∈e,(aK n=zt/\∃f,f<Z (M.map zu)/\n=(⟨#[]⟩,(l f:Int)))\/(aK n=zl/\n∈M.map zu):=by
  intro ps ls g;induction g with
  |nil=>intro _ e hl;simp at hl
  |cons c _ ih=>
   intro q e hl;rcases List.mem_cons.1 hl with rfl|hl
   .exact bFu u.whole c (λf j=>by simp at j;subst j;simpa using q _ (by simp))
   exact ih (λi s=>q i (by simp[s])) e hl
 intro e hl;refine⟨λn m E=>?_,λn m=>?_⟩
 .rcases r p g.low e hl n m with⟨_,f,j,rfl⟩|⟨o,_⟩;all_goals grind[iJ.rt_lt]
 rcases r p g.low e hl n m with⟨_,f,j,rfl⟩|⟨_,o⟩
 .exact yr _
 obtain⟨y,t,rfl⟩:=List.mem_map.1 o;exact g.short y t
end
theorem aR8{C:Nat}{c e:Int}{a b:List Nd}(f:nX B tb C (aW c a++aW e b) w)(b5:aP a 1=zt)(b6:aP b 1=zt)(J:∀D∈aW c a++aW e b,D.2.1.size<=140737488355328)(a8:Z (aW c a++aW e b)<=1000000):Calls zp 58 #[pQ tb,iQ ((0:Nat):Int),iQ (Z a)] w λq w'=>∃u:Bool,q=.returned (.bool u)/\Below B w w'/\tE zr w w'/\
   (u=zt->∃b8,kG B tb C b8 (aW c a++aW e b) 0 (Z a) [] [] w')/\(u=zl->∀A:List (Int×Lt),(∀g∈A,aP g.2.2 1=zt)->¬nW ((aW c a++aW e b)++aL A) 0 (Z a)):=by
 obtain⟨F,N,P,vs,i⟩:=f.tm;have b3:(aW c a++aW e b).map zu=a++b:=by rw[zc,vU,vU]
 have l:Z ((aW c a++aW e b).map zu)=Z (aW c a++aW e b):=by simp
 have j:Z (aW c a++aW e b)=Z a+Z b:=by simp
 have d0:0<Z a:=by grind[iV.at,aP]
 have d1:0<Z b:=by grind[iV.at,aP]
 have a7:=i.toIn (by rw[rJ];simp) (by simp) (by rw[l];exact a8) (λn a9=>by obtain⟨D,b4,rfl⟩:=List.mem_map.1 a9;exact J D b4);refine(bF2 B tb F N P vs _ ((aW c a++aW e b).map zu) _ (cA (aW c a++aW e b)) _ f.whole (aIr _) (bFn _) (bFm _) _ 0 (Z a) w a7 (by rw[l,j];omega) (by rw[l,j];omega)).mono ?_;rintro q w' ⟨u,rfl,g⟩;have I:∀{v:U}{n:Nat}{Q:List U},zq w B 3 1 v n Q->∀(k:Nat) (p:Array U) (m:TypeId) (r:Nat×Nat),w.heap[k]?=V (.cells p m r)->m≠3->zv v≠V k:=by
  intro v n Q b0 k p m r y c7 q;obtain⟨_,⟨rfl,_⟩|⟨c6,c4,c5,rfl,_,c8,_⟩⟩:=b0
  .simp[zv]at q
  simp[zv]at q;grind
 refine⟨u,rfl,g.low,λk p m r y H _ _=>g.keep k (bA y) (I i.rl k p m r y H) (I i.rs k p m r y H),λz=>?_,λz A b2 b7=>?_⟩
 .obtain⟨T,X,x,a2,E,b9,c0,c1,M,c2,c3⟩:=g.st z;have a4:(λs t=>x s=x t)=cX (aW c a++aW e b) 0 (Z a):=by
   funext s t
   exact propext (M s t)
  have G:=(g.yes.1 z).2;have a3:gL (aF ((aW c a++aW e b).map zu)) (cX (aW c a++aW e b) 0 (Z a)):=Cl.isDown _ _;have a5:=bZ.same a3 G (Cl.base (ym ⟨rfl,rfl⟩));have a6:∀o,o<Z (aW c a++aW e b)->bZ (aF ((aW c a++aW e b).map zu)) (λs t=>x s=x t) o:=by
   intro o b1;rw[a4];rw[j]at b1;by_cases c9:o<Z a
   .refine aQg (λ_=>Cl.refl _) f.whole (i:=0) (by rw[l,j];omega) G o (yr _) ?_;rw[b3,List.drop_zero,zZ a 1 b b5];omega
   refine aQg (λ_=>Cl.refl _) f.whole (i:=Z a) (by rw[l,j];omega) a5 o (by omega) ?_;have:=zZ b 1 [] b6;grind
  refine⟨zv F,⟨⟨F,N,P,vs,T,x,a2,X,rfl,E.toRaw i.ne i.nl i.ns,⟨f.whole,by rw[E.lf,l],by rw[E.ls,l],b9,c0,c1,M,c2,c3,by rw[j];omega,by rw[j];omega⟩,a6,aU.nil⟩,by simp,f.first.at (g.keep C f.first.lt (uA i.rl f.first) (uA i.rs f.first)),zs f.big g.size,f.ne,f.mlow,J⟩⟩
 obtain⟨a0,a1⟩:=bFx A b2 f.whole b7;have:=g.yes.2 ⟨a0,a1 0 (by rw[j];omega)⟩;rw[z]at this;cases this
theorem tE.row{f:Option Nat}(r:tE f w w'){B:Nat}{e:TypeId}{s n:Nat}{v:U}{xs:List U}(p:zq w B e s v n xs)(i:e≠3)(j:e≠158)(o:∀k,zv v=V k->f≠V k):zq w' B e s v n xs:=by
 obtain⟨b,⟨rfl,l⟩|⟨g,cap,a,rfl,m,c,q⟩⟩:=p
 .exact⟨b,yv ⟨rfl,l⟩⟩
 exact⟨b,ym ⟨g,cap,a,rfl,m,by rw[r g a e (0,0) c i j (o g rfl)];exact c,q⟩⟩
structure rM(w0:zx)(B tb mp:Nat)(M0:List Tg)(a b:Nat)(R:List (Int×Lt))(v:U)(nb:Option Nat)(ls:List (List Nd))(Q:List (Lt×U))(wr:zx):Prop where
 con:kG B tb mp nb (M0++aL R) a b (bO (Z M0) R) ls wr
 len:Z R=Z ls
 made:Q.map Prod.fst=dS R ls
 row:zq wr B 55 2 v (Z Q) (bH Q)
 atoms:∀q∈Q,jB wr B q.2 q.1.2/\Z q.1.2<=500/\∀k,zv q.2=V k->nb≠V k
 low:Below B w0 wr
section
variable {w0 wr wb w2 w3 w5:zx}{B tb mp:Nat}{M0:List Tg}{a b:Nat}{R:List (Int×Lt)}{v v3 v5:U}{nb nb':Option Nat}{ls:List (List Nd)}{Q:List (Lt×U)}{o:Int}{x:Lt}{l:List Nd}
theorem rM.below(c:rM w0 B tb mp M0 a b R v nb ls Q wr)(hb:aB wr wb):rM w0 B tb mp M0 a b R v nb ls Q wb:=
 ⟨c.con.below hb,c.len,c.made,bF c.row hb (zo _),λf e=>⟨bF (c.atoms f e).1 hb (zo _),(c.atoms f e).2⟩,c.low.trans (hb.mono c.con.big)⟩
theorem rM.rows(c:rM w0 B tb mp M0 a b R v nb ls Q wr)(g:tE nb wr w2):zq w2 B 55 2 v (Z Q) (bH Q)/\∀e∈Q,jB w2 B e.2 e.1.2:=by refine⟨g.row c.row (by decide) (by decide) (λk m i=>?_),λe f=>g.row (c.atoms e f).1 (by decide) (by decide) (c.atoms e f).2.2⟩;obtain⟨p,j⟩:=c.con.nbT i;exact eX c.row j (by decide) m
theorem rM.add(e:rM w0 B tb mp M0 a b R v nb ls Q wr)(p:Below B wr w2)(q:aQz wr nb nb')(r:tE nb wr w2):(zq w2 B 55 2 v (Z Q) (bH Q)/\∀c∈Q,jB w2 B c.2 c.1.2/\Z c.1.2<=500/\∀k,zv c.2=V k->nb'≠V k)/\Below B w0 w2:=by
 obtain⟨s,t⟩:=e.rows r;refine⟨⟨s,λc f=>⟨t c f,(e.atoms c f).2.1,λk m i=>?_⟩⟩,e.low.trans p⟩;rcases q with j|⟨g,j,u⟩
 .exact(e.atoms c f).2.2 k m (by rw[<-j,i])
 rw[j]at i;simp at i;have:=(bS (e.atoms c f).1 k m).2;omega
theorem rM.put(A:Z R=Z ls)(T:Q.map Prod.fst=dS R ls)(g:zq w2 B 55 2 v (Z Q) (bH Q)/\∀c∈Q,jB w2 B c.2 c.1.2/\Z c.1.2<=500/\∀k,zv c.2=V k->nb≠V k)(P:Below B w0 w2)(p:kG B tb mp nb (M0++aL R++aW o x.2) a b (bO (Z M0) R) ls w2)
  (m:kG B tb mp nb (M0++aL R++aW o x.2) a b (bO (Z M0) R++[(M0++aL R).length]) (ls++[l]) w3) (hb:Below B w2 w3) (C:tE nb w2 w3) (I:Z l<=500) (y:zq w3 w2.heap.size 52 2 v3 (Z l) (aV l))
  {j:Obj} (H:zq w5 B 55 2 v5 (Z Q+1) (bH Q++[.bool x.1,v3])) (r:yh (w3.alloc j) w5 (zv v)):rM w0 B tb mp M0 a b (R++[(o,x)]) v5 nb (ls++[l]) (Q++[((x.1,l),v3)]) w5:=by
 have N:=p.big;have f:aB w3 (w3.alloc j):=aI _ j;have X:zq w3 B 55 2 v (Z Q) (bH Q):=C.row g.1 (by decide) (by decide) (λk s e=>by
  obtain⟨D,q⟩:=p.nbT e;exact eX g.1 q (by decide) s)
 have t:=bF X f (zo _);have z:∀{c:U}{i:List Nd}{u:Nat},zq w3 u 52 2 c (Z i) (aV i)->zq w5 u 52 2 c (Z i) (aV i):=λhq=>eW (bF hq f (zo _)) r (dC (bF hq f (zo _)) t (by decide))
 have E:M0++aL (R++[(o,x)])=M0++aL R++aW o x.2:=by rw[aR6,<-zh]
 have F:bO (Z M0) (R++[(o,x)])=bO (Z M0) R++[(M0++aL R).length]:=by rw[aR7,zn]
 refine⟨by rw[E,F];exact(m.below f).lits t r,by simp[A],?_,?_,?_,?_⟩
 .rw[zc,T,bG1 R ls A];rfl
 .have G:bH (Q++[((x.1,l),v3)])=bH Q++[.bool x.1,v3]:=by simp[bH]
  rw[G,zn];exact H
 .intro c hq;rcases List.mem_append.1 hq with hq|hq
  .exact⟨z (C.row (g.2 c hq).1 (by decide) (by decide) (g.2 c hq).2.2),(g.2 c hq).2⟩
  simp at hq;subst hq;refine⟨fM (z y) N,I,λk s e=>?_⟩;obtain⟨D,q⟩:=p.nbT e;have a0:=(bA q);have a1:=(bS y k s).1;omega
 have J:=P.trans hb;have M:=J.trans (f.mono m.big);exact M.grown r (by have:=m.big;simp;omega) (λk e=>(bS t k e).1)
end
theorem bG2{c:List Lt}{out:Nat}:∀(d a:Nat),a+d<=Z c->∃b,kT c out (a+d)=kT c out a++b:=by
 intro d;induction d with
 |zero=>intro a _;exact⟨[],by simp⟩
 |succ d ih=>
  intro a e;obtain⟨b,f⟩:=ih a (by omega);grind[aR3,aR2,zh]
theorem bG3:∀(a c:List (List Lt×Nat)) (b:Nat),bY b (a++c)=bY b a++bY (b+Z a) c:=by
 intro a;induction a with
 |nil=>intro c b;simp[bY]
 |cons x a ih=>
  grind[bY,zh,zd]
theorem xM:∀(a:List (List Lt×Nat)) (c:Nat) (b:Int×Lt),b∈bY c a->∃e∈a,b.2∈e.1:=by
 intro a;induction a with
 |nil=>intro c b f;simp[bY]at f
 |cons e a ih=>
  grind[yo,bY]
theorem aEy:∀(a:List (List Lt×Nat)) (b:Nat),(∀c∈a,Z c.1<=8)->Z (bY b a)<=8*Z a:=by
 intro a;induction a with
 |nil=>intro b _;simp[bY]
 |cons c a ih=>
  grind[bY,zn,zd,yn,yx]
theorem bG4(c:List Lt)(out a:Nat):Z (kT c out a)<=a:=by grind[kT,yn]
theorem bG5{a:List (List Lt×Nat)}(e:k<Z a){j:Nat}(l:j<=a[k].1.length):∃b,bY 0 a=(bY 0 (a.take k)++(kT a[k].1 a[k].2 j).map λg=>((k:Int),g))++b:=by obtain⟨b,f⟩:=bG2 (c:=a[k].1) (out:=a[k].2) (a[k].1.length-j) j (by omega);rw[show j+(a[k].1.length-j)=a[k].1.length by omega,aR4]at f;have i:=aR5 a 0 k e;grind[bY,bG3,zh,z8]
theorem bG6{b:List Tg}{g i:Nat}{a:List (Int×Lt)}{c:List (List Nd)}(p:tF (b++aL R) g i (bO (Z b) R) c)(u:∀l∈a,aP l.2.2 1=zt){f:List Nd}(r:f∈c)(q:500<Z f):fD b g i (R++a) [] zl 4:=by
 obtain⟨j,e⟩:=tF.all a p u;have m:b++aL R++aL a=b++aL (R++a):=by simp[aL]
 have o:bO (Z b) R++bO (Z (b++aL R)) a=bO (Z b) (R++a):=by
  have x:∀(R a:List (Int×Lt)) (n:Nat),bO n R++bO (n+Z (aL R)) a=bO n (R++a):=by
   intro R;induction R with
   |nil=>intro a n;simp[bO,aL]
   |cons l R ih=>
    grind[bO,aEx,Nat.add_assoc]
  rw[zn];exact x R a (Z b)
 rw[m,o]at e;have s:Z (R++a)=Z (c++j):=by obtain⟨_,_,_,_,_,_,y,_⟩:=e;grind[aU.length,yN]
 obtain⟨z,t⟩:=aR1 (R++a) (c++j) s f (List.mem_append.2 (yv r));exact e.out.1 (aIu t q)
section
structure CoR(w0:zx)(B:Nat)(M0:List Tg)(a b:Nat)(rest:List (Int×Lt))(v:U)(yes:Bool)(er:Int)(w':zx):Prop where
 out:∃out,fD M0 a b rest out yes er/\bP B w' v out/\Z out<=100
 low:Below B w0 w'
def CoQ(j:zx)(B:Nat)(c:List Tg)(e f:Nat)(i:List (Int×Lt))(g:Ending)(w':zx):Prop:=∃v b a,g=.returned (.tuple #[v,.bool b,iQ a])/\CoR j B c e f i v b a w'
theorem aR9(b:∀a∈R,Z a.2.2<=60):Z (aL R)<=60*Z R:=by
 induction R with
 |nil=>simp[aL]
 |cons a R ih=>
  grind[aEx]
theorem bG7{a:List (Lt×U)}(c:(a.map λb=>zv b.2).Nodup):((a.map zu).filterMap zv).Nodup:=by grind
theorem aAd{a:List Lt}{m:Nat}(c:∀b∈a,Z b.2<=m):aY a<=m*Z a:=by
 induction a with
 |nil=>simp[aY]
 |cons b r ih=>
  grind[aY,zd,Nat.mul_add]
structure vW(w0:zx)(B tb mp:Nat)(M0:List Tg)(a b pb:Nat)(pc:Array U)(R:List (Int×Lt))(v:U)(wr:zx):Prop where
 st:∃nb ls Q,rM w0 B tb mp M0 a b R v nb ls Q wr
 prem:wr.heap[pb]?=V (.cells pc 120)
theorem vW.below{w0 wr j:zx}{g:Nat}{c:List Tg}{e f b:Nat}{i:Array U}(a:vW w0 B tb g c e f b i R v wr)(hb:aB wr j):vW w0 B tb g c e f b i R v j:=by obtain⟨p,o,l,m⟩:=a.st;exact⟨⟨p,o,l,m.below hb⟩,by rw[hb.block b (bA a.prem)];exact a.prem⟩
theorem tE.at{nb:Option Nat}(j:tE nb w w'){k:Nat}{cs:Array U}{T:TypeId}(b:w.heap[k]?=V (.cells cs T))(c:T≠3)(f:T≠158)(g:T≠52)(i:∀k,nb=V k->∃cs,w.heap[k]?=V (.cells cs 52)):w'.heap[k]?=V (.cells cs T):=by
 rw[j k cs T (0,0) b c f (λe=>by
  obtain⟨l,a⟩:=i k e;rw[b]at a;simp at a;exact g a.2)]
 exact b
theorem aRa(G:zx)(B tb b9:Nat)(l:List Tg)(Q T N o4:Nat)(a3:Array U)(c6:Nat->Option Addr)(e7:Nat->Nat)(a:List (List Lt×Nat))(w:zx)(e9:vW G B tb b9 l Q T N a3 [] (nQ) w)(p1:G.heap.size=B)
  (d0:∀k (e9:k<Z a),a3[k*2]?=V (.slice (c6 k) a[k].1.length (e7 k))/\a3[k*2+1]?=V (iQ a[k].2)/\bU G (c6 k) a[k].1/\a[k].2<a[k].1.length/\a[k].1.length<=8/\∀e∈a[k].1,aP e.2 1=zt/\Z e.2<=60) (f0:Z a<=2) (p3:Z l<=120):Calls zp 60 #[pQ tb,sQ N (Z a) o4] w λf w'=>CoQ G B l Q T (bY 0 a) f w':=by
 have l5:=O e9;have a4:=O d0;clear e9 d0;go_enter Tryz.func60,Tryz.ntmps60;go_wp2;go_loopw[7,16] (λv o wr=>∃k:Nat,k<=Z a/\o=iQ k/\vW G B tb b9 l Q T N a3 (bY 0 (a.take k)) v wr) (λ_ o _=>Z a-(intOf o).toNat);exact⟨0,yr _,rfl,by simpa[bY]using l5.o⟩;obtain⟨k,j7,rfl,a0⟩:=hrel;by_cases g4:k<Z a
 .obtain⟨k8,k9,l0,q7,q8,l1⟩:=a4.o k g4;have q0:(k:Int)<(Z a:Int):=by omega
  have E:zg wr (aQ N (k*2))=V (.slice (c6 k) a[k].1.length (e7 k)):=by simp[zg,a0.prem,k8]
  have I:zg wr (aQ N (k*2+1))=V (iQ a[k].2):=by simp[zg,a0.prem,k9]
  have m7:=O a0;have i1:=O l0;have i7:=O l1;have i6:=O (aR5 a 0 k g4);rw[Nat.zero_add]at i6;have m4:=O (λb j5=>bG5 g4 (j:=b) j5);generalize a[k].1=c at *;generalize a[k].2=out at *;clear a0 k8 k9 l0 l1;obtain⟨c7,i9⟩:∃e,c6 k=e:=⟨_,rfl⟩;rw[i9]at E i1;obtain⟨X,j4⟩:∃e,e7 k=e:=⟨_,rfl⟩;rw[j4]at E;clear i9 j4;go_wp2;clear E I;have j0:aB wr (wr.alloc (.cells #[.slice c7 (Z c) X,iQ out] 120)):=aI _ _;have m8:=O (m7.o.below j0);have j2:(wr.alloc (.cells #[.slice c7 (Z c) X,iQ out] 120)).heap[wr.heap.size]?=V (.cells #[.slice c7 (Z c) X,iQ out] 120):=by show (wr.heap.push _)[wr.heap.size]?=_;simp
  have l2:=O j2;clear j0 j2;go_loopw[7,24] (λv o j=>∃b:Nat,b<=Z c/\o=iQ b/\vW G B tb b9 l Q T N a3 (bY 0 (a.take k)++(kT c out b).map λt=>((k:Int),t)) v j/\j.heap[wr.heap.size]?=V (.cells #[.slice c7 (Z c) X,iQ out] 120)) (λ_ o _=>Z c-(intOf o).toNat);exact⟨0,yr _,rfl,by simpa[bG0]using m8.o,l2.o⟩;obtain⟨b,j5,rfl,J,F⟩:=hrel;rename zx=>j
  by_cases g0:b<Z c
  .have p7:(b:Int)<(Z c:Int):=by omega
   obtain⟨o2,g,P,q⟩:=J.st;obtain⟨e6,h5,C,D,rfl,E,e8,c8⟩:=i1.o.cell b g0;have I:=Below.at' q.low (by omega) E;have p0:=Below.at' q.low (by omega) e8;obtain⟨r1,r2⟩:zg j (aQ wr.heap.size 0)=V (.slice (V (aQ e6 h5)) (Z c) X)/\zg j (aQ wr.heap.size 1)=V (iQ out):=⟨by simp[zg,F],by simp[zg,F]⟩;have o1:wr.heap.size<j.heap.size:=(bA F);by_cases j6:b=out
   .subst j6;have e5:=O (J.below (aI j (.cells #[.bool c[b].1,.slice C c[b].2.length D] 55)));have l3:aE ((j.alloc (.cells #[.bool c[b].1,.slice C c[b].2.length D] 55)).heap[wr.heap.size]?=V (.cells #[.slice (V (aQ e6 h5)) (Z c) X,iQ b] 120)):=O (by rw[(aI j _).block _ (bA F)];exact F);have m3:=O (aR2 g0);clear J F q E e8 c8;go_wp2;exact⟨⟨b+1,by omega,by go_num,by rw[m3.o];exact e5.o,l3.o⟩,by simp[intOf];omega⟩
   have p8:¬((b:Int)=(out:Int)):=by omega
   obtain⟨c0,q9⟩:=i7.o c[b] (zf _);have b4:∀A∈bY 0 (a.take k)++(kT c out b).map λt=>((k:Int),t),Z A.2.2<=60:=by
    intro A hr;rcases List.mem_append.1 hr with hr|hr
    .obtain⟨r,m,b6⟩:=xM _ _ A hr;obtain⟨o,y,rfl⟩:=zm (yy m);exact((a4.o o y).2.2.2.2.2 _ b6).2
    obtain⟨t,g1,rfl⟩:=List.mem_map.1 hr;exact(i7.o t (yy (yo g1))).2
   have i8:Z (bY 0 (a.take k)++(kT c out b).map λt=>((k:Int),t))<=24:=by
    have a5:=aEy (a.take k) 0 (λr m=>by
     obtain⟨o,y,rfl⟩:=zm (yy m);exact(a4.o o y).2.2.2.2.1)
    have f0:=bG4 c out b;simp at a5 ⊢;omega
   have f4:bY 0 (a.take k)++(kT c out (b+1)).map (λt=>((k:Int),t))=(bY 0 (a.take k)++(kT c out b).map λt=>((k:Int),t))++[((k:Int),c[b])]:=by rw[aR3 g0 j6,zc,zh];rfl
   obtain⟨o5,d1⟩:=m4.o (b+1) (by omega);have m2:=O f4;rw[f4]at d1;have m5:=O d1;have m6:aE (∀A∈o5,aP A.2.2 1=zt):=O λA hr=>by
    obtain⟨r,m,b6⟩:=xM a 0 A (by rw[d1];exact List.mem_append.2 (ym hr));obtain⟨o,y,rfl⟩:=zm m;exact((a4.o o y).2.2.2.2.2 _ b6).1
   have g3:=aR9 b4;clear f4 d1 b4;generalize bY 0 (a.take k)++(kT c out b).map (λt=>((k:Int),t))=R at *;have c9:Z (l++aL R)<=2000:=by simp;omega
   have b5:aB j (j.alloc (.cells #[.bool c[b].1,.slice C c[b].2.length D] 55)):=aI _ _;have f5:=q.below b5;have j1:(j.alloc (.cells #[.bool c[b].1,.slice C c[b].2.length D] 55)).heap[j.heap.size]?=V (.cells #[.bool c[b].1,.slice C c[b].2.length D] 55):=by show (j.heap.push _)[j.heap.size]?=_;simp
   have j3:(j.alloc (.cells #[.bool c[b].1,.slice C c[b].2.length D] 55)).heap[wr.heap.size]?=V (.cells #[.slice (V (aQ e6 h5)) (Z c) X,iQ out] 120):=by rw[b5.block _ o1];exact F
   have k3:(j.alloc (.cells #[.bool c[b].1,.slice C c[b].2.length D] 55)).heap[N]?=V (.cells a3 120):=by rw[b5.block _ (bA J.prem)];exact J.prem
   have q3:0<c[b].2.length:=by
    cases hc0:c[b].2 with
    |nil=>rw[hc0]at c0;simp[aP]at c0
    |cons=>simp
   have d6:=O (bFv f5.con (k:Int) C D c[b].2 ((c8.below q.low (by omega)).below b5 (zo _)) c0 (λo3 d0=>by have:=aAc c8 c0 o3 d0;omega) (by omega) (by omega));have H:=O f5;have d9:=O (yz j1 (yz j3 k3));have q2:(j.alloc (.cells #[.bool c[b].1,.slice C c[b].2.length D] 55)).heap.size=j.heap.size+1:=by simp
   clear J F q E e8 c8 f5 b5 j1 j3 k3 c0;generalize c[b]=e at *;have n7:Z (l++aL R++aW (k:Int) e.2)=Z (l++aL R)+Z e.2:=by rw[zn,yx]
   have g5:Z (l++aL R)<Z (l++aL R++aW (k:Int) e.2):=by omega
   have j9:Z (l++aL R++aW (k:Int) e.2)<=1000000:=by omega
   obtain⟨c5,f3⟩:∃c5,Z (l++aL R)=c5:=⟨_,rfl⟩;rw[f3]at d6 g5;have i2:=O (yz g5 j9);have i4:=O f3;clear n7 g5 j9 c9 g3 f3;go_upto_region 10 with(first
    |(go_at_call 98;refine(aD h7).mono ?_;rintro f p ⟨r0,o7,rfl,M,q6,k5,a2,k6,k1⟩;have e0:=O M;have b0:=O k5;have m9:=O k6;have l8:=O k1;clear M k5 k6 k1)
    |(go_at_call 59;refine(aD d6).mono ?_;rintro f s ⟨rfl,u,f9,f8,k0,b8⟩;have c2:=O (H.o.add f8 k0 b8);have e1:=O (yz (b8.at d9.o.1 (by decide) (by decide) (by decide) (λ_ f=>H.o.con.nbT f)) (yz (b8.at d9.o.2.1 (by decide) (by decide) (by decide) (λ_ f=>H.o.con.nbT f)) (b8.at d9.o.2.2 (by decide) (by decide) (by decide) (λ_ f=>H.o.con.nbT f))));have q4:=f8.size;have a8:=O f9;have h7:=O (bFw f9 c5 i2.o.1 i2.o.2);clear f8 k0 b8 f9)
    |go_in)
   have d2:=yz (b0.o.at e1.o.1 (by decide) (by decide) (by decide) (λ_ f=>a8.o.nbT f)) (yz (b0.o.at e1.o.2.1 (by decide) (by decide) (by decide) (λ_ f=>a8.o.nbT f)) (b0.o.at e1.o.2.2 (by decide) (by decide) (by decide) (λ_ f=>a8.o.nbT f)));obtain⟨r3,r4⟩:zg p (aQ j.heap.size 0)=V (.bool e.1)/\zg p (aQ j.heap.size 1)=V (.slice C (Z e.2) D):=⟨by simp[zg,d2.1],by simp[zg,d2.1]⟩;have h9:=O d2;clear d2 h7 d6;cases o7 with
   |false=>
    obtain⟨h3,k7,a7⟩:=l8.o rfl;subst h3;have a6:=a7.pure;have E:l++aL R++aW (k:Int) e.2=l++aL (R++[((k:Int),e)]):=by rw[aR6,<-zh]
    have I:bO (Z l) R++[c5]=bO (Z l) (R++[((k:Int),e)]):=by rw[aR7,<-i4.o,zn]
    rw[E,I]at a6;have l7:aE (fD l Q T (bY 0 a) [] zl 4):=O (by rw[m5.o];exact bG6 a6 m6.o (List.mem_append.2 (ym (List.mem_singleton.2 rfl))) k7);have e2:=O (c2.o.2.trans e0.o);clear a7 a6 E I;go_wp2;go_returns;exact⟨_,_,_,rfl,⟨⟨[],l7.o,bP.nil _ _,by simp⟩,e2.o⟩⟩
   |true=>
    obtain⟨h3,k7,a7,d3⟩:=m9.o rfl;rw[<-i4.o]at d3;obtain⟨b1,b2,rfl⟩:=aZ a7;have g9:zq p B 55 2 u7 (Z P) (bH P):=b0.o.row c2.o.1.1 (by decide) (by decide) (λk j7 f=>by
     obtain⟨b3,n3⟩:=a8.o.nbT f;exact eX c2.o.1.1 n3 (by decide) j7)
    have p4:Z P<=24:=by have a5:=congrArg Z H.o.made;have f0:=H.o.len;simp[dS]at a5;omega
    obtain⟨d4,d5,o0⟩:=aZ g9;subst o0;have i5:=O g9;have p2:B<=p.heap.size:=d3.big;have l9:=O a7;have m0:=O d3;clear g9 a7 d3;generalize hql:Z P=ql at *;have m1:=O hql;clear hql;go_wp2_with(first
     |(at_builtin;refine eU qJ Tryz.underlying36 (i5.o.alloc _) ?_;intro o6 h6 b7 a1 _;have a9:=O b7;have l4:=O a1;clear b7 a1)
     |go_in)
    have q5:=e0.o.size;have f2:aB p (p.alloc (.cells #[.bool e.1,.slice b1 (Z a2) b2] 55)):=aI _ _;have k4:zq (p.alloc (.cells #[.bool e.1,.slice b1 (Z a2) b2] 55)) B 55 2 (.slice d4 ql d5) ql (bH P):=bF i5.o f2 (zo _);have a1:yh (p.alloc (.cells #[.bool e.1,.slice b1 (Z a2) b2] 55)) h6 (zv (Value.slice d4 ql d5)):=l4.o;have h2:∀{r:Nat}{b3:Array U},p.heap[r]?=V (.cells b3 120)->h6.heap[r]?=V (.cells b3 120):=by
     intro r b3 m;have g8:(p.alloc (.cells #[.bool e.1,.slice b1 (Z a2) b2] 55)).heap[r]?=V (.cells b3 120):=by rw[f2.block r (bA m)];exact m
     rw[a1.block r (bA g8) (λf=>eX k4 g8 (by decide) f.symm)];exact g8
    have l6:aE (rM G B tb b9 l Q T (R++[((k:Int),e)]) o6 u (g++[a2]) (P++[((e.1,a2),.slice b1 (Z a2) b2)]) h6):=O (by
     have n6:=H.o.len;have n8:=H.o.made;have f6:=c2.o;have b7:=a9.o;rw[<-m1.o]at f6 b7 a1;exact rM.put (x:=e) n6 n8 f6.1 f6.2 a8.o m0.o e0.o b0.o h3 l9.o b7 a1)
    have i0:=O (yz (h2 h9.o.2.1) (h2 h9.o.2.2));clear f2 k4 a1 h2;exact⟨⟨b+1,by omega,by go_num,⟨⟨_,_,_,by rw[m2.o];exact l6.o⟩,i0.o.2⟩,i0.o.1⟩,by simp[intOf];omega⟩
  have n4:b=Z c:=by omega
  subst n4;have p6:¬((Z c:Int)<(Z c:Int)):=by omega
  have e5:aE (vW G B tb b9 l Q T N a3 (bY 0 (a.take (k+1))) u7 j):=O (by rw[i6.o,<-aR4];exact J);clear J F;go_wp2;exact⟨⟨k+1,by omega,by go_num,e5.o⟩,by simp[intOf];omega⟩
 have n5:k=Z a:=by omega
 subst n5;have p9:¬((Z a:Int)<(Z a:Int)):=by omega
 rw[z9]at a0;obtain⟨o2,g,P,q⟩:=a0.st;have b4:∀A∈bY 0 a,Z A.2.2<=60:=by intro A hr;obtain⟨r,m,b6⟩:=xM _ _ A hr;obtain⟨o,y,rfl⟩:=zm m;exact((a4.o o y).2.2.2.2.2 _ b6).2
 have i8:=aEy a 0 (λr m=>by
  obtain⟨o,y,rfl⟩:=zm m;exact(a4.o o y).2.2.2.2.1)
 have g3:=aR9 b4;have c9:Z (l++aL (bY 0 a))<=1000000:=by simp;omega
 have g7:=q.con.nodes c9;have a6:=q.con.pure.out;have p5:Z (dS (bY 0 a) g)<=16:=by simp[dS];omega
 have g6:∀e∈dS (bY 0 a) g,e.2∈g:=by intro e z;unfold dS at z;rw[List.mem_iff_getElem]at z;obtain⟨o,y,rfl⟩:=z;simp at y ⊢
 have f1:∀e∈dS (bY 0 a) g,Z e.2<=500:=by intro e z;rw[<-q.made]at z;obtain⟨r,m,rfl⟩:=List.mem_map.1 z;exact(q.atoms r m).2.1
 have n2:=aAd f1;have h0:vD (dS (bY 0 a) g):=λe z=>⟨by have:=f1 e z;omega,(g7 e.2 (g6 e z)).2⟩
 obtain⟨d4,d5,rfl,j8⟩:=aHe q.made q.row (λr m=>(q.atoms r m).1) (by omega) h0;have h8:=O (aNg d4 d5 (dS (bY 0 a) g) wr j8 (λe z=>(g7 e.2 (g6 e z)).1) (by omega) (by omega));have q1:Z (bB (dS (bY 0 a) g))<=16:=by have a5:=(sC (dS (bY 0 a) g)).1;have f0:=(sD (eG (dS (bY 0 a) g))).1;unfold bB;omega
 have k2:vD (bB (dS (bY 0 a) g)):=h0.ord;have e4:=O a6;have e2:=O q.low;have c3:=O q.con.big;have d7:=O (λ(s:zx) (c1:U) (u:Nat) (x:List (Lt×U)) (i:zU wr (dS (bY 0 a) g) c1 u x s)=>(show Calls zp 57 #[sQ u (Z (bB (dS (bY 0 a) g))) (Z (bB (dS (bY 0 a) g)))] s λf w'=>f=.returned (iQ (aY (bB (dS (bY 0 a) g))))/\aB s w' from by
  have g2:Z x=Z (bB (dS (bY 0 a) g)):=by rw[<-i.made];simp
  obtain⟨o8,o9,I,g1⟩:=aHe i.made (by have:=i.row;rw[<-g2]at this;exact this) i.atoms (by omega) k2;simp at I;obtain⟨rfl,_⟩:=I;exact aGt _ _ _ s g1 (by omega)))
 have i3:=O (λ(s p:zx) (c1:U) (u:Nat) (x:List (Lt×U)) (i:zU wr (dS (bY 0 a) g) c1 u x s) (f7:aB s p)=>(show bP B p (sQ u (Z (bB (dS (bY 0 a) g))) (Z (bB (dS (bY 0 a) g)))) (bB (dS (bY 0 a) g))/\Below B G p from by
  have g2:Z x=Z (bB (dS (bY 0 a) g)):=by rw[<-i.made];simp
  refine⟨⟨x,i.made,?_,λr m=>fM (bF (i.atoms r m) f7 (zo _)) c3.o,bG7 i.once⟩,(e2.o.trans (i.low.mono c3.o)).trans (f7.mono (zs c3.o i.low.size))⟩;have a5:=fM (bF i.row f7 (zo _)) c3.o;rw[g2];exact a5))
 clear a0 q a6 g7 g6 f1 h0 j8 n2 k2 c9 g3 b4 i8;generalize dS (bY 0 a) g=cc at *;obtain⟨h4,n9⟩:∃n,aY (bB cc)=n:=⟨_,rfl⟩;rw[n9]at d7 e4;by_cases n0:500<h4
 .have n1:(500:Int)<(h4:Int):=by omega
  have a9:=O (e4.o.1 n0);go_wp2_with(first
   |(go_at_call 52;refine(aD h8).mono ?_;rintro f s ⟨c1,u,x,rfl,i⟩;have h1:=i.val;subst h1;have e3:=O i;have d8:=O (d7.o s _ u x i);clear i)
   |(go_at_call 57;refine(aD d8).mono ?_;rintro f p ⟨rfl,M⟩;have c4:=O (i3.o s p _ u x e3.o M);clear M)
   |go_in)
  go_returns;exact⟨_,_,_,rfl,⟨⟨[],a9.o,bP.nil _ _,by simp⟩,c4.o.2⟩⟩
 have n1:¬((500:Int)<(h4:Int)):=by omega
 have a9:=O (e4.o.2 (by omega));go_wp2_with(first
  |(go_at_call 52;refine(aD h8).mono ?_;rintro f s ⟨c1,u,x,rfl,i⟩;have h1:=i.val;subst h1;have e3:=O i;have d8:=O (d7.o s _ u x i);clear i)
  |(go_at_call 57;refine(aD d8).mono ?_;rintro f p ⟨rfl,M⟩;have c4:=O (i3.o s p _ u x e3.o M);clear M)
  |go_in)
 go_returns;exact⟨_,_,_,rfl,⟨⟨_,a9.o,c4.o.1,by omega⟩,c4.o.2⟩⟩
theorem nX.below{b:Nat}{c:List Tg}(a:nX B tb b c w)(hb:aB w w'):nX B tb b c w':=by obtain⟨i,f,g,vs,e⟩:=a.tm;exact⟨⟨i,f,g,vs,e.below hb⟩,a.first.at (hb.block b a.first.lt),a.whole,zs a.big hb.size,a.ne,a.mlow⟩
theorem CoR.lift{b:zx}{c:List Tg}{e f:Nat}{j:List (Int×Lt)}{l:Bool}{g:Int}(i:CoR b b.heap.size c e f j v l g w')(a:aB w b):CoR w w.heap.size c e f j v l g w':=by obtain⟨r,o,⟨m,t,u,x,y⟩,p⟩:=i.out;exact⟨⟨r,o,⟨m,t,fM u a.size,λs q=>fM (x s q) a.size,y⟩,p⟩,bE a i.low⟩
theorem aRb(c2 c3:Option Addr)(l o:Nat)(a d:List Lt)(b c:Nat)(w:zx)(G:bU w c2 a)(H:bU w c3 d)(I:∀f∈a,aP f.2 1=zt/\Z f.2<=60)(J:∀f∈d,aP f.2 1=zt/\Z f.2<=60)(d9:b<Z a)(e0:c<Z d)(d6:Z a<=8)(d8:Z d<=8):Calls zp 33 #[.slice c2 (Z a) l,iQ b,.slice c3 (Z d) o,iQ c] w λg w'=>CoQ w w.heap.size (aW 0 a[b].2++aW 1 d[c].2) 0 a[b].2.length (bY 0 [(a,b),(d,c)]) g w':=by
 obtain⟨q,y,c4,c5,rfl,f9,E,c8⟩:=G.cell b d9;obtain⟨r,z,c6,c7,rfl,g0,F,c9⟩:=H.cell c e0;obtain⟨b1,g7⟩:=I a[b] (zf _);obtain⟨b2,i0⟩:=J d[c] (zf _);have h5:=aAd (m:=60) (λf a7=>(I f a7).2);have h7:=aAd (m:=60) (λf a7=>(J f a7).2);have b5:=O (aDn _ l a w G d6);have b6:=O (λ(e:zx) (t:aB w e)=>aDn _ o d e (H.below t (zo _)) d8);have b7:=O (λ(e:zx)=>aQy (aY a+aY d) (by omega) e);have e8:=O G;have e9:=O H;have b9:=O I;have c0:=O J;have P:=O c8;have Q:=O c9;have h4:(b:Int)<(Z a:Int):=by omega
 have h6:(c:Int)<(Z d:Int):=by omega
 have h8:a[b].2.length<=60:=g7;clear G H I J c8 c9 f9 g0;go_enter Tryz.func33,Tryz.ntmps33;go_upto_region 2 with(first
  |(go_at_call 56;refine(aD b7 _).mono ?_;rintro g N ⟨tb,x,i5,i3,i4,vs,rfl,d3⟩;have D:=O d3;clear d3)
  |(go_at_call 57;refine(aD b6 g8 b8.o).mono ?_;rintro g i ⟨rfl,d5⟩;have p:=O (bE b8.o d5);clear d5)
  |(go_at_call 57;refine(aD b5).mono ?_;rintro g g8 ⟨rfl,d4⟩;have b8:=O d4;clear d4)
  |go_in)
 have A:=O (bE p.o D.o.low);have f1:=O (nX.new D.o);have a8:=p.o.size;have g2:=D.o.low.size;have b3:=O (λ(e:zx) (s:nX i.heap.size tb x [] e) (t:aB w e)=>aEw s 0 c4 c5 a[b].2 (P.o.below t (zo _)) b1 (λa9 a5=>by have:=aAc P.o b1 a9 a5;omega) (by simp;omega) (by omega));have b4:=O (λ(e:zx) (s:nX i.heap.size tb x ([]++aW 0 a[b].2) e) (t:aB w e)=>aEw s 1 c6 c7 d[c].2 (Q.o.below t (zo _)) b2 (λa9 a5=>by have:=aAc Q.o b2 a9 a5;omega) (by simp;omega) (by omega));have e7:=O (λ(e:zx) (s:nX i.heap.size tb x (aW 0 a[b].2++aW 1 d[c].2) e)=>aR8 s b1 b2 (λi1 ht=>by
  rcases List.mem_append.1 ht with ht|ht
  .obtain⟨n,a4,rfl⟩:=List.mem_map.1 ht;obtain⟨k,u,rfl⟩:=zm a4;exact P.o.short k u
  obtain⟨n,a4,rfl⟩:=List.mem_map.1 ht;obtain⟨k,u,rfl⟩:=zm a4;exact Q.o.short k u) (by simp;omega))
 have h2:=aC A.o E;have h3:=aC A.o F;rw[show (Z ([]:List Tg):Int)=((0:Nat):Int) from rfl]at b3;rw[show (Z ([]++aW 0 a[b].2:List Tg):Int)=((a[b].2.length:Nat):Int) by simp]at b4;clear b5 b6 b7;go_region_held3 (λw'=>cQ w' q (y+b*2+1) (.slice c4 a[b].2.length c5)/\cQ w' r (z+c*2+1) (.slice c6 d[c].2.length c7)) (first|exact⟨aC X.o E,aC X.o F⟩|exact⟨aC T.o E,aC T.o F⟩|exact⟨aC C.o E,aC C.o F⟩|go_keep) (first
  |(go_at_call 58;refine(aD e7 h0 f3.o).mono ?_;rintro g j ⟨g5,rfl,a3,e3,e5,e2⟩;have X:=O (T.o.trans (a3.mono a8));have c1:=O (f5.o.trans a3);have f8:=O e5;have f6:=O e2;have h1:=O e3;clear a3 e3 e5 e2)
  |(go_at_call 59;refine(aD b4 g9 f2.o C.o).mono ?_;rintro g h0 ⟨rfl,d2,a2⟩;have f3:=O d2;have T:=O (C.o.trans (a2.mono a8));have f5:=O (f4.o.trans a2);clear d2 a2)
  |(go_at_call 59;refine(aD b3 N.drew (f1.o.below (aN ⟨1,rfl⟩)) (A.o.trans ((aN (w1:=N.drew) ⟨1,rfl⟩).mono (by omega)))).mono ?_;rintro g g9 ⟨rfl,d1,a1⟩;have f2:=O d1;have f4:=O ((D.o.low.trans ((aN (w1:=N.drew) ⟨1,rfl⟩).mono g2)).trans a1);have C:=O ((A.o.trans ((aN (w1:=N.drew) ⟨1,rfl⟩).mono (by omega))).trans (a1.mono a8));clear d1 a1))
 have a6:∀b0∈bY 0 [(a,b),(d,c)],aP b0.2.2 1=true:=by
  intro b0 g1;obtain⟨g6,M,e1⟩:=xM _ _ b0 g1;simp at M;rcases M with rfl|rfl
  .exact(b9.o _ e1).1
  exact(c0.o _ e1).1
 cases g5 with
 |false=>
  have f7:aE (fD (aW 0 a[b].2++aW 1 d[c].2) 0 a[b].2.length (bY 0 [(a,b),(d,c)]) [] zl 0):=O (yv ⟨f6.o rfl _ a6,rfl,rfl,rfl⟩);clear a6;go_wp2;go_returns;exact⟨_,_,_,rfl,⟨⟨[],f7.o,bP.nil _ _,by simp⟩,X.o⟩⟩
 |true=>
  obtain⟨g4,d7⟩:=f8.o rfl;have a0:aB j (j.alloc (.cells #[.slice (V (aQ q y)) (Z a) l,iQ b,.slice (V (aQ r z)) (Z d) o,iQ c] 120)):=aI _ _;have g3:=c1.o.size;have e4:vW i i.heap.size tb x (aW 0 a[b].2++aW 1 d[c].2) 0 a[b].2.length j.heap.size #[.slice (V (aQ q y)) (Z a) l,iQ b,.slice (V (aQ r z)) (Z d) o,iQ c] [] (nQ) (j.alloc (.cells #[.slice (V (aQ q y)) (Z a) l,iQ b,.slice (V (aQ r z)) (Z d) o,iQ c] 120)):=
   ⟨⟨g4,[],[],⟨by simpa[aL,bO]using d7.below a0,rfl,rfl,yg _ _ _ _,λg6 M=>by simp at M,c1.o.trans (a0.mono g3)⟩⟩,by show (j.heap.push _)[j.heap.size]?=_;simp⟩
  have e6:=O (aRa i i.heap.size tb x (aW 0 a[b].2++aW 1 d[c].2) 0 a[b].2.length j.heap.size 2 _ (λk=>if k=0 then V (aQ q y) else V (aQ r z)) (λk=>if k=0 then l else o) [(a,b),(d,c)] _ e4 rfl (λk u=>by
   match k,u with
   |0,_=>exact⟨rfl,rfl,e8.o.below p.o (zo _),d9,d6,b9.o⟩
   |1,_=>exact⟨rfl,rfl,e9.o.below p.o (zo _),e0,d8,c0.o⟩) (by simp) (by simp;omega))
  clear a6 d7 e4 a0;go_wp2_with(first
   |(go_at_call 60;refine(aD e6).mono ?_;rintro g i6 ⟨i2,i7,h9,rfl,d0⟩;have f0:=O (d0.lift p.o);clear d0)
   |go_in)
  go_returns;exact⟨_,_,_,rfl,f0.o⟩
theorem bG8(b3:Option Addr)(l:Nat)(a:List Lt)(b c:Nat)(w:zx)(p:bU w b3 a)(r:∀F∈a,aP F.2 1=zt/\Z F.2<=60)(e7:b<Z a)(c8:c<Z a)(c6:Z a<=8):Calls zp 156 #[.slice b3 (Z a) l,iQ b,iQ c] w λf w'=>CoQ w w.heap.size (aW 0 a[b].2++aW 0 a[c].2) 0 a[b].2.length (bY 0 [(a,c)]) f w':=by
 obtain⟨j,o,b4,b5,rfl,e5,A,b8⟩:=p.cell b e7;obtain⟨g0,g7,b6,b7,c5,e6,C,b9⟩:=p.cell c c8;simp at c5;obtain⟨rfl,rfl⟩:=c5;obtain⟨a5,f6⟩:=r a[b] (zf _);obtain⟨a6,g9⟩:=r a[c] (zf _);have g4:=aAd (m:=60) (λF f0=>(r F f0).2);have a9:=O (aDn _ l a w p c6);have b0:=O (λ(e:zx)=>aQy (aY a) (by omega) e);have d5:=O p;have b1:=O r;have G:=O b8;have H:=O b9;have g3:(b:Int)<(Z a:Int):=by omega
 have g5:(c:Int)<(Z a:Int):=by omega
 have g6:a[b].2.length<=60:=f6;clear p r b8 b9 e5 e6;go_enter Tryz.func156,Tryz.ntmps156;go_upto_region 2 with(first
  |(go_at_call 56;refine(aD b0 _).mono ?_;rintro f E ⟨tb,t,h4,h2,h3,vs,rfl,c3⟩;have z:=O c3;clear c3)
  |(go_at_call 57;refine(aD a9).mono ?_;rintro f g ⟨rfl,c4⟩;have u:=O c4;clear c4)
  |go_in)
 have x:=O (bE u.o z.o.low);have d7:=O (nX.new z.o);have a2:=u.o.size;have f1:=z.o.low.size;have a7:=O (λ(e:zx) (q:nX g.heap.size tb t [] e) (N:aB w e)=>aEw q 0 b4 b5 a[b].2 (G.o.below N (zo _)) a5 (λa3 a0=>by have:=aAc G.o a5 a3 a0;omega) (by simp;omega) (by omega));have a8:=O (λ(e:zx) (q:nX g.heap.size tb t ([]++aW 0 a[b].2) e) (N:aB w e)=>aEw q 0 b6 b7 a[c].2 (H.o.below N (zo _)) a6 (λa3 a0=>by have:=aAc H.o a6 a3 a0;omega) (by simp;omega) (by omega));have d4:=O (λ(e:zx) (q:nX g.heap.size tb t (aW 0 a[b].2++aW 0 a[c].2) e)=>aR8 q a5 a6 (λh0 ht=>by
  rcases List.mem_append.1 ht with ht|ht
  .obtain⟨n,X,rfl⟩:=List.mem_map.1 ht;obtain⟨k,s,rfl⟩:=zm X;exact G.o.short k s
  obtain⟨n,X,rfl⟩:=List.mem_map.1 ht;obtain⟨k,s,rfl⟩:=zm X;exact H.o.short k s) (by simp;omega))
 have g1:=aC x.o A;have g2:=aC x.o C;rw[show (Z ([]:List Tg):Int)=((0:Nat):Int) from rfl]at a7;rw[show (Z ([]++aW 0 a[b].2:List Tg):Int)=((a[b].2.length:Nat):Int) by simp]at a8;clear a9 b0;go_region_held3 (λw'=>cQ w' j (o+b*2+1) (.slice b4 a[b].2.length b5)/\cQ w' j (o+c*2+1) (.slice b6 a[c].2.length b7)) (first|exact⟨aC J.o A,aC J.o C⟩|exact⟨aC I.o A,aC I.o C⟩|exact⟨aC y.o A,aC y.o C⟩|go_keep) (first
  |(go_at_call 58;refine(aD d4 f8 d9.o).mono ?_;rintro f i ⟨f4,rfl,T,d0,d2,c9⟩;have J:=O (I.o.trans (T.mono a2));have b2:=O (e1.o.trans T);have e4:=O d2;have e2:=O c9;have f9:=O d0;clear T d0 d2 c9)
  |(go_at_call 59;refine(aD a8 f7 d8.o y.o).mono ?_;rintro f f8 ⟨rfl,c2,Q⟩;have d9:=O c2;have I:=O (y.o.trans (Q.mono a2));have e1:=O (e0.o.trans Q);clear c2 Q)
  |(go_at_call 59;refine(aD a7 E.drew (d7.o.below (aN ⟨1,rfl⟩)) (x.o.trans ((aN (w1:=E.drew) ⟨1,rfl⟩).mono (by omega)))).mono ?_;rintro f f7 ⟨rfl,c1,P⟩;have d8:=O c1;have e0:=O ((z.o.low.trans ((aN (w1:=E.drew) ⟨1,rfl⟩).mono f1)).trans P);have y:=O ((x.o.trans ((aN (w1:=E.drew) ⟨1,rfl⟩).mono (by omega))).trans (P.mono a2));clear c1 P))
 have a1:∀a4∈bY 0 [(a,c)],aP a4.2.2 1=true:=by intro a4 e9;obtain⟨f5,D,e8⟩:=xM _ _ a4 e9;simp at D;subst D;exact(b1.o _ e8).1
 cases f4 with
 |false=>
  have e3:aE (fD (aW 0 a[b].2++aW 0 a[c].2) 0 a[b].2.length (bY 0 [(a,c)]) [] zl 0):=O (yv ⟨e2.o rfl _ a1,rfl,rfl,rfl⟩);clear a1;go_wp2;go_returns;exact⟨_,_,_,rfl,⟨⟨[],e3.o,bP.nil _ _,by simp⟩,J.o⟩⟩
 |true=>
  obtain⟨f3,c7⟩:=e4.o rfl;have M:aB i (i.alloc (.cells #[.slice (V (aQ j o)) (Z a) l,iQ c] 120)):=aI _ _;have f2:=b2.o.size;have d1:vW g g.heap.size tb t (aW 0 a[b].2++aW 0 a[c].2) 0 a[b].2.length i.heap.size #[.slice (V (aQ j o)) (Z a) l,iQ c] [] (nQ) (i.alloc (.cells #[.slice (V (aQ j o)) (Z a) l,iQ c] 120)):=
   ⟨⟨f3,[],[],⟨by simpa[aL,bO]using c7.below M,rfl,rfl,yg _ _ _ _,λf5 D=>by simp at D,b2.o.trans (M.mono f2)⟩⟩,by show (i.heap.push _)[i.heap.size]?=_;simp⟩
  have d3:=O (aRa g g.heap.size tb t (aW 0 a[b].2++aW 0 a[c].2) 0 a[b].2.length i.heap.size 1 _ (λ_=>V (aQ j o)) (λ_=>l) [(a,c)] _ d1 rfl (λk s=>by
   match k,s with
   |0,_=>exact⟨rfl,rfl,d5.o.below u.o (zo _),c8,c6,b1.o⟩) (by simp) (by simp;omega))
  clear a1 c7 d1 M;go_wp2_with(first
   |(go_at_call 60;refine(aD d3).mono ?_;rintro f h5 ⟨h1,h6,g8,rfl,c0⟩;have d6:=O (c0.lift u.o);clear c0)
   |go_in)
  go_returns;exact⟨_,_,_,rfl,d6.o⟩
attribute [local go_sem] Oper.semAt_some
structure aJ where
 r:Nat
 a:Nat
 b:Nat
 i:Nat
 j:Nat
 c:List Lt
noncomputable def rO(a:List Lt)(c e:Nat):List Lt×Bool×Int:=Classical.epsilon λb=>fD (aW 0 (a.getD c default).2++aW 0 (a.getD e default).2) 0 (a.getD c default).2.length (bY 0 [(a,e)]) b.1 b.2.1 b.2.2
noncomputable def qA(c:List Lt)(i:Nat)(d:List Lt)(j:Nat):List Lt×Bool×Int:=Classical.epsilon λa=>fD (aW 0 (c.getD i default).2++aW 1 (d.getD j default).2) 0 (c.getD i default).2.length (bY 0 [(c,i),(d,j)]) a.1 a.2.1 a.2.2
def oJ(a:List Lt)(b:Nat):Bool:=(a.getD b default).1
noncomputable def oK(c:List Lt)(b:Nat)(a:Nat×Nat):Option (aJ×Int):=
 if a.1<a.2/\oJ c a.1=oJ c a.2 then (if (rO c a.1 a.2).2.1=zt\/(rO c a.1 a.2).2.2≠0 then V (⟨3,b,0,a.1,a.2,(rO c a.1 a.2).1⟩,(rO c a.1 a.2).2.2) else zr) else zr
noncomputable def nE(c:List Lt)(a:Nat):List (aJ×Int):=(lO c c).filterMap (oK c a)
def vX(B:Nat)(a:aJ×Int)(f:Array U)(b:Nat)(W:zx):Prop:=∃c e,f=#[.agg #[iQ a.1.r,iQ a.1.a,iQ a.1.b,iQ a.1.i,iQ a.1.j,.slice c (Z a.1.c) e],iQ a.2]/\bP b W (.slice c (Z a.1.c) e) a.1.c/\B<=b
theorem bP.shape{c:List Lt}(e:bP B w v c):∃a b,v=.slice a (Z c) b:=by obtain⟨f,rfl,g,_⟩:=e;grind[aZ]
theorem bP.low{a:Nat}{c:List Lt}(b:bP B w v c)(e:a<=B):bP a w v c:=by grind[fM,bP,jB,bH,aV]
theorem bP.below{a:List Lt}(b:bP B w v a)(hb:aB w w'):bP B w' v a:=(Mv.of_below (S:=[]) (B:=0) hb).clause b (by simp) (by simp)
theorem tG{a:List Lt}{b:Nat}(c:b<Z a):a.getD b default=a[b]:=by simp[c]
structure yP(B:Nat)(W:zx)(bc ba:Nat)(v:U)(c:List Lt)(a:Nat):Prop where
 x1:Boxed W bc 36 v
 x2:Boxed W ba 3 (iQ a)
 m1:bP B W v c
theorem yP.kept{e c:Nat}{f:List Lt}{a:Nat}(b:yP B W e c v f a)(k:dH cZ W W'):yP B W' e c v f a:=
 ⟨k.boxed b.x1 (by decide),k.boxed b.x2 (by decide),k.clause b.m1 (by decide) (by decide)⟩
theorem cK(a:aB W W'):dH S W W':=(Mv.of_below (S:=S) (B:=0) a).kps
theorem rR{J:Nat->zx->Prop}{N:Nat}(b:OwnFrom N J){s:Nat}{w w':zx}(c:J s w)(e:aB w w'):J s w':=
 b s w w' zr c (jL e) (λf a=>by cases a)
theorem gF.below(hb:aB w w'):gF B w w':=λI a x=>rR (J:=λ(_:Nat)=>I) (N:=B) (λ_ X Y f e b c=>a () X Y f e b c) (s:=0) x hb
theorem aC4{N:Nat}{I:β->zx->Prop}(c:∀a W W',I a W->dH cZ W W'->I a W'):OwnFrom N I:=λa W W' _ g e f=>c a W W' g (dH.grown e (λi b=>(f i b).2))
theorem aAe{f m o:Nat}{c:FuncId}{g:Array U}{a b:Code}{R:Ending->zx->Prop}(e:RoundIn Fence.wide n zp f c g a b w R):RoundIn (Fence.wide.inRound m) o zp f c g a b w R:=
 ⟨e.1,λi j _=>e.2 i j (λd l=>by cases l)⟩
theorem aRc(a b:Option Addr)(f g c e:Nat)(w:zx):Calls zp 155 #[.slice a f c,.slice b g e] w λi w'=>i=.returned (.func (.func 169) #[] #[pQ w.heap.size,pQ (w.heap.size+1)])/\w'=(w.alloc (.cells #[.slice a f c] 36)).alloc (.cells #[.slice b g e] 36):=by go_enter Tryz.func155,Tryz.ntmps155;go_wp2;go_ret;exact⟨rfl,rfl⟩
theorem aC5(w:zx)(c e:U)(a:TypeId):∃b,(w.alloc (.cells #[c] a)).alloc (.cells #[e] a)=b/\aB w b/\Boxed b w.heap.size a c/\Boxed b (w.heap.size+1) a e/\b.heap.size=w.heap.size+2:=by refine⟨_,rfl,(aI w _).alloc (by simp) _,(Below.heap_alloc _ _ _ (by simp)).trans (zj w _),?_,by simp⟩;have:=zj (w.alloc (.cells #[c] a)) (.cells #[e] a);rwa[za]at this
theorem aIw(w:zx)(v:U)(b:TypeId):∃a,w.alloc (.cells #[v] b)=a/\aB w a/\Boxed a w.heap.size b v/\a.heap.size=w.heap.size+1:=⟨_,rfl,aI w _,zj w _,by simp⟩
theorem aRd{a:List Lt}{b c:Nat}(e:(lO a d)[k]?=V (b,c)):b<Z a/\c<Z d:=by have f:=yl e;simp only[lO,nO,mW,List.mem_flatMap,List.mem_map,List.mem_filter,List.mem_range]at f;grind
theorem aRe{a:List Lt}{b c:Nat}(l:b<Z a)(m:c<Z a){f:List Lt}{i:Bool}{e:Int}(j:fD (aW 0 a[b].2++aW 0 a[c].2) 0 a[b].2.length (bY 0 [(a,c)]) f i e):rO a b c=(f,i,e):=by have o:∃g:List Lt×Bool×Int,fD (aW 0 (a.getD b default).2++aW 0 (a.getD c default).2) 0 (a.getD b default).2.length (bY 0 [(a,c)]) g.1 g.2.1 g.2.2:=⟨(f,i,e),by rw[tG l,tG m];exact j⟩;have p:=Classical.epsilon_spec o;grind[aEq,rO,tG,Prod.ext]
theorem rT{L:List α}{a:α}(b:L[k]?=V a):L.take (k+1)=L.take k++[a]:=by rw[List.take_add_one,b];rfl
theorem aEz{L:List α}{a:α->Option β}{b:α}{c:β}(e:L[k]?=V b)(f:a b=V c):(L.filterMap a)[((L.take k).filterMap a).length]?=V c:=by grind[ze,yt,List.getElem?_eq_some_iff,z8]
theorem aIx{a:Nat->zx->Prop}{b c:Nat}(i:OwnFrom b a)(j:b<=c)(e:Nat->Nat):OwnFrom c (λk W=>a (e k) W):=λq f g p o l m=>xG i j (e q) f g p o l m
theorem bG9(n P N B:Nat)(v:U)(a:List Lt)(f:Nat)(j7:3<=n)(u:kB a)(W:zx)(d2:B<=W.heap.size)(X:yP B W P N v a f):xF Fence.wide n zp 154 #[pQ P,pQ N] (vX B) cZ (nE a f) W:=by
 intro a3 c7 c8 d3 d5 d8 h0;have i8:=u.len;have c5:=O d8;have D:=O d3;clear d8 d3;refine callsIn_of_wp_marks Tryz.func154 rfl trivial ?_ rfl;simp only[Tryz.ntmps154,yf,zd,List.length_nil,Nat.reduceAdd,Nat.reduceSub,yk,yj,ye,yi,List.nil_append,yd];obtain⟨E,t,rfl,_,r,_⟩:=X.m1.lits u;have d0:=X.x1.cell;have g0:=λa6=>aC (aI W a6) d0
 have f4:=O X;clear X r d0;gi_wp2
 clear g0;refine⟨trivial,λ_=>by omega,(callsIn_wide.2 (aRc _ _ _ _ _ _ _)).mono ?_⟩;rintro j w' ⟨rfl,rfl⟩;gi_wp2
 obtain⟨f6,d6,d9,e8,h1⟩:=aIw W (.func (.yield a3) #[] #[]) 200;simp only[d6]at *;obtain⟨A,d7,b2,e4,e5,j9⟩:=aC5 f6 (.slice E (Z a) t) (.slice E (Z a) t) 36;simp only[d7]at *;have g:aB W A:=bE d9 b2;have h4:Boxed A W.heap.size 200 (.func (.yield a3) #[] #[]):=(cK (S:=cZ) b2).boxed e8 (by decide);have a9:=f4.o.kept (cK (S:=cZ) g);have g3:=rR D.o h0 g;clear d6 d7 e8 d9 b2 h0;rw[h1]at e4 e5;refine aPy rfl (by omega) (gf:=169) (lb:=#[pQ (W.heap.size+1),pQ (W.heap.size+1+1)]) rfl trivial (enters_of Tryz.func169 (by kernel_rfl) rfl)
  (Enc:=λ(a4:Nat×Nat) a7 _ _=>a7=#[iQ a4.1,iQ a4.2]) (S:=cZ) (L:=lO a a)
  (λf0 k1=>aNv (n-1) (W.heap.size+1) (W.heap.size+1+1) B (.slice E (Z a) t) (.slice E (Z a) t) a a (by omega) u u _ (sL.kept ⟨e4,e5,a9.m1,a9.m1⟩ (cK ((aI A _).alloc (by simp) _))))
  (λa4 a7 f5 W l=>by rw[l];rfl)
  (λk W'=>c7 (Z (((lO a a).take k).filterMap (oK a f))) W'/\(yP B W' P N (.slice E (Z a) t) a f/\Boxed W' W.heap.size 200 (.func (.yield a3) #[] #[]))/\A.heap.size<=W'.heap.size)
  (λF _ W'=>F=.ret/\∃k,c8 k W') ?hI ?hIx ?h0 ?A ?assign ?body ?done ?stop
 case hI=>exact(aIx D.o g.size _).and ((aC4 (λ_ _ _ l k=>⟨l.1.kept k,k.boxed l.2 (by decide)⟩)).and (λ_ _ _ _ l b3 _=>zs l b3.size))
 case hIx=>
  rintro F k4 a6 f9 h7 ⟨a8,k,Q⟩ b3 g8;exact⟨a8,k,xG d5 g.size k a6 f9 h7 Q b3 g8⟩
 case h0=>exact⟨by simpa using g3,⟨a9,h4⟩,zo _⟩
 case assign=>
  rintro e9 a4 a7 f5 i K rfl hK;gi_wp2
  exact hK
 case body=>
  rintro e9 k ⟨b,c⟩ i j4 b5 ⟨d4,⟨G,a2⟩,e7⟩;obtain⟨a0,a1⟩:=aRd b5;obtain⟨i0,i5,g1,_,r,_⟩:=G.m1.lits u;cases g1;obtain⟨d1,f1,i1,i2,j,k0,b7,b8⟩:=r.cell b a0;obtain⟨i7,k2,i3,i4,c9,h6,b9,c0⟩:=r.cell c a1;rw[j]at c9;cases c9;subst j;have j5:=G.x1.cell;have j6:=G.x2.cell;have j1:(b:Int)<(Z a:Int):=by omega
  have j3:(c:Int)<(Z a:Int):=by omega
  have h2:oJ a b=a[b].1:=by unfold oJ;rw[tG a0]
  have h3:oJ a c=a[c].1:=by unfold oJ;rw[tG a1]
  have C:=O G;have c6:=O a2;have M:=O d4;have y:=O e7;have z:=O b5;have b4:Tryz.prog.follows .mixedOrders=true:=by kernel_rfl
  have e6:oK a f (b,c)=zr->∀nq d,aEl A.heap.size cZ (λk W'=>c7 (Z (((lO a a).take k).filterMap (oK a f))) W'/\(yP B W' P N (.slice (V (aQ d1 f1)) (Z a) t) a f/\Boxed W' W.heap.size 200 (.func (.yield a3) #[] #[]))/\A.heap.size<=W'.heap.size) (λF _ W'=>F=.ret/\∃k,c8 k W') k i .normal d (i.drewN nq):=by intro g9 nq d;have s:aB i (i.drewN nq):=aN ⟨nq,rfl⟩;refine⟨(Mv.of_below (S:=[]) (B:=0) s).keepsFrom,cK s,?_,⟨C.o.kept (cK s),(cK (S:=cZ) s).boxed c6.o (by decide)⟩,y.o⟩;rw[rT z.o,zk];simp only[zi,g9,z4,yw];exact rR D.o M.o s
  have c4:=O e6;clear G a2 d4 e7 b5 e6;by_cases j2:b<c
  .have g6:¬(c:Int)<=(b:Int):=by omega
   have i9:decide (c<=b)=false:=gG (by omega);by_cases J:a[b].1=a[c].1
   .have g7:(a[b].1 != a[c].1)=false:=by simp[J]
    obtain⟨q,f2,p,g5⟩:∃f0 h9 j,rO a b c=(f0,h9,j):=⟨_,_,_,rfl⟩;have c2:=O (λ(c1:zx) (s:aB i c1)=>(bG8 (V (aQ d1 f1)) t a b c c1 (r.below s (zo _)) u.term a0 a1 u.len).mono (R':=λj x=>∃m o,j=.returned (.tuple #[.slice m (Z q) o,.bool f2,iQ p])/\bP i.heap.size x (.slice m (Z q) o) q/\aB c1 x) (λj x g4=>by
     obtain⟨v,k5,i6,rfl,e2⟩:=g4;obtain⟨k3,a8,Q,_⟩:=e2.out;have:=aRe a0 a1 a8;rw[g5]at this;cases this;obtain⟨m,o,rfl⟩:=Q.shape;exact⟨m,o,rfl,Q.low s.size,e2.low⟩))
    rw[<-J]at h6;clear r b7 b8 b9 c0;gi_wp2
    refine aBc [_,_,_,_,_,_,_,_,_,_,_,_,_,_,_,_] rfl (by kernel_rfl) b4 (by kernel_rfl) (by kernel_rfl) ?_;repeat (gi_big_quiet_step (fail))
    refine wpQuietIn_nil ?_;rintro _ ⟨nq,rfl⟩;gi_wp2
    refine⟨trivial,λ_=>by omega,(CallsIn.inRound e9 (callsIn_wide.2 (aD c2 (i.drewN nq) (aN ⟨nq,rfl⟩)))).mono ?_⟩;rintro j x ⟨m,o,rfl,e1,e0⟩;have H:aB i x:=(aN ⟨nq,rfl⟩).trans e0;have b6:=(cK (S:=cZ) H).boxed c6.o (by decide);have k6:=b6.cell;have k7:=(C.o.kept (cK H)).x2.cell;have a5:=O b6;have e:=O H;have c3:=O e1;have f3:=O (rR D.o M.o H);clear b6 H e1 e0 c2;cases f2 with
    |true=>
     have I:oK a f (b,c)=V (⟨3,f,0,b,c,q⟩,p):=by grind[oK]
     have b1:=c5.o _ (⟨3,f,0,b,c,q⟩,p) #[.agg #[iQ 3,iQ f,iQ 0,iQ b,iQ c,.slice m (Z q) o],iQ p] i x (aEz z.o I) M.o (gF.below e.o) ⟨m,o,rfl,c3.o,zs d2 (zs g.size y.o)⟩;obtain⟨g2,h8,assign,body,a2,b0⟩:=b1;gi_wp2
     refine⟨λ_=>by omega,(aAe b0).mono ?_⟩;rintro j f7 (⟨rfl,hJ4,hk4⟩|⟨rfl,hJx4,hk4⟩)
     .gi_wp2
      refine⟨oW (Mv.of_below (S:=[]) (B:=0) e.o).keepsFrom (nB hk4.2 g.size),(cK e.o).trans hk4.1,?_,⟨(C.o.kept (cK e.o)).kept hk4.1,hk4.1.boxed a5.o (by decide)⟩,zs (zs y.o e.o.size) hk4.1.size⟩;rw[rT z.o,zk,zn];grind
     gi_wp2
     exact⟨oW (Mv.of_below (S:=[]) (B:=0) e.o).keepsFrom (nB hk4 g.size),rfl,_,hJx4⟩
    |false=>
     by_cases e3:p=0
     .have I:oK a f (b,c)=none:=by
       grind[oK]
      subst e3;gi_wp2
      refine⟨λ_ l=>(by cases l),?_⟩;gi_wp2
      refine⟨(Mv.of_below (S:=[]) (B:=0) e.o).keepsFrom,cK e.o,?_,⟨C.o.kept (cK e.o),a5.o⟩,zs y.o e.o.size⟩;rw[rT z.o,zk];simp only[zi,I,z4,yw];exact f3.o
     have j0:(p != 0)=true:=by simp[e3]
     have I:oK a f (b,c)=V (⟨3,f,0,b,c,q⟩,p):=by grind[oK]
     have b1:=c5.o _ (⟨3,f,0,b,c,q⟩,p) #[.agg #[iQ 3,iQ f,iQ 0,iQ b,iQ c,.slice m (Z q) o],iQ p] i x (aEz z.o I) M.o (gF.below e.o) ⟨m,o,rfl,c3.o,zs d2 (zs g.size y.o)⟩;obtain⟨g2,h8,assign,body,a2,b0⟩:=b1;gi_wp2
     refine⟨λ_=>by omega,(aAe b0).mono ?_⟩;rintro j f7 (⟨rfl,hJ4,hk4⟩|⟨rfl,hJx4,hk4⟩)
     .gi_wp2
      refine⟨oW (Mv.of_below (S:=[]) (B:=0) e.o).keepsFrom (nB hk4.2 g.size),(cK e.o).trans hk4.1,?_,⟨(C.o.kept (cK e.o)).kept hk4.1,hk4.1.boxed a5.o (by decide)⟩,zs (zs y.o e.o.size) hk4.1.size⟩;rw[rT z.o,zk,zn];grind
     gi_wp2
     exact⟨oW (Mv.of_below (S:=[]) (B:=0) e.o).keepsFrom (nB hk4 g.size),rfl,_,hJx4⟩
   have j8:(a[b].1==a[c].1)=false:=by simp[J]
   have g7:(a[b].1 != a[c].1)=true:=by simp[J]
   clear r b7 b8 b9 c0;gi_wp2
   refine aBc [_,_,_,_,_,_,_,_,_,_,_,_,_,_,_,_] rfl (by kernel_rfl) b4 (by kernel_rfl) (by kernel_rfl) ?_;repeat (gi_big_quiet_step (fail))
   refine wpQuietIn_nil ?_;rintro _ ⟨nq,rfl⟩;gi_wp2
   exact c4.o (by unfold oK;rw[aS (by rw[h2,h3];exact λl=>J l.2)]) _ _
  have g6:(c:Int)<=(b:Int):=by omega
  clear r b7 b8 b9 c0;gi_wp2
  refine aBc [_,_,_,_,_,_,_,_,_,_,_,_,_,_,_,_] rfl (by kernel_rfl) b4 (by kernel_rfl) (by kernel_rfl) ?_;repeat (gi_big_quiet_step (fail))
  refine wpQuietIn_nil ?_;rintro _ ⟨nq,rfl⟩;gi_wp2
  exact c4.o (by unfold oK;rw[aS (by omega)]) _ _
 case done=>
  rintro f8 ⟨T,_,_⟩ hK;gi_wp2
  refine⟨by simp,.inl ⟨_,_,rfl,run_takeDeferred hK,?_⟩⟩;refine⟨_,results_none rfl _ _ _,⟨_,rfl⟩,.inl ?_⟩;rw[z9]at T;exact D.o.putObj _ T g.size hK rfl
 case stop=>
  rintro F k f8 ⟨rfl,h5,T⟩ hK;gi_wp2
  refine⟨by simp,.inl ⟨_,_,rfl,run_takeDeferred hK,?_⟩⟩;refine⟨_,results_none rfl _ _ _,⟨_,rfl⟩,.inr ⟨h5,?_⟩⟩;exact d5.putObj _ T g.size hK rfl
end
section
attribute [local go_sem] Oper.semAt_some
noncomputable def nY(c:List Lt)(b:Nat)(d:List Lt)(e:Nat)(a:Nat×Nat):Option (aJ×Int):=
 if oJ c a.1≠oJ d a.2 then (if (qA c a.1 d a.2).2.1=zt\/(qA c a.1 d a.2).2.2≠0 then V (⟨2,b,e,a.1,a.2,(qA c a.1 d a.2).1⟩,(qA c a.1 d a.2).2.2) else zr) else zr
noncomputable def gZ(c:List Lt)(a:Nat)(d:List Lt)(b:Nat):List (aJ×Int):=(lO c d).filterMap (nY c a d b)
structure yQ(B:Nat)(W:zx)(bc bd ba bb:Nat)(v u:U)(c d:List Lt)(a b:Nat):Prop where
 x1:Boxed W bc 36 v
 x2:Boxed W bd 36 u
 x3:Boxed W ba 3 (iQ a)
 x4:Boxed W bb 3 (iQ b)
 m1:bP B W v c
 m2:bP B W u d
theorem yQ.kept{g i e f:Nat}{l:U}{j:List Lt}{a b:Nat}(c:yQ B W g i e f v l j d a b)(k:dH cZ W W'):yQ B W' g i e f v l j d a b:=
 ⟨k.boxed c.x1 (by decide),k.boxed c.x2 (by decide),k.boxed c.x3 (by decide),k.boxed c.x4 (by decide),k.clause c.m1 (by decide) (by decide),k.clause c.m2 (by decide) (by decide)⟩
theorem aIy{c:List Lt}{i j:Nat}(l:i<Z c)(m:j<Z d){b:List Lt}{f:Bool}{a:Int}(g:fD (aW 0 c[i].2++aW 1 d[j].2) 0 c[i].2.length (bY 0 [(c,i),(d,j)]) b f a):qA c i d j=(b,f,a):=by have o:∃e:List Lt×Bool×Int,fD (aW 0 (c.getD i default).2++aW 1 (d.getD j default).2) 0 (c.getD i default).2.length (bY 0 [(c,i),(d,j)]) e.1 e.2.1 e.2.2:=⟨(b,f,a),by rw[tG l,tG m];exact g⟩;have p:=Classical.epsilon_spec o;grind[aEq,tG,qA,Prod.ext]
theorem bGa(n a1 a2 X a0 B:Nat)(v j0:U)(a d:List Lt)(f g:Nat)(l1:3<=n)(G:kB a)(H:kB d)(W:zx)(d5:B<=W.heap.size)(E:yQ B W a1 a2 X a0 v j0 a d f g):xF Fence.wide n zp 157 #[pQ a1,pQ a2,pQ X,pQ a0] (vX B) cZ (gZ a f d g) W:=by
 intro a8 c8 c9 d6 d8 e1 h0;have k1:=G.len;have k2:=H.len;have c6:=O e1;have I:=O d6;clear e1 d6;refine callsIn_of_wp_marks Tryz.func157 rfl trivial ?_ rfl;simp only[Tryz.ntmps157,yf,zd,List.length_nil,Nat.reduceAdd,Nat.reduceSub,yk,yj,ye,yi,List.nil_append,yd];obtain⟨b1,M,rfl,_,A,_⟩:=E.m1.lits G;obtain⟨b2,N,rfl,_,C,_⟩:=E.m2.lits H;have d1:=E.x1.cell;have d2:=E.x2.cell;have h1:=λJ=>aC (aI W J) d1
 have h2:=λJ=>aC (aI W J) d2
 have g4:=O E;clear E A C d1 d2;gi_wp2
 clear h1 h2;refine⟨trivial,λ_=>by omega,(callsIn_wide.2 (aRc _ _ _ _ _ _ _)).mono ?_⟩;rintro r w' ⟨rfl,rfl⟩;gi_wp2
 obtain⟨g6,d9,e2,f2,i1⟩:=aIw W (.func (.yield a8) #[] #[]) 200;simp only[d9]at *;obtain⟨D,e0,b8,e8,e9,l3⟩:=aC5 g6 (.slice b1 (Z a) M) (.slice b2 (Z d) N) 36;simp only[e0]at *;have i:aB W D:=bE e2 b8;have i5:Boxed D W.heap.size 200 (.func (.yield a8) #[] #[]):=(cK (S:=cZ) b8).boxed f2 (by decide);have b5:=g4.o.kept (cK (S:=cZ) i);have h6:=rR I.o h0 i;clear d9 e0 f2 e2 b8 h0;rw[i1]at e8 e9;refine aPy rfl (by omega) (gf:=169) (lb:=#[pQ (W.heap.size+1),pQ (W.heap.size+1+1)]) rfl trivial (enters_of Tryz.func169 (by kernel_rfl) rfl)
  (Enc:=λ(a9:Nat×Nat) b3 _ _=>b3=#[iQ a9.1,iQ a9.2]) (S:=cZ) (L:=lO a d)
  (λf6 l5=>aNv (n-1) (W.heap.size+1) (W.heap.size+1+1) B (.slice b1 (Z a) M) (.slice b2 (Z d) N) a d (by omega) G H _ (sL.kept ⟨e8,e9,b5.m1,b5.m2⟩ (cK ((aI D _).alloc (by simp) _))))
  (λa9 b3 g5 W s=>by rw[s];rfl)
  (λk W'=>c8 (Z (((lO a d).take k).filterMap (nY a f d g))) W'/\(yQ B W' a1 a2 X a0 (.slice b1 (Z a) M) (.slice b2 (Z d) N) a d f g/\Boxed W' W.heap.size 200 (.func (.yield a8) #[] #[]))/\D.heap.size<=W'.heap.size)
  (λP _ W'=>P=.ret/\∃k,c9 k W') ?hI ?hIx ?h0 ?A ?assign ?body ?done ?stop
 case hI=>exact(aIx I.o i.size _).and ((aC4 (λ_ _ _ s k=>⟨s.1.kept k,k.boxed s.2 (by decide)⟩)).and (λ_ _ _ _ s b9 _=>zs s b9.size))
 case hIx=>
  rintro P l7 J g9 i8 ⟨b4,k,a3⟩ b9 h9;exact⟨b4,k,xG d8 i.size k J g9 i8 a3 b9 h9⟩
 case h0=>exact⟨by simpa using h6,⟨b5,i5⟩,zo _⟩
 case assign=>
  rintro f5 a9 b3 g5 j K rfl hK;gi_wp2
  exact hK
 case body=>
  rintro f5 k ⟨b,c⟩ j k6 c1 ⟨d7,⟨t,a7⟩,f1⟩;obtain⟨a5,a6⟩:=aRd c1;obtain⟨j2,j8,h3,_,A,_⟩:=t.m1.lits G;cases h3;obtain⟨j3,j9,h4,_,C,_⟩:=t.m2.lits H;cases h4;obtain⟨d3,f7,j4,j5,rfl,l4,f3,f4⟩:=A.cell b a5;obtain⟨d4,f8,j6,j7,rfl,i7,f9,g0⟩:=C.cell c a6;have k7:=t.x1.cell;have k8:=t.x2.cell;have k9:=t.x3.cell;have l0:=t.x4.cell;have k4:(b:Int)<(Z a:Int):=by omega
  have k5:(c:Int)<(Z d:Int):=by omega
  have i3:oJ a b=a[b].1:=by unfold oJ;rw[tG a5]
  have i4:oJ d c=d[c].1:=by unfold oJ;rw[tG a6]
  have x:=O t;have c7:=O a7;have T:=O d7;have y:=O f1;have z:=O c1;have e7:Tryz.prog.follows .mixedOrders=true:=by kernel_rfl
  have f0:nY a f d g (b,c)=zr->∀nq d0,aEl D.heap.size cZ (λk W'=>c8 (Z (((lO a d).take k).filterMap (nY a f d g))) W'/\(yQ B W' a1 a2 X a0 (.slice (V (aQ d3 f7)) (Z a) M) (.slice (V (aQ d4 f8)) (Z d) N) a d f g/\Boxed W' W.heap.size 200 (.func (.yield a8) #[] #[]))/\D.heap.size<=W'.heap.size) (λP _ W'=>P=.ret/\∃k,c9 k W') k j .normal d0 (j.drewN nq):=by intro i0 nq d0;have p:aB j (j.drewN nq):=aN ⟨nq,rfl⟩;refine⟨(Mv.of_below (S:=[]) (B:=0) p).keepsFrom,cK p,?_,⟨x.o.kept (cK p),(cK (S:=cZ) p).boxed c7.o (by decide)⟩,y.o⟩;rw[rT z.o,zk];simp only[zi,i0,z4,yw];exact rR I.o T.o p
  have g3:=O f0;clear t a7 d7 f1 c1 f0;by_cases c0:a[b].1≠d[c].1
  .have l2:(a[b].1==d[c].1)=false:=by simp[c0]
   obtain⟨q,g1,o,h8⟩:∃f6 j1 r,qA a b d c=(f6,j1,r):=⟨_,_,_,rfl⟩;have c4:=O (λ(c3:zx) (p:aB j c3)=>(aRb (V (aQ d3 f7)) (V (aQ d4 f8)) M N a d b c c3 (A.below p (zo _)) (C.below p (zo _)) G.term H.term a5 a6 G.len H.len).mono (R':=λr u=>∃l m,r=.returned (.tuple #[.slice l (Z q) m,.bool g1,iQ o])/\bP j.heap.size u (.slice l (Z q) m) q/\aB c3 u) (λr u h7=>by
    obtain⟨v,l8,k0,rfl,e5⟩:=h7;obtain⟨l6,b4,a3,_⟩:=e5.out;have:=aIy a5 a6 b4;rw[h8]at this;cases this;obtain⟨l,m,rfl⟩:=a3.shape;exact⟨l,m,rfl,a3.low p.size,e5.low⟩))
   clear A C f3 f4 f9 g0;gi_wp2
   refine aBc [_,_,_,_,_,_,_,_,_,_,_] rfl (by kernel_rfl) e7 (by kernel_rfl) (by kernel_rfl) ?_;repeat (gi_big_quiet_step (fail))
   refine wpQuietIn_nil ?_;rintro _ ⟨nq,rfl⟩;gi_wp2
   refine⟨trivial,λ_=>by omega,(CallsIn.inRound f5 (callsIn_wide.2 (aD c4 (j.drewN nq) (aN ⟨nq,rfl⟩)))).mono ?_⟩;rintro r u ⟨l,m,rfl,e4,e3⟩;have F:aB j u:=(aN ⟨nq,rfl⟩).trans e3;have c2:=(cK (S:=cZ) F).boxed c7.o (by decide);have l9:=c2.cell;have m0:=(x.o.kept (cK F)).x3.cell;have m1:=(x.o.kept (cK F)).x4.cell;have b0:=O c2;have e:=O F;have c5:=O e4;have g2:=O (rR I.o T.o F);clear c2 F e4 e3 c4;cases g1 with
   |true=>
    have Q:nY a f d g (b,c)=V (⟨2,f,g,b,c,q⟩,o):=by grind[nY]
    have b7:=c6.o _ (⟨2,f,g,b,c,q⟩,o) #[.agg #[iQ 2,iQ f,iQ g,iQ b,iQ c,.slice l (Z q) m],iQ o] j u (aEz z.o Q) T.o (gF.below e.o) ⟨l,m,rfl,c5.o,zs d5 (zs i.size y.o)⟩;obtain⟨h5,i9,assign,body,a7,b6⟩:=b7;gi_wp2
    refine⟨λ_=>by omega,(aAe b6).mono ?_⟩;rintro r g7 (⟨rfl,hJ4,hk4⟩|⟨rfl,hJx4,hk4⟩)
    .gi_wp2
     refine⟨oW (Mv.of_below (S:=[]) (B:=0) e.o).keepsFrom (nB hk4.2 i.size),(cK e.o).trans hk4.1,?_,⟨(x.o.kept (cK e.o)).kept hk4.1,hk4.1.boxed b0.o (by decide)⟩,zs (zs y.o e.o.size) hk4.1.size⟩;rw[rT z.o,zk,zn];grind
    gi_wp2
    exact⟨oW (Mv.of_below (S:=[]) (B:=0) e.o).keepsFrom (nB hk4 i.size),rfl,_,hJx4⟩
   |false=>
    by_cases e6:o=0
    .have Q:nY a f d g (b,c)=none:=by
      grind[nY]
     subst e6;gi_wp2
     refine⟨λ_ s=>(by cases s),?_⟩;gi_wp2
     refine⟨(Mv.of_below (S:=[]) (B:=0) e.o).keepsFrom,cK e.o,?_,⟨x.o.kept (cK e.o),b0.o⟩,zs y.o e.o.size⟩;rw[rT z.o,zk];simp only[zi,Q,z4,yw];exact g2.o
    have k3:(o != 0)=true:=by simp[e6]
    have Q:nY a f d g (b,c)=V (⟨2,f,g,b,c,q⟩,o):=by grind[nY]
    have b7:=c6.o _ (⟨2,f,g,b,c,q⟩,o) #[.agg #[iQ 2,iQ f,iQ g,iQ b,iQ c,.slice l (Z q) m],iQ o] j u (aEz z.o Q) T.o (gF.below e.o) ⟨l,m,rfl,c5.o,zs d5 (zs i.size y.o)⟩;obtain⟨h5,i9,assign,body,a7,b6⟩:=b7;gi_wp2
    refine⟨λ_=>by omega,(aAe b6).mono ?_⟩;rintro r g7 (⟨rfl,hJ4,hk4⟩|⟨rfl,hJx4,hk4⟩)
    .gi_wp2
     refine⟨oW (Mv.of_below (S:=[]) (B:=0) e.o).keepsFrom (nB hk4.2 i.size),(cK e.o).trans hk4.1,?_,⟨(x.o.kept (cK e.o)).kept hk4.1,hk4.1.boxed b0.o (by decide)⟩,zs (zs y.o e.o.size) hk4.1.size⟩;rw[rT z.o,zk,zn];grind
    gi_wp2
    exact⟨oW (Mv.of_below (S:=[]) (B:=0) e.o).keepsFrom (nB hk4 i.size),rfl,_,hJx4⟩
  have i2:a[b].1=d[c].1:=by simpa using c0
  rw[<-i2]at i7;clear A C f3 f4 f9 g0;gi_wp2
  refine aBc [_,_,_,_,_,_,_,_,_,_,_] rfl (by kernel_rfl) e7 (by kernel_rfl) (by kernel_rfl) ?_;repeat (gi_big_quiet_step (fail))
  refine wpQuietIn_nil ?_;rintro _ ⟨nq,rfl⟩;gi_wp2
  exact g3.o (by unfold nY;rw[aS (by rw[i3,i4];exact c0)]) _ _
 case done=>
  rintro g8 ⟨a4,_,_⟩ hK;gi_wp2
  refine⟨by simp,.inl ⟨_,_,rfl,run_takeDeferred hK,?_⟩⟩;refine⟨_,results_none rfl _ _ _,⟨_,rfl⟩,.inl ?_⟩;rw[z9]at a4;exact I.o.putObj _ a4 i.size hK rfl
 case stop=>
  rintro P k g8 ⟨rfl,i6,a4⟩ hK;gi_wp2
  refine⟨by simp,.inl ⟨_,_,rfl,run_takeDeferred hK,?_⟩⟩;refine⟨_,results_none rfl _ _ _,⟨_,rfl⟩,.inr ⟨i6,?_⟩⟩;exact d8.putObj _ a4 i.size hK rfl
end
def lH(p:aJ×U):List U:=[iQ p.1.r,iQ p.1.a,iQ p.1.b,iQ p.1.i,iQ p.1.j,p.2]
def gN(a:List (aJ×U)):List U:=a.flatMap lH
theorem aF0(a:List (aJ×U)):Z (gN a)=Z a*6:=by
 induction a with
 |nil=>rfl
 |cons x r ih=>simp[gN,lH]at ih ⊢;omega
theorem aIz:∀(a:List (aJ×U)) (k:Nat) (b:k<Z a),(gN a)[k*6+5]?=V a[k].2
 |[],k,b=>by simp at b
 |x::a,0,_=>by simp[gN,lH]
 |x::a,k+1,b=>by
  have:=aIz a k (by simpa using b);rw[show gN (x::a)=lH x++gN a from rfl,yt (by simp[lH];omega),show (k+1)*6+5-Z (lH x)=k*6+5 by simp[lH];omega,this];simp
structure iW(B:Nat)(W:zx)(vs:U)(T:List (aJ×U)):Prop where
 row:zq W B 48 6 vs (Z T) (gN T)
 cl:∀p∈T,bP B W p.2 p.1.c
theorem iW.kept{vs:U}{a:List (aJ×U)}(b:iW B W vs a)(k:dH S W W')(c:48∉S)(e:55∉S)(f:52∉S):iW B W' vs a:=
 ⟨k.row b.row c,λi g=>k.clause (b.cl i g) e f⟩
theorem iW.cell{vs:U}{a:List (aJ×U)}(f:iW B W vs a){k:Nat}(j:k<Z a):∃g cap b c,vs=sQ g (Z a) cap/\a[k].2=.slice b a[k].1.c.length c/\zg W (aQ g (k*6+5))=V (.slice b a[k].1.c.length c)/\bP B W (.slice b a[k].1.c.length c) a[k].1.c:=by
 have i:=f.cl a[k] (zf j);obtain⟨b,c,e⟩:=i.shape;obtain⟨o,⟨_,m⟩|⟨g,cap,l,rfl,p,q,s⟩⟩:=f.row
 .omega
 have r:=aF0 a;refine⟨g,cap,b,c,rfl,e,?_,by rw[<-e];exact i⟩;rw[f.row.cellAt (k*6+5) (by omega),aIz a k j,e]
def aO(a:List (aJ×U))(k:Nat):List Lt:=((a[k]?).map λb=>b.1.c).getD []
theorem qB{a:List (aJ×U)}(b:k<Z a):aO a k=a[k].1.c:=by simp[aO,b]
theorem bGb(B:Nat)(vs:U)(b:List (aJ×U))(a:Nat)(w:zx)(q:iW B w vs b)(j:a<Z b):Calls zp 137 #[vs,iQ a] w λp w'=>∃i g v,p=.returned (.func (.func 154) #[] #[pQ i,pQ g])/\yP B w' i g v (aO b a) a/\aB w w':=by
 obtain⟨u,s,c,e,rfl,_,f,m⟩:=q.cell j;rw[<-qB j]at f m;have x:(a:Int)<(Z b:Int):=by omega
 have t:=λo=>aC (aI w o) f
 clear f;go_enter Tryz.func137,Tryz.ntmps137;go_wp2;go_ret;have r:aB w (w.alloc (.cells #[iQ a] 3)):=aI w _;have l:aB w ((w.alloc (.cells #[iQ a] 3)).alloc (.cells #[.slice c (Z (aO b a)) e] 36)):=r.alloc (by simp) _;refine⟨w.heap.size+1,w.heap.size,.slice c (Z (aO b a)) e,rfl,⟨?_,?_,m.below l⟩,l⟩
 .have:=zj (w.alloc (.cells #[iQ a] 3)) (.cells #[.slice c (Z (aO b a)) e] 36);rwa[za]at this
 exact(Below.heap_alloc _ _ _ (by simp)).trans (zj w _)
theorem bGc(B:Nat)(vs:U)(c:List (aJ×U))(f g:Nat)(w:zx)(X:iW B w vs c)(a0:f<Z c)(a1:g<Z c):Calls zp 138 #[vs,iQ f,iQ g] w λr w'=>∃H I F G v a4,r=.returned (.func (.func 157) #[] #[pQ H,pQ I,pQ F,pQ G])/\yQ B w' H I F G v a4 (aO c f) (aO c g) f g/\aB w w':=by
 obtain⟨b5,a5,D,J,rfl,_,t,x⟩:=X.cell a0;obtain⟨b6,a6,E,M,r,_,u,y⟩:=X.cell a1;cases r;rw[<-qB a0]at t x;rw[<-qB a1]at u y;have b7:(f:Int)<(Z c:Int):=by omega
 have b8:(g:Int)<(Z c:Int):=by omega
 go_enter Tryz.func138,Tryz.ntmps138;have b9:Tryz.prog.follows .mixedOrders=true:=by kernel_rfl
 go_wp2;obtain⟨b,a3,q,A,C,a2⟩:=aC5 w (iQ f) (iQ g) 3;simp only[a3];clear a3;have N:=aC q t;have P:=aC q u;have Q:=A.cell;have T:=C.cell;have b1:=λa=>aC (aI b a) N
 have b2:=λa=>aC (aI b a) P
 have b3:=λa=>aC (aI b a) Q
 have b4:=λa=>aC (aI b a) T
 have a7:=λa i=>aC ((aI b a).alloc (by simp) i) N
 have a8:=λa i=>aC ((aI b a).alloc (by simp) i) P
 have a9:=λa i=>aC ((aI b a).alloc (by simp) i) Q
 have b0:=λa i=>aC ((aI b a).alloc (by simp) i) T
 clear t u;go_region
 .go_wp2;go_ret;obtain⟨e,z,s,o,p,_⟩:=aC5 b (.slice D (Z (aO c f)) J) (.slice E (Z (aO c g)) M) 36;rw[z];rw[a2]at o p;have j:aB b e.drew:=bE s (aN ⟨1,rfl⟩);have m:dH cZ e e.drew:=cK (aN ⟨1,rfl⟩);have l:aB w e.drew:=bE q j;exact⟨w.heap.size+2,w.heap.size+2+1,w.heap.size,w.heap.size+1,_,_,rfl,⟨m.boxed o (by decide),m.boxed p (by decide),(cK (S:=cZ) j).boxed A (by decide),(cK (S:=cZ) j).boxed C (by decide),x.below l,y.below l⟩,l⟩
 go_wp2;go_ret;obtain⟨e,z,s,o,p,_⟩:=aC5 b (.slice E (Z (aO c g)) M) (.slice D (Z (aO c f)) J) 36;rw[z];rw[a2]at o p;have j:aB b e.drew:=bE s (aN ⟨1,rfl⟩);have m:dH cZ e e.drew:=cK (aN ⟨1,rfl⟩);have l:aB w e.drew:=bE q j;exact⟨w.heap.size+2+1,w.heap.size+2,w.heap.size,w.heap.size+1,_,_,rfl,⟨m.boxed p (by decide),m.boxed o (by decide),(cK (S:=cZ) j).boxed A (by decide),(cK (S:=cZ) j).boxed C (by decide),x.below l,y.below l⟩,l⟩
structure uC(B:Nat)(W:zx)(bs ba bo:Nat)(vs vo:U)(T:List (aJ×U))(a:Nat)(os:List Nat):Prop where
 x1:Boxed W bs 39 vs
 x2:Boxed W ba 3 (iQ a)
 x3:Boxed W bo 24 vo
 st:iW B W vs T
 ot:zq W B 3 1 vo (Z os) (os.map λk=>iQ (k:Nat))
theorem uC.kept{g e f:Nat}{vs j:U}{c:List (aJ×U)}{a:Nat}{i:List Nat}(b:uC B W g e f vs j c a i)(k:dH cZ W W'):uC B W' g e f vs j c a i:=
 ⟨k.boxed b.x1 (by decide),k.boxed b.x2 (by decide),k.boxed b.x3 (by decide),b.st.kept k (by decide) (by decide) (by decide),k.row b.ot (by decide)⟩
theorem aRf(B:Nat)(a f:Option Addr)(c i b g:Nat)(m:List (aJ×U))(e:Nat)(l:List Nat)(w:zx)(s:iW B w (.slice a c b) m)(x:zq w B 3 1 (.slice f i g) (Z l) (l.map λk=>iQ (k:Nat))):Calls zp 103 #[.slice a c b,iQ e,.slice f i g] w λr w'=>∃q o p,r=.returned (.func (.func 136) #[] #[pQ q,pQ o,pQ p])/\uC B w' q o p (.slice a c b) (.slice f i g) m e l/\aB w w':=by
 go_enter Tryz.func103,Tryz.ntmps103;go_wp2;go_ret;have t:aB w (w.alloc (.cells #[.slice a c b] 39)):=aI w _;have u:aB w ((w.alloc (.cells #[.slice a c b] 39)).alloc (.cells #[iQ e] 3)):=t.alloc (by simp) _;have j:aB w (((w.alloc (.cells #[.slice a c b] 39)).alloc (.cells #[iQ e] 3)).alloc (.cells #[.slice f i g] 24)):=u.alloc (by simp;omega) _;refine⟨w.heap.size,w.heap.size+1,w.heap.size+1+1,rfl,⟨?_,?_,?_,s.kept (S:=[]) (cK j) (by simp) (by simp) (by simp),bF x j (zo _)⟩,j⟩
 .exact(Below.heap_alloc _ _ _ (by simp;omega)).trans ((Below.heap_alloc _ _ _ (by simp)).trans (zj w _))
 .refine(Below.heap_alloc _ _ _ (by simp)).trans ?_;have:=zj (w.alloc (.cells #[.slice a c b] 39)) (.cells #[iQ e] 3);rwa[za]at this
 have:=zj ((w.alloc (.cells #[.slice a c b] 39)).alloc (.cells #[iQ e] 3)) (.cells #[.slice f i g] 24);rwa[za,za]at this
theorem aC6{l:Fence}{n:Nat}{m:Program}{c:Func}{u:Array U}{R:Ending->zx->Prop}{N:Nat}{I:zx->Prop}(j:c.results=#[])(g:OwnFrom N (λ(_:Unit) W=>I W))(i:∀v w,I w->R (.returned v) w):∀(a:List Nat) (w:zx),I w->(∀D∈a,N<=D/\w.heap[D]?=V (.deferred (V [])))->a.Nodup->LeavesInM l n m c u R (a.map λD=>{target:=.collected D,args:=#[]}) .returning w
 |[],w,h,_,_=>⟨_,results_none j _ _ _,i _ w h⟩
 |D::a,w,h,hd,hn=>by
  obtain⟨p,e⟩:=hd D (by simp);refine⟨by simp,.inl ⟨D,_,rfl,run_takeDeferred e,?_⟩⟩;refine aC6 j g i a _ (g.putObj (s:=()) _ h p e rfl) (λb f=>?_) (List.nodup_cons.1 hn).2;have t:b≠D:=λo=>(List.nodup_cons.1 hn).1 (by rw[<-o];exact f)
  obtain⟨q,r⟩:=hd b (by simp[f]);exact⟨q,(World.putObj_heap_other t).trans r⟩
def blk(w:zx):U->List Nat
 | .slice (some a) n _=>a.block::(List.range n).filterMap λk=>(zg w (aQ a.block (k*2+1))).bind zv
 |_=>[]
theorem aRg{α β:Type}(a:α->Option β):∀(b:List α),(List.range (Z b)).filterMap (λk=>(b[k]?).bind a)=b.filterMap a
 |[]=>rfl
 |x::r=>by
  have c:=aRg a r;rw[zd,List.range_succ_eq_map,zi,List.filterMap_map];simp only[List.getElem?_cons_zero,Option.bind_some,Function.comp_def,List.getElem?_cons_succ,c,zi]
theorem aRh{α β:Type}{b c:α->Option β}:∀(a:List α),(∀x∈a,b x=c x)->a.filterMap b=a.filterMap c
 |[],_=>rfl
 |x::r,h=>by rw[zi,zi,h x (by simp),aRh r λf e=>h f (by simp[e])]
theorem aAf{a:List (Lt×U)}(g:zq w B 55 2 v (Z a) (bH a)):blk w v=v.ownBlock.toList++(a.map zu).filterMap zv:=by
 obtain⟨p,q,c,m⟩:=tL g;obtain⟨_,⟨b,j⟩|⟨f,r,s,b,_⟩⟩:=g
 .rw[b];have:a=[]:=List.length_eq_zero_iff.1 j;rw[this];rfl
 rw[c]at b;simp at b;obtain⟨rfl,rfl⟩:=b;rw[c];show f::_=[f]++_;rw[List.singleton_append,<-aRg zv (a.map zu),yx];congr 1
 refine aRh _ λk o=>?_
 have i:k<Z a:=List.mem_range.1 o;obtain⟨t,e,_,l⟩:=m k i;simp at e;subst e;rw[l];simp[i]
theorem aAg{e:TypeId}{m:Nat}{l:List U}(g:zq w B e m v n l){b:Nat}(a:zv v=V b):B<=b/\∃f,w.heap[b]?=V (.cells f e (0,0)):=by
 obtain⟨_,⟨c,q⟩|⟨r,o,p,c,i,j,_⟩⟩:=g
 .rw[c]at a;cases a
 rw[c]at a;cases a;exact⟨i,_,j⟩
theorem aRi{f:List Lt}(i:bP B w v f){b:Nat}(hb:b∈blk w v):B<=b/\b<w.heap.size:=by
 obtain⟨o,p,e,m,q⟩:=i;rw[aAf e]at hb;rcases List.mem_append.1 hb with hb|hb
 .obtain⟨a,g,c⟩:=aAg e (b:=b) (by simpa using hb);exact⟨a,(bA c)⟩
 simp only[List.mem_filterMap,List.mem_map]at hb;obtain⟨_,⟨l,j,rfl⟩,hb⟩:=hb;obtain⟨a,g,c⟩:=aAg (m l j) hb;exact⟨a,(bA c)⟩
theorem aRj{c:List Lt}(g:bP B w v c):(blk w v).Nodup:=by obtain⟨l,q,a,r,j⟩:=g;rw[aAf a,z7];refine⟨by cases zv v<;>simp,j,λe i b p f=>?_⟩;subst f;obtain⟨_,m,o⟩:=aAg a (b:=e) (by simpa using i);grind[aAg,bP,jB,blk,bH,aV]
theorem bGd{b:List Lt}(c:bP B w v b)(k:dH S w w')(e:55∉S):blk w' v=blk w v:=by obtain⟨f,g,a,i,j⟩:=c;rw[aAf a,aAf (k.row a e)]
def Ap(w:zx)(vs:List U):Prop:=(vs.flatMap (blk w)).Nodup
theorem Ap.nil(w:zx):Ap w []:=by simp[Ap]
theorem bGe(a:α->List β){b c:List α}(e:b.Perm c):(b.flatMap a).Perm (c.flatMap a):=List.Perm.flatMap_right a e
theorem Ap.perm(a:Ap w vs)(b:vs.Perm us):Ap w us:=(List.Perm.nodup_iff (bGe (blk w) b)).1 a
theorem bGf(b:α->List β){c e:List α}(f:c.Sublist e):(c.flatMap b).Sublist (e.flatMap b):=by
 induction f with
 |slnil=>exact List.Sublist.refl _
 |cons a _ ih=>rw[zb];exact ih.trans (List.sublist_append_right _ _)
 |cons_cons a _ ih=>rw[zb,zb];exact List.Sublist.append (List.Sublist.refl _) ih
theorem Ap.sub(a:Ap w vs)(b:us.Sublist vs):Ap w us:=List.Nodup.sublist (bGf _ b) a
def nG(w:zx)(vs:List U):Prop:=∀v∈vs,∃B a,bP B w v a
theorem nG.flat(a:nG w vs)(k:dH S w w')(c:55∉S):vs.flatMap (blk w')=vs.flatMap (blk w):=by
 induction vs with
 |nil=>rfl
 |cons v r ih=>
  obtain⟨B,b,e⟩:=a v (by simp);grind[bGd,bP,nG,blk]
theorem Ap.kps(a:Ap w vs)(c:nG w vs)(k:dH S w w')(b:55∉S):Ap w' vs:=by unfold Ap;rw[c.flat k b];exact a
theorem aRk{c:α->List β}:∀{a:List α}{b:α},(a.flatMap c).Nodup->b∈a->(c b).Nodup
 |y::a,b,h,hx=>by
  grind
theorem Ap.next{a:List U}(b:Ap w a)(c:k<Z a)(f:Ap w us)(e:∀u∈us,u∈a.take k):Ap w (a[k]::us):=by unfold Ap;rw[zb,z7];grind[blk,aRk,ze,zf,z7,z8,Ap]
theorem Ap.add{e:List Lt}(g:Ap w vs)(b:nG w vs)(k:dH S w w')(i:55∉S)(c:bP w.heap.size w' v e):Ap w' (v::vs):=by unfold Ap;rw[zb,z7,b.flat k i];refine⟨aRj c,g,λp j q a f=>?_⟩;subst f;obtain⟨o,m,a⟩:=List.mem_flatMap.1 a;obtain⟨B,d,l⟩:=b o m;have:=aRi l a;have:=aRi c j;omega
theorem aRl{a b:Nat}(c:a<Z L)(e:b<Z L):(nM L a b c e).Perm L:=List.set_set_perm c e
theorem aF1:∀(f:Nat) (L:List Cd) (k:Nat),(fI f L k).Perm L
 |0,_,_=>List.Perm.refl _
 |f+1,L,k=>by
  unfold fI;split
  .split
   .exact(aF1 f _ _).trans (aRl _ _)
   exact List.Perm.refl _
  exact List.Perm.refl _
theorem aRm:∀(f:Nat) (L:List Cd) (k:Nat),(kY f L k).Perm L
 |0,_,_=>List.Perm.refl _
 |f+1,L,k=>by
  unfold kY;split
  .exact(aRm f _ _).trans (aRl _ _)
  exact List.Perm.refl _
theorem vY(b:Cd)(a:List Cd):(iC (b::a)).Perm a:=by
 unfold iC;cases hl:(b::a).getLast? with
 |none=>simp at hl
 |some y=>
  simp only;refine(aRm _ _ _).trans ?_;cases a with
  |nil=>simp
  |cons z s=>
   have e:(z::s).getLast?=V y:=by simpa[List.getLast?_cons_cons]using hl
   have c:(z::s).dropLast++[y]=z::s:=by grind[List.dropLast_concat_getLast,List.getLast?_eq_some_getLast,Option.some.inj]
   rw[List.set_cons_zero,show Z (b::z::s)-1=Z s+1 by simp,List.take_succ_cons];rw[show (z::s).take (Z s)=(z::s).dropLast by rw[List.dropLast_eq_take];simp];exact((ys y _).symm).trans (by rw[c])
def eD(L:List Cd)(b:List (aJ×U)):List U:=L.map (λa=>.slice a.ad a.ln a.cp)++b.map zu
theorem aRn{b:List (aJ×U)}(e:∀a∈L,bP B w (.slice a.ad a.ln a.cp) a.c/\a.ln=Z a.c)(f:∀c∈b,bP B w c.2 c.1.c):nG w (eD L b):=λv g=>by
 grind[bP,nG,eD]
theorem aC7{a:List Cd}(b:List (aJ×U))(c:L.Perm a):(eD L b).Perm (eD a b):=(c.map _).append_right _
theorem bJi(a:Cd)(L:List Cd)(b:List (aJ×U)):eD (a::L) b=.slice a.ad a.ln a.cp::eD L b:=rfl
theorem aJ0(L:List Cd)(b:List (aJ×U))(a:aJ×U):(a.2::eD L b).Perm (eD L (b++[a])):=by unfold eD;rw[zc,<-zh];exact(ys a.2 _).symm
