import Derived.Test.YthjhkgohninpcaaGreatDoorXSr4M
import Derived.Test.YthjhkgohninpcaaGreatDoorXSr5M
import Derived.Test.YthjhkgohninpcaaGreatDoorGOrdM
import Derived.Test.YthjhkgohninpcaaGreatDoorXKn0M
import Derived.Test.YthjhkgohninpcaaGreatDoorCNew0M
open Array renaming getElem?_eq_some_iff→zy,getElem?_eq_getElem→zn,getElem_modify_self→zm,size_modify→zi
open List renaming mem_cons_of_mem→zt,flatMap_cons→zl,length_eq_zero_iff→zk,mem_append→zj,mem_map→zh,flatMap_nil→zg
open Nat renaming le_refl→zz,le_trans→zp
open Or renaming inr→zx,inl→zv
open Prod renaming fst→zr
namespace Go.Proofs.YthjhkgohninpcaaGreatDoor
open _root_.Go.Proofs.Tryz renaming prog→zu,results10→zo
open Value renaming slice→zq
open World renaming cell?→zw,alloc_heap_new→zs
set_option maxHeartbeats 8000000
set_option maxRecDepth 100000
open Go.RowKit Go.Shelf Go.WideMaps
variable{b:Bool}{L:List Cd}{c:List Lt}{ks:List Nat}{B n:Nat}{v vk vs x0 x1 x2 x3 x4:Value}{w:World}
def aCh(a:Cd)(g d b e f:Nat):Prop:=a.r=g/\a.a=d/\a.b=b/\a.i=e/\a.j=f
inductive jI(lim:Nat)(Q:Nat->List (aT×Value)->List Nat->Bool->Prop):List Cd->Nat->List (aT×Value)->List Nat->Bool->Prop
 |sat {L:List Cd} {n:Nat} {T:List (aT×Value)} {ks:List Nat} (hcv:∀x∈L,∀k∈ks,mK (aZ T k) x.c) (h:kC (λc=>ks.any λk=>dI (aZ T k) c) L.length L=none) (hq:Q 2 T ks false):jI lim Q L n T ks false
 |unsat {L L':List Cd} {n:Nat} {T:List (aT×Value)} {ks:List Nat} {b:Bool} {x:Cd} (s:aT) (hs:aCh x s.r s.a s.b s.i s.j/\x.c=s.c) (hcv:∀x∈L,∀k∈ks,mK (aZ T k) x.c) (h:kC (λc=>ks.any λk=>dI (aZ T k) c) L.length L=some (x,L')) (hc:s.c=[]) (hq:Q 1 (T++[(s,.slice x.ad x.ln x.cp)]) ks b):jI lim Q L n T ks b
 |out {L L':List Cd} {n:Nat} {T:List (aT×Value)} {ks:List Nat} {b:Bool} {x:Cd} (hcv:∀x∈L,∀k∈ks,mK (aZ T k) x.c) (h:kC (λc=>ks.any λk=>dI (aZ T k) c) L.length L=some (x,L')) (hc:x.c≠[]) (hl:T.length=lim) (hq:Q 3 T ks b):jI lim Q L n T ks b
 |take {L L':List Cd} {n:Nat} {T:List (aT×Value)} {ks:List Nat} {b:Bool} {x:Cd} (s:aT) (hs:aCh x s.r s.a s.b s.i s.j/\x.c=s.c) (hcv:∀x∈L,∀k∈ks,mK (aZ T k) x.c) (h:kC (λc=>ks.any λk=>dI (aZ T k) c) L.length L=some (x,L')) (hc:s.c≠[]) (hl:T.length≠lim) (hdv:∀k∈ks,mK s.c (aZ T k))
  (hF:∀y∈lD (T++[(s,.slice x.ad x.ln x.cp)]) T.length (eE T ks s.c),pR y.1.c/\(y.2=0->cD y.1.c=true->cG y.1.c=true))
  (hLF:L'.length+(lD (T++[(s,.slice x.ad x.ln x.cp)]) T.length (eE T ks s.c)).length<=1000000) (hnF:n+(lD (T++[(s,.slice x.ad x.ln x.cp)]) T.length (eE T ks s.c)).length<=1000000)
  (next:∀L2 n2 b2,dB (lD (T++[(s,.slice x.ad x.ln x.cp)]) T.length (eE T ks s.c)) L' n b L2 n2 b2->jI lim Q L2 n2 (T++[(s,.slice x.ad x.ln x.cp)]) (eE T ks s.c) b2):jI lim Q L n T ks b
theorem dB.mem:∀(f:List (aT×Int)) {L j:List Cd} {n l:Nat} {b k:Bool},dB f L n b j l k->∀e∈j,e∈L\/∃x∈f,x.2=0/\cD x.1.c=true/\e.c=x.1.c
 |[],L,j,n,l,b,k,d,e,hy=>by
  obtain ⟨rfl,rfl,rfl⟩:=d;exact zv hy
 |x::f,L,j,n,l,b,k,d,e,hy=>by
  unfold dB at d;split at d
  ·rcases dB.mem f d e hy with a|⟨i,a,g⟩
   ·exact zv a
   ·exact zx ⟨i,zt _ a,g⟩
  ·rename_i m;have p:x.2=0:=Classical.byContradiction λo=>m (zv o)
   have q:cD x.1.c=true:=by
    cases hf:cD x.1.c
    ·exact absurd (zx hf) m
    ·rfl
   split at d
   ·rcases dB.mem f d e hy with a|⟨i,a,g⟩
    ·exact zv a
    ·exact zx ⟨i,zt _ a,g⟩
   ·obtain ⟨r,s,d⟩:=d;rcases dB.mem f d e hy with a|⟨i,a,g⟩
    ·rcases zj.1 (aFt _ _ _ _ a) with h3|h3
     ·exact zv h3
     ·simp at h3;subst h3;exact zx ⟨x,by simp,p,q,rfl⟩
    ·exact zx ⟨i,zt _ a,g⟩
theorem aFx{i:List Lt->Bool}:∀(f:Nat) {L d:List Cd} {a:Cd},kC i f L=some (a,d)->a∈L/\(∀e∈d,e∈L)/\i a.c=false
 |0,L,d,a,h=>by cases h
 |f+1,[],d,a,h=>by cases h
 |f+1,z::r,d,a,h=>by
  unfold kC at h;simp only at h;split at h
  ·obtain ⟨j,k,l⟩:=aFx f h;exact ⟨zU j,λe g=>zU (k e g),l⟩
  ·rename_i m;cases h;exact ⟨by simp,λe g=>zU g,by simpa using m⟩
theorem bBj{e:List (aT×Value)}(f:∀a∈ks,a<e.length)(g:aT×Value):∀a∈eE e ks c,a<(e++[g]).length:=λa d=>by
 simp [eE] at d;simp;rcases d with ⟨d,_⟩|rfl
 ·have:=f a d;omega
 ·omega
theorem bBk(a:List (aT×Value))(ks:List Nat)(c:List Lt):(eE a ks c).length<=ks.length+1:=by have:=List.length_filter_le (λd=>!dI c (aZ a d)) ks;simp [eE];exact this
structure aCi(L:List Cd)(n:Nat)(T:List (aT×Value))(ks:List Nat):Prop where
 l:∀x∈L,cG x.c=true
 t:∀p∈T,cG p.1.c=true
 k:∀k∈ks,k<T.length
 kl:ks.length<=T.length
 ll:L.length<=1000000
 nn:n<=1000000
theorem aCi.take{L' j:List Cd}{l:Nat}{g:List (aT×Value)}{m:Bool}{x:Cd}{o:List Lt->Bool}{q:Nat}(d:aCi L n g ks)(e:aT)(v:Value)(C:x.c=e.c)(A:kC o q L=some (x,L')){f:List (aT×Int)}(z:∀a∈f,pR a.1.c/\(a.2=0->cD a.1.c=true->cG a.1.c=true))(F:L'.length+f.length<=1000000)(H:n+f.length<=1000000)(k:dB f L' n b j l m):aCi j l (g++[(e,v)]) (eE g ks e.c):=by
 obtain ⟨r,s,_⟩:=aFx _ A;have G:=k.len;refine ⟨λa D=>?_,λp hp=>?_,bBj d.k _,?_,by omega,by omega⟩
 ·rcases k.mem _ a D with i|⟨E,i,t,u,y⟩
  ·exact d.l a (s a i)
  ·rw [y];exact (z E i).2 t u
 ·rcases zj.1 hp with hp|hp
  ·exact d.t p hp
  ·simp at hp;subst hp;show cG e.c=true;rw [<-C];exact d.l x r
 ·have:=bBk g ks e.c;have:=d.kl;simp;omega
def zV(w:World)(a:Nat):Nat:=match w.cell? ⟨a,2,none⟩ with|some (.slice _ n _)=>n|_=>0
theorem bR.steps{d:World}{f i:Nat}{a:List (aT×Value)}{g:Bool}(e:bR B d f i v vs vk L n a ks g):zV d f=a.length:=by obtain ⟨j,c,rfl⟩:=aW e.st.row;unfold zV;rw [e.cells.2.2.1]
def bBl(B p l m:Nat)(j:Nat->List (aT×Value)->List Nat->Bool->Prop)(w:World)(k:Ending)(g:World):Prop:=
 ∃(f:Nat) (q s r:Value) (i:List Cd) (o:Nat) (a:List (aT×Value)) (e:List Nat) (d:Bool),k=.returned (.int .i64 f)/\bR B g p l q s r i o a e d/\j f a e d/\a.length<=m+1/\Mv pS B w g
def aCj(B g f d:Nat)(e:Nat->List (aT×Value)->List Nat->Bool->Prop)(w wr:World):Prop:=
 ∃(v vs vk:Value) (L:List Cd) (n:Nat) (a:List (aT×Value)) (ks:List Nat) (b:Bool),bR B wr g f v vs vk L n a ks b/\jI d e L n a ks b/\aCi L n a ks/\a.length<=d/\Mv pS B w wr/\B<=wr.heap.size
theorem bR.onest{a:World}{e o:Nat}{g:Value}{j:List (aT×Value)}{k:Bool}{p:aT×Value}(d:bR B w e o v vs vk L n j ks k)(s:w.grownBy a vs.ownBlock)(x:bZ B w p.2 p.1.c)(y:a.ownsRow B 45 6 g (j.length+1) (iY j++iE p)):a.cell? ⟨e,2,none⟩=some vs/\a.frozen? ⟨e,2,none⟩=false/\bR B (a.setCell ⟨e,2,none⟩ g) e o v g vk L n (j++[p]) ks k/\Mv [83,45] B w (a.setCell ⟨e,2,none⟩ g):=by
 have l:Mv [45] B w a:=aFv d.st.row s (by simp);have i:=l.cells d.box (by decide);have u:=(zy.1 i).1;have m:Mv [83] B a (a.setCell ⟨e,2,none⟩ g):=Mv.of_grown (bX a ⟨e,2,none⟩ _) (λA t=>by cases t;exact ⟨d.base,_,_,i,by simp⟩);have f:Mv [83,45] B w (a.setCell ⟨e,2,none⟩ g):=(l.mono (by decide) (zz _)).trans (m.mono (by decide) (zz _));refine ⟨by simp [zw,i],by simp [World.frozen?,i],⟨?_,⟨f.cells d.heap.box (by decide),f.row d.heap.row (by decide),d.heap.base⟩,⟨?_,λz hq=>?_⟩,f.row d.kp (by decide),λr q=>⟨f.clause (d.cl r q).1 (by decide) (by decide),(d.cl r q).2⟩,d.base⟩,f⟩
 ·show (a.heap.modify e _)[e]?=_;rw [zn (by rw [zi];exact u),zm,(zy.1 i).2];rfl
 ·have:=m.row y (by decide);simpa [iY] using this
 ·rcases zj.1 hq with hq|hq
  ·exact f.clause (d.st.cl z hq) (by decide) (by decide)
  ·simp at hq;subst hq;exact f.clause x (by decide) (by decide)
theorem jI.cv{g:Nat}{d:Nat->List (aT×Value)->List Nat->Bool->Prop}{a:List (aT×Value)}(e:jI g d L n a ks b):∀i∈L,∀f∈ks,mK (aZ a f) i.c:=by cases e<;>assumption
theorem bBm(B j F A:Nat)(S:Nat->List (aT×Value)->List Nat->Bool->Prop)(w:World)(e:aCj B j F A S w w)(g0:A<=100):Calls zu 19 #[.pointer (some ⟨j,0,none⟩),.int .i64 (A:Nat)] w λD f4=>bBl B j F A S w D f4:=by
 have b5:=aA e;clear e;go_enter Tryz.func19,Tryz.ntmps19;go_wp2;go_loopw [] (λwr=>aCj B j F A S w wr) (λwr=>A-zV wr j);case atStart=>exact b5.o
 case round=>
  obtain ⟨v,vs,vk,L,n,f,ks,b,G,a5,U,f7,d2,c4⟩:=hrel;have f9:=U.kl;have b1:=aA (bB9 B j F v vs vk L n f ks b wr G a5.cv U.k (by omega) U.ll c4);have d4:=G.steps;have R:=aA d4;have J:=aA a5;have C:=aA U;have a3:=aA d2;clear G a5 U d2 d4 b5;go_wp2_with (first
   |(go_at_call 35;refine (aB b1).mono ?_)
   |go_in)
  clear b1;rintro D d ⟨d7,V,⟨k,rfl,u⟩|⟨f5,b8,k,rfl,u,N,c9⟩⟩
  ·have f1:b=false/\S 2 f ks false:=by
    cases J.o with
    |sat _ e x=>exact ⟨rfl,x⟩
    |unsat s hs _ e=>rw [k] at e;cases e
    |out _ e=>rw [k] at e;cases e
    |take s hs _ e=>rw [k] at e;cases e
   obtain ⟨rfl,x⟩:=f1;have i:aC d (d.alloc (.cells #[.int .i64 0,.int .i64 0,.int .i64 0,.int .i64 0,.int .i64 0,.slice none 0 0] 45)):=(Below.refl _ d).alloc (zz _) _;have a6:=u.below i;have d8:=aA (bBd B j F d7 vs vk [] n f ks _ a6);have e3:=aA a6;have W:=aA i;have e0:=aA V;have Q:=aA x;unfold uH iZ;clear a6 i V u k x J C R;go_wp2_with (first
    |(go_at_call 36;refine (aB d8).mono ?_;rintro D g ⟨rfl,E⟩;have O:=aA E;clear E)
    |go_in)
   go_ret;exact ⟨2,_,_,_,_,_,_,_,_,rfl,e3.o.below O.o,Q.o,by omega,((a3.o.trans (e0.o.mono (by decide) (zz _))).trans (Mv.of_below W.o)).trans (Mv.of_below O.o)⟩
  ·obtain ⟨i8,i4,i5,i6,i7,y,h2,z,i3,h4,l⟩:=f5;simp only at N c9;subst c9;obtain ⟨a0,a1,rfl⟩:=aW u.st.row;have P:=aA (a3.o.trans (V.mono (S':=pS) (by decide) (zz _)));have c5:B<=d.heap.size:=zp c4 V.size;unfold uH;clear V a3;cases J.o with
   |sat _ e x=>rw [k] at e;cases e
   |out _ e hc0 hl x=>
    rw [k] at e;cases e;have i:∀a,aC d (d.alloc a):=λa=>(Below.refl _ d).alloc (zz _) _
    have T:∀a,(d.alloc a).cell? ⟨j,2,none⟩=some (.slice a0 f.length a1):=λa=>(u.below (i a)).cells.2.2.1
    have f3:((l.length:Int)==0)=false:=by
     have:l.length≠0:=λD=>hc0 (zk.1 D)
     simpa using this
    have X:=aA u;have Q:=aA x;have W:=aA i;clear u k x J C R i N hc0;rw [hl] at T;go_wp2;go_ret;exact ⟨3,_,_,_,_,_,_,_,_,rfl,X.o.below (W.o _),Q.o,by omega,P.o.trans (Mv.of_below (W.o _))⟩
   |unsat s hs _ e hc0 x=>
    rw [k] at e;cases e;obtain ⟨t,m,o,q,r,c⟩:=s;simp only [aCh] at hs;obtain ⟨⟨rfl,rfl,rfl,rfl,rfl⟩,rfl⟩:=hs;simp only at hc0 x;subst hc0;have f8:f.length<=1000:=by omega
    have b3:=aA N;have X:=aA u;have Q:=aA x;simp only [List.length_nil] at *;clear u k J C R N x;go_upto_region 7 with (fail);obtain ⟨g,d6,E,H⟩ : ∃g,d.alloc (.cells #[.int .i64 t,.int .i64 m,.int .i64 o,.int .i64 q,.int .i64 r,.slice y 0 z] 45)=g/\aC d g/\g.heap[d.heap.size]?=some (.cells #[.int .i64 t,.int .i64 m,.int .i64 o,.int .i64 q,.int .i64 r,.slice y 0 z] 45 (0,0)):=⟨_,rfl,(Below.refl _ d).alloc (zz _) _,zs d _⟩;simp only [d6];clear d6;have G:=X.o.below E;have T:=G.cells.2.2.1;have e8:∀a,(g.alloc a).cell? ⟨j,2,none⟩=some (.slice a0 f.length a1):=λa=>aD ((Below.refl _ g).alloc (zz _) a) T
    have e4:g.cell? ⟨d.heap.size,0,none⟩=some (.int .i64 t):=by simp [zw,H]
    have e5:g.cell? ⟨d.heap.size,1,none⟩=some (.int .i64 m):=by simp [zw,H]
    have M:g.cell? ⟨d.heap.size,2,none⟩=some (.int .i64 o):=by simp [zw,H]
    have e6:g.cell? ⟨d.heap.size,3,none⟩=some (.int .i64 q):=by simp [zw,H]
    have e7:g.cell? ⟨d.heap.size,4,none⟩=some (.int .i64 r):=by simp [zw,H]
    have b9:g.cell? ⟨d.heap.size,5,none⟩=some (.slice y 0 z):=by simp [zw,H]
    have f2:=E.size;have a4:=G.below (aL ⟨1,rfl⟩);have d3:g.drew.ownsRow B 45 6 (.slice a0 f.length a1) f.length (iY f):=a4.st.row;have b6:=aA a4;have O:=aA E;have h1:zu.follows .mixedOrders=true:=by kernel_rfl
    have b4:=aA ((b3.o.below E).below (aL ⟨1,rfl⟩));clear G H a4 E b3 X;refine sG ?_;go_region_law (refine mC ?g1 (.tmp 31) (.tmp 33) 22 45 ?g2 (.agg #[.int .i64 0,.int .i64 0,.int .i64 0,.int .i64 0,.int .i64 0,.slice none 0 0]) 6 64 Tryz.underlying22 aCf ?g3 ?g4 ?g5 B _ f.length (iY f) ?g6 (d3.alloc _) ?g7 ?g8 g.heap.size 1 (iE (⟨t,m,o,q,r,[]⟩,.slice y 0 z)) ?g9 ?g10 (aE0 g.drew #[.int .i64 t,.int .i64 m,.int .i64 o,.int .i64 q,.int .i64 r,.slice y 0 z] 45) (aCg (⟨t,m,o,q,r,[]⟩,.slice y 0 z) rfl) ?_;(case g1=>rfl);(case g2=>rfl);(case g3=>rfl);(case g4=>decide);(case g5=>decide);(case g6=>rfl);(case g7=>omega);(case g8=>simp;omega);(case g9=>rfl);(case g10=>rfl);intro h6 i2 a7 c7;obtain ⟨e9,f0,c6,d0⟩:=bR.onest (p:=(⟨t,m,o,q,r,[]⟩,.slice y 0 z)) (b6.o.below ((Below.refl _ g.drew).alloc (zz _) _)) c7 (b4.o.below ((Below.refl _ g.drew).alloc (zz _) _)) a7;have d9:=aA c6;have b7:=aA d0;obtain ⟨h8,h9,rfl⟩:=aW a7;clear a7 c7 c6 d0);all_goals
     refine qD ?_;have e1:=aA ((P.o.trans (Mv.of_below (O.o.trans (((aL (w1:=g.drew) ⟨1,rfl⟩).alloc (zz _) (.cells #[.int .i64 t,.int .i64 m,.int .i64 o,.int .i64 q,.int .i64 r,.slice y 0 z] 45)).mono f2)))).trans (b7.o.mono (S':=pS) (by decide) (zz _)));clear e9 f0 b7 b6 O e4 e5 M e6 e7 b9 T e8 d3 b4 P;go_wp2_with fail;go_ret;exact ⟨1,_,_,_,_,_,_,_,_,rfl,d9.o,Q.o,by simp;omega,e1.o⟩
   |take s hs _ e hc0 hl hdv hF hLF hnF next=>
    rw [k] at e;cases e;obtain ⟨t,m,o,q,r,c⟩:=s;simp only [aCh] at hs;obtain ⟨⟨rfl,rfl,rfl,rfl,rfl⟩,rfl⟩:=hs;simp only at hc0 hdv hF hLF hnF next
    have i:∀a,aC d (d.alloc a):=λa=>(Below.refl _ d).alloc (zz _) _
    have T:∀a,(d.alloc a).cell? ⟨j,2,none⟩=some (.slice a0 f.length a1):=λa=>(u.below (i a)).cells.2.2.1
    have f3:((l.length:Int)==0)=false:=by
     have:l.length≠0:=λD=>hc0 (zk.1 D)
     simpa using this
    have h0:((f.length:Int)==(A:Int))=false:=by simp;omega
    have c8:cG l=true:=C.o.l _ (aFx _ k).1;have a2:=aA (λa=>bBb B j F d7 _ vk b8 n f ks b ⟨t,m,o,q,r,l⟩ y z (d.alloc a) (u.below (i a)) (N.below (i a)) c8 C.o.t hdv C.o.k (by omega) (by omega) (zp c5 (i a).size) _ rfl hF hLF hnF);have e2:aG (∀I,(∃a8 b0 a9 Y Z M,bR B I j F a8 b0 a9 Y Z (f++[(⟨t,m,o,q,r,l⟩,.slice y l.length z)]) (eE f ks l) M/\dB (lD (f++[(⟨t,m,o,q,r,l⟩,.slice y l.length z)]) f.length (eE f ks l)) b8 n b Y Z M/\∃a,Mv pS B (d.alloc a) I)->aCj B j F A S w I/\A-zV I j<A-zV wr j):=aA λI ⟨a8,b0,a9,Y,Z,M,c0,c1,a,c2⟩=>by
     refine ⟨⟨a8,b0,a9,Y,Z,_,_,M,c0,next _ _ _ c1,C.o.take ⟨t,m,o,q,r,l⟩ _ rfl k hF hLF hnF c1,by simp;omega,(P.o.trans (Mv.of_below (i a))).trans c2,zp (zp c5 (i a).size) c2.size⟩,?_⟩;rw [c0.steps,R.o];simp;omega
    unfold qT at a2;simp only at a2;clear u k J C R i N hc0 hF hLF hnF next c8 hl P hdv
    generalize l.length=cl at *;go_wp2_with (first
     |(go_at_call 37;refine (aB a2 _).mono ?_;rintro D I ⟨⟨h5,rfl⟩,h7,i1,i0,f6,h3,b9,c3,d5,d1⟩;have b2:=aA (e2.o I ⟨_,_,_,_,_,_,c3,d5,_,d1⟩);clear c3 d5 d1)
     |go_in)
    go_roundw;case rel=>exact b2.o.1
    case measure=>exact b2.o.2
def aCk(e:Nat->List (aT×Value)->List Nat->Bool->Prop)(a:Nat)(d:List (aT×Value))(ks:List Nat)(b:Bool):Prop:=e a d ks b/\((a=1/\1<=d.length)\/a=2\/a=3)
theorem jI.tag{f:Nat}{d:Nat->List (aT×Value)->List Nat->Bool->Prop}{e:List (aT×Value)}(a:jI f d L n e ks b):jI f (aCk d) L n e ks b:=by
 induction a with
 |sat hv a hq=>exact jI.sat hv a ⟨hq,zx (zv rfl)⟩
 |unsat s hs hv a hc hq=>exact jI.unsat s hs hv a hc ⟨hq,zv ⟨rfl,by simp⟩⟩
 |out hv a hc hl hq=>exact jI.out hv a hc hl ⟨hq,zx (zx rfl)⟩
 |take s hs hv a hc hl hd hF hLF hnF _ ih=>exact jI.take s hs hv a hc hl hd hF hLF hnF ih
theorem bBn(B a q:Nat)(v vk:Value)(L:List Cd)(n:Nat)(l:List (aT×Value))(ks:List Nat)(g:Bool)(i:Option Addr)(d j:Nat)(w:World)(k:bR B w a q v (.slice i d j) vk L n l ks g):Calls zu 18 #[.pointer (some ⟨a,0,none⟩),.int .i64 3] w λp e=>p=.returned (.agg #[.int .i64 3,.slice i d j,.slice none 0 0,.int .i64 d,.bool g])/\aC w e:=by
 obtain ⟨_,_,m,_,o⟩:=k.cells;have r:=λf=>aD ((Below.refl w.heap.size w).alloc (zz _) f) m
 have s:=λf=>aD ((Below.refl w.heap.size w).alloc (zz _) f) o
 clear k;go_enter Tryz.func18,Tryz.ntmps18;go_wp2_with fail;go_region_held3 (λe=>e.cell? ⟨a,2,none⟩=some (.slice i d j)/\e.cell? ⟨a,4,none⟩=some (.bool g)) (go_keep) (fail);all_goals
  go_wp2_with fail;go_returns;refine ⟨rfl,?_⟩;exact (((Below.refl _ w).alloc (zz _) _).alloc (by simp) _).trans (Below.mono (aL ⟨1,rfl⟩) (by simp;omega))
def xT(d:Nat)(vs vk:Value)(a:Nat)(b:Bool):Value:=.agg #[.int .i64 d,vs,vk,.int .i64 a,.bool b]
structure zW(B:Nat)(w:World)(vd:Nat)(vs vk:Value)(used:Nat)(T:List (aT×Value))(ks:List Nat):Prop where
 st:jS B w vs T
 kp:(vd=2/\eC B w vk ks)\/(vd≠2/\vk=.slice none 0 0)
 us:used=if vd=1 then T.length-1 else T.length
theorem bBo(B m q:Nat)(v vs vk:Value)(L:List Cd)(n i:Nat)(a:List (aT×Value))(ks:List Nat)(j:Bool)(w:World)(d:bR B w m q v vs vk L n a ks j)(y:(i=1/\1<=a.length)\/i=2\/i=3)(u:a.length<=1000000):Calls zu 18 #[.pointer (some ⟨m,0,none⟩),.int .i64 i] w λp o=>∃f s g k r l t,p=.returned (xT i (.slice f s g) (.slice k r l) t j)/\zW B o i (.slice f s g) (.slice k r l) t a ks/\aC w o:=by
 obtain ⟨f,g,rfl⟩:=aW d.st.row;obtain ⟨k,l,rfl⟩:=d.kp.shape;rcases y with ⟨rfl,x⟩|rfl|rfl
 ·refine (bBh B m q v _ L n a ks j f a.length g w d x u).mono ?_;rintro p o ⟨rfl,e⟩;exact ⟨f,a.length,g,none,0,0,_,rfl,⟨(d.below e).st,zx ⟨by decide,rfl⟩,rfl⟩,e⟩
 ·refine (bBi B m q v L n a ks j f k a.length g _ l w d).mono ?_;rintro p o ⟨rfl,e⟩;exact ⟨f,a.length,g,k,_,l,_,rfl,⟨(d.below e).st,zv ⟨rfl,(d.below e).kp⟩,rfl⟩,e⟩
 ·refine (bBn B m q v _ L n a ks j f a.length g w d).mono ?_;rintro p o ⟨rfl,e⟩;exact ⟨f,a.length,g,none,0,0,_,rfl,⟨(d.below e).st,zx ⟨by decide,rfl⟩,rfl⟩,e⟩
theorem aMy{e g:Type}{f:e->List g}:∀{a:List e} {d:e},(a.flatMap f).Nodup->d∈a->(f d).Nodup
 |y::a,d,h,hx=>by
  rw [zl,List.nodup_append] at h;rcases List.mem_cons.1 hx with rfl|hx
  ·exact h.1
  ·exact aMy h.2.1 hx
theorem lL.cls{g:List (List (Lt×Value)×Value)}(a:lL B w v g):rO B w v (g.map λe=>(e.1.map zr,e.2)):=by
 refine ⟨?_,λe i=>?_⟩
 ·have:=a.mem.1;simpa [List.map_map,Function.comp_def] using this
 ·obtain ⟨f,d,rfl⟩:=zh.1 i;refine ⟨f.1,rfl,(a.mem.2 f d).1.1,(a.mem.2 f d).1.2,?_⟩;have:=aMy a.atoms d;simpa [List.filterMap_map,Function.comp_def] using this
theorem rO.fsts(d:List (List (Lt×Value)×Value)):(d.map λa=>(a.1.map zr,a.2)).map zr=d.map λa=>a.1.map zr:=by simp [List.map_map,Function.comp_def]
def A5(w:World)(b:Nat)(x0 x1 x2 x3 x4:Value):Prop:=w.heap[b]?=some (.cells #[x0,x1,x2,x3,x4] 34 (0,0))
def oN(w:World)(b:Nat)(x0 x1 x2 x3 x4:Value):World:=(((((w.setCell ⟨b,0,none⟩ x0).setCell ⟨b,1,none⟩ x1).setCell ⟨b,2,none⟩ x2).setCell ⟨b,3,none⟩ x3).setCell ⟨b,4,none⟩ x4)
theorem A5.cells{b:Nat}(a:A5 w b x0 x1 x2 x3 x4):w.cell? ⟨b,0,none⟩=some x0/\w.cell? ⟨b,1,none⟩=some x1/\w.cell? ⟨b,2,none⟩=some x2/\w.cell? ⟨b,3,none⟩=some x3/\w.cell? ⟨b,4,none⟩=some x4:=by refine ⟨?_,?_,?_,?_,?_⟩<;>simp [zw,show w.heap[b]?=_ from a]
theorem A5.frz{b:Nat}(a:A5 w b x0 x1 x2 x3 x4)(d:Nat):w.frozen? ⟨b,d,none⟩=false:=by simp [World.frozen?,show w.heap[b]?=_ from a]
theorem A5.put{b:Nat}(d:A5 w b x0 x1 x2 x3 x4)(i j l m o:Value):A5 (oN w b i j l m o) b i j l m o/\w.grownBy (oN w b i j l m o) (some b):=by
 have e:∀(a:World) (g:Array Value) (k:Nat) (v:Value),a.heap[b]?=some (.cells g 34 (0,0))->(a.setCell ⟨b,k,none⟩ v).heap[b]?=some (.cells (g.setIfInBounds k v) 34 (0,0)):=λa g k v f=>by
  have p:=(zy.1 f).1;show (a.heap.modify b _)[b]?=_;rw [zn (by rw [zi];exact p),zm,(zy.1 f).2];rfl
 constructor
 ·unfold A5 oN;rw [e _ _ 4 _ (e _ _ 3 _ (e _ _ 2 _ (e _ _ 1 _ (e _ _ 0 _ d))))];simp
 ·unfold oN;have d:∀(a:World) (k:Nat) (v:Value),w.grownBy a (some b)->w.grownBy (a.setCell ⟨b,k,none⟩ v) (some b):=λa k v f=>lR f (bX a ⟨b,k,none⟩ v)
  exact d _ _ _ (d _ _ _ (d _ _ _ (d _ _ _ (d _ _ _ ⟨rfl,rfl,rfl,zz _,λ_ _ _=>rfl⟩))))
theorem xU{d e:World}{b:Nat}(a:aC w d)(i:d.grownBy e (some b))(g:w.heap.size<=b):aC w e:=
 a.grown i a.size (λj f=>by cases f;exact g)
theorem jS.low{a:Nat}{d:List (aT×Value)}(e:jS B w v d)(f:a<=B):jS a w v d:=⟨eJ e.row f,λp g=>(e.cl p g).low f⟩
theorem zW.kept{S:List TypeId}{d:Nat}{j:World}{i:Nat}{g:Nat}{e:List (aT×Value)}(h:zW B w i vs vk g e ks)(f:d<=B)(k:dT S w j)(l:45∉S)(m:55∉S)(o:106∉S)(p:3∉S):zW d j i vs vk g e ks:=
 ⟨(h.st.low f).kept k l m o,by rcases h.kp with ⟨a,b⟩|h;exact zv ⟨a,k.row (eJ b f) p⟩;exact zx h,h.us⟩
def rP:Value:=.agg #[.int .i64 0,.slice none 0 0,.slice none 0 0,.int .i64 0,.bool false]
def xV(o:ByteArray)(d:Int)(l:List (List Lt)->Nat->List (aT×Value)->List Nat->Bool->Prop)(w:World)(e:Ending)(k:World):Prop:=
 ∃i m a,gI o i m a/\aC w k/\((a≠0/\e=.returned (.tuple #[rP,.int .i64 a]))\/(a=0/\¬(1<=d/\d<=100)/\e=.returned (.tuple #[rP,.int .i64 7]))\/
  (a=0/\1<=d/\d<=100/\∃f vs vk j b g ks,e=.returned (.tuple #[xT f vs vk j b,.int .i64 0])/\zW w.heap.size k f vs vk j g ks/\aCk (l i) f g ks b))
theorem bBp(o:ByteArray)(f:Int)(r:List (List Lt)->Nat->List (aT×Value)->List Nat->Bool->Prop)(w:World)(f1:o.size<=140737488355328)(c5:∀a e2,gI o a e2 0->(∀c∈a,cG c=true)/\a.length<=1000/\∀d:Nat,f=d->1<=d->d<=100->∀L n,dB (mZ a) [] 0 false L n false->jI d (r a) L n [] [] false):Calls zu 10 #[.string o,.int .i64 f] w λI g1=>xV o f r w I g1:=by
 obtain ⟨e,f2,Z,a4,h0⟩ : ∃e,w.alloc (.cells #[.int .i64 0,.slice none 0 0,.slice none 0 0,.int .i64 0,.bool false] 34)=e/\aC w e/\A5 e w.heap.size (.int .i64 0) (.slice none 0 0) (.slice none 0 0) (.int .i64 0) (.bool false)/\e.heap.size=w.heap.size+1:=⟨_,rfl,(Below.refl _ w).alloc (zz _) _,zs w _,by simp⟩;have q:=aA (aD0 o e f1);have X:=aA c5;clear c5;go_enter Tryz.func10,Tryz.ntmps10;go_upto_region 1 with (fail);clear f2;go_wp2_with (first
  |(go_at_call 15;refine (aB q).mono ?_)
  |go_in)
 clear q;rintro I g ⟨v,a6,g4,J,rfl,l,M,y⟩;have i:A5 g w.heap.size (.int .i64 0) (.slice none 0 0) (.slice none 0 0) (.int .i64 0) (.bool false):=(y.block _ (by omega)).trans a4;have z:aC w g:=Z.trans (y.mono (by omega));have b2:=y.size;obtain ⟨h2,h3,rfl⟩:=aW M.mem.1;have b8:=aA l;have c1:=aA i;have b4:=aA z;by_cases a0:J=0
 ·subst a0;obtain ⟨A,a2,a3⟩:=X.o _ _ l;by_cases a1:1<=f/\f<=100
  ·obtain ⟨d,rfl⟩ : ∃d:Nat,f=d:=⟨f.toNat,by omega⟩;have e7:1<=d:=by omega
   have c9:d<=100:=by omega
   have g5:decide ((d:Int)<1)=false:=by simp;omega
   have g6:decide ((100:Int)<(d:Int))=false:=by simp;omega
   have d1:∀c∈a6.map (λR=>R.1.map zr),cG c=true:=A;have q:=aA (bBg e.heap.size _ _ g M.cls (λR k=>A R.1 (by
    obtain ⟨f7,f0,rfl⟩:=zh.1 k;exact zh.2 ⟨f7,f0,rfl⟩)) (by simpa using a2) b2)
   rw [rO.fsts] at q;obtain ⟨a,e9⟩ : ∃a,(a6.map λR=>R.1.map zr)=a:=⟨_,rfl⟩;rw [e9] at q a3 d1 a2 A l;have c0:aG (∀t k p,xS e.heap.size g t k a a.length p->aCj e.heap.size t k d (aCk (r a)) p p):=aA λt k p ⟨h1,c2,d4,e4,Y,a7⟩=>by
    have e6:(mZ a).length=a.length:=by simp [mZ]
    rw [show (mZ a).take a.length=mZ a by rw [<-e6,List.take_length]] at Y;have e8:=dB.len _ Y;simp at e8;refine ⟨_,_,_,c2,d4,[],[],false,e4,(a3 d rfl e7 c9 c2 d4 Y).tag,⟨λg3 f3=>?_,by simp,by simp,by simp,by omega,by omega⟩,by simp,Mv.refl _ _ _,zp b2 a7.size⟩;rcases Y.mem _ g3 f3 with e3|⟨h4,d2,_,_,f4⟩
    ·simp at e3
    ·rw [f4];simp only [mZ,List.mem_mapIdx] at d2;obtain ⟨f5,a9,rfl⟩:=d2;exact A _ (List.getElem_mem a9)
   have b9:=aA l;clear l a4 i M Z y z X A a2 a3 d1 b8 a1;generalize a6.length=qn at *;go_wp2_with (first
    |(go_at_call 17;refine (aB q).mono ?_)
    |go_in)
   rintro I p ⟨t,k,rfl,b1⟩;have b5:=aA (show Mv pS e.heap.size g p by
    obtain ⟨_,_,_,_,_,a7⟩:=b1;exact a7.mono (by decide) (zz _))
   have b3:=aA (bBm e.heap.size t k d (aCk (r a)) p (c0.o t k p b1) c9);clear b1 c0 q;go_wp2_with (first
    |(go_at_call 19;refine (aB b3).mono ?_)
    |go_in)
   rintro I g2 ⟨u,f8,g0,f9,e1,f6,c3,d3,s,rfl,c6,b0,e5,d0⟩;have b6:=aA (b5.o.trans d0);have a5:=aA (bBo e.heap.size t k f8 g0 f9 e1 f6 u c3 d3 s g2 c6 b0.2 (by omega));unfold xT at a5;have b7:=aA b0;clear c6 b0 e5 d0 b3 b5;go_wp2_with (first
    |(go_at_call 18;refine (aB a5).mono ?_)
    |go_in)
   rintro I T ⟨U,W,V,O,Q,P,H,rfl,c4,c7⟩;have a8:Mv pS e.heap.size g T:=b6.o.trans (Mv.of_below c7);have N:A5 T w.heap.size (.int .i64 0) (.slice none 0 0) (.slice none 0 0) (.int .i64 0) (.bool false):=a8.cells c1.o (by decide);have c8:aC w T:=b4.o.trans ((a8.below b2).mono (by omega));obtain ⟨d5,d6,d7,d8,d9⟩:=N.cells;have e0:=N.frz;obtain ⟨m,j⟩:=N.put (.int .i64 u) (.slice U W V) (.slice O Q P) (.int .i64 H) (.bool s);obtain ⟨C,D,E,F,G⟩:=m.cells;have x:aG (xV o d r w (.returned (.tuple #[xT u (.slice U W V) (.slice O Q P) H s,.int .i64 0])) (oN T w.heap.size (.int .i64 u) (.slice U W V) (.slice O Q P) (.int .i64 H) (.bool s))):=aA
    ⟨a,_,_,b9.o,xU c8 j (zz _),zx (zx ⟨rfl,by omega,by omega,u,_,_,H,s,c3,d3,rfl,c4.kept (by omega) (Mv.of_grown (S:=[34]) (B:=0) j (λf5 a9=>by cases a9;exact ⟨Nat.zero_le _,_,_,N,by simp⟩)).kps (by decide) (by decide) (by decide) (by decide),b7.o⟩)⟩
   clear c4 c7 a8 N c8 m j a5 b6 b7 b9 b4 c1;go_wp2_with (fail);refine bodyPost_ret (v:=.tuple #[xT u (.slice U W V) (.slice O Q P) H s,.int .i64 0]) (w:=oN T w.heap.size (.int .i64 u) (.slice U W V) (.slice O Q P) (.int .i64 H) (.bool s)) (by simp [results,zo,go_sem,C,D,E,F,G,xT];try rfl) rfl ?_;exact x.o
  ·have hl3:f<1\/100<f:=by omega
   obtain ⟨d5,d6,d7,d8,d9⟩:=i.cells;have e0:=i.frz;obtain ⟨m,j⟩:=i.put (.int .i64 0) (.slice none 0 0) (.slice none 0 0) (.int .i64 0) (.bool false);obtain ⟨C,D,E,F,G⟩:=m.cells;have x:aG (xV o f r w (.returned (.tuple #[rP,.int .i64 7])) (oN g w.heap.size (.int .i64 0) (.slice none 0 0) (.slice none 0 0) (.int .i64 0) (.bool false))):=aA ⟨_,_,_,l,xU z j (zz _),zx (zv ⟨rfl,a1,rfl⟩)⟩;clear l a4 i m j M Z y z X A a2 a3 b8;rcases hl3 with hl3|hl3
   ·clear a1;go_wp2_with (fail);refine bodyPost_ret (v:=.tuple #[rP,.int .i64 7]) (w:=oN g w.heap.size (.int .i64 0) (.slice none 0 0) (.slice none 0 0) (.int .i64 0) (.bool false)) (by simp [results,zo,go_sem,C,D,E,F,G,rP];try rfl) rfl ?_;exact x.o
   ·have g9:decide (f<1)=false:=by simp;omega
    clear a1;go_wp2_with (fail);refine bodyPost_ret (v:=.tuple #[rP,.int .i64 7]) (w:=oN g w.heap.size (.int .i64 0) (.slice none 0 0) (.slice none 0 0) (.int .i64 0) (.bool false)) (by simp [results,zo,go_sem,C,D,E,F,G,rP];try rfl) rfl ?_;exact x.o
 ·have g7:(J==0)=false:=by simpa using a0
  have g8:(J != 0)=true:=by simpa using a0
  obtain ⟨d5,d6,d7,d8,d9⟩:=i.cells;have e0:=i.frz;obtain ⟨m,j⟩:=i.put (.int .i64 0) (.slice none 0 0) (.slice none 0 0) (.int .i64 0) (.bool false);obtain ⟨C,D,E,F,G⟩:=m.cells;have x:aG (xV o f r w (.returned (.tuple #[rP,.int .i64 J])) (oN g w.heap.size (.int .i64 0) (.slice none 0 0) (.slice none 0 0) (.int .i64 0) (.bool false))):=aA ⟨_,_,_,l,xU z j (zz _),zv ⟨a0,rfl⟩⟩;clear l a4 i m j M Z y z X;go_wp2_with (fail);refine bodyPost_ret (v:=.tuple #[rP,.int .i64 J]) (w:=oN g w.heap.size (.int .i64 0) (.slice none 0 0) (.slice none 0 0) (.int .i64 0) (.bool false)) (by simp [results,zo,go_sem,C,D,E,F,G,rP];try rfl) rfl ?_;exact x.o
theorem bBq(q:ByteArray)(x:Int)(y:List (List Lt)->Nat->List (aT×Value)->List Nat->Bool->Prop)(w:World)(a1:q.size<=140737488355328)(R:∀f Y,gI q f Y 0->(∀c∈f,cG c=true)/\f.length<=1000/\∀D:Nat,x=D->1<=D->D<=100->∀L n,dB (mZ f) [] 0 false L n false->jI D (y f) L n [] [] false):Calls zu 5 #[.string q,.int .i64 x] w λG b0=>xV q x y w G b0:=by
 obtain ⟨r,a2,T,U,b1⟩ : ∃r,w.alloc (.cells #[.int .i64 0,.slice none 0 0,.slice none 0 0,.int .i64 0,.bool false] 34)=r/\aC w r/\A5 r w.heap.size (.int .i64 0) (.slice none 0 0) (.slice none 0 0) (.int .i64 0) (.bool false)/\r.heap.size=w.heap.size+1:=⟨_,rfl,(Below.refl _ w).alloc (zz _) _,zs w _,by simp⟩;have N:=aA (bBp q x y r a1 R);clear R;go_enter Tryz.func5,Tryz.ntmps5;go_upto_region 1 with (fail);clear a2;go_wp2_with (first
  |(go_at_call 10;refine (aB N).mono ?_)
  |go_in)
 clear N;rintro G E ⟨f,F,H,C,M,P⟩;have i:A5 E w.heap.size (.int .i64 0) (.slice none 0 0) (.slice none 0 0) (.int .i64 0) (.bool false):=(M.block _ (by omega)).trans U;have A:aC w E:=T.trans (M.mono (by omega));obtain ⟨m,j,l,k,a,e,d,o,p,z,rfl,Q⟩ : ∃(m:Int) (j:Option Addr) (l k:Nat) (a:Option Addr) (e d:Nat) (o:Int) (p:Bool) (z:Int),G=.returned (.tuple #[.agg #[.int .i64 m,.slice j l k,.slice a e d,.int .i64 o,.bool p],.int .i64 z])/\xV q x y w (.returned (.tuple #[.agg #[.int .i64 m,.slice j l k,.slice a e d,.int .i64 o,.bool p],.int .i64 z])) (oN E w.heap.size (.int .i64 m) (.slice j l k) (.slice a e d) (.int .i64 o) (.bool p)):=by
  rcases P with ⟨s,rfl⟩|⟨s,I,rfl⟩|⟨s,I,Z,W,vs,vk,V,b,O,ks,rfl,J,a0⟩
  ·obtain ⟨u,g⟩:=i.put (.int .i64 0) (.slice none 0 0) (.slice none 0 0) (.int .i64 0) (.bool false);exact ⟨_,_,_,_,_,_,_,_,_,_,rfl,f,F,H,C,xU A g (zz _),zv ⟨s,rfl⟩⟩
  ·obtain ⟨u,g⟩:=i.put (.int .i64 0) (.slice none 0 0) (.slice none 0 0) (.int .i64 0) (.bool false);exact ⟨_,_,_,_,_,_,_,_,_,_,rfl,f,F,H,C,xU A g (zz _),zx (zv ⟨s,I,rfl⟩)⟩
  ·obtain ⟨a8,a9,rfl⟩:=aW J.st.row;obtain ⟨a,e,d,rfl⟩ : ∃a e d,vk=.slice a e d:=by
    rcases J.kp with ⟨_,t⟩|⟨_,t⟩
    ·obtain ⟨a,d,rfl⟩:=aW t;exact ⟨_,_,_,rfl⟩
    ·exact ⟨_,_,_,t⟩
   obtain ⟨u,g⟩:=i.put (.int .i64 W) (.slice a8 O.length a9) (.slice a e d) (.int .i64 V) (.bool b);exact ⟨_,_,_,_,_,_,_,_,_,_,rfl,f,F,H,C,xU A g (zz _),zx (zx ⟨s,I,Z,W,_,_,V,b,O,ks,rfl,J.kept (by omega) (Mv.of_grown (S:=[34]) (B:=0) g (λb2 t=>by cases t;exact ⟨Nat.zero_le _,_,_,i,by simp⟩)).kps (by decide) (by decide) (by decide) (by decide),a0⟩)⟩
 obtain ⟨b3,b4,b5,b6,b7⟩:=i.cells;have b8:=i.frz;obtain ⟨u,g⟩:=i.put (.int .i64 m) (.slice j l k) (.slice a e d) (.int .i64 o) (.bool p);obtain ⟨a3,a4,a5,a6,a7⟩:=u.cells;have X:=aA Q;clear Q C P U i A T M u g;go_wp2_with (fail);refine bodyPost_ret (v:=.tuple #[.agg #[.int .i64 m,.slice j l k,.slice a e d,.int .i64 o,.bool p],.int .i64 z]) (w:=oN E w.heap.size (.int .i64 m) (.slice j l k) (.slice a e d) (.int .i64 o) (.bool p)) (by simp [results,Tryz.results5,go_sem,a3,a4,a5,a6,a7];try rfl) rfl ?_;exact X.o
theorem dB.push{x:aT×Int}{f:List (aT×Int)}{L':List Cd}{e:Nat}{d:Bool}(a:dB (x::f) L n b L' e d)(j:x.2=0)(k:cD x.1.c=true)(l:qW x.1.c=false):∃g i,dB f (fZ L.length (L++[jH x.1 g i n]) L.length) (n+1) b L' e d:=by unfold dB at a;rw [aI (by simp [j,k]),aI (by simp [l])] at a;exact a
theorem aMz:zR pN:=⟨by kernel_rfl,by kernel_rfl⟩
theorem aFy(c d:List Lt)(a:c=cP\/c=eW)(e:d=cP\/d=eW):lP c d=[(0,0)]:=by rcases a with rfl|rfl<;>rcases e with rfl|rfl<;>simp [lP,oF,mT,oE,cP,eW,List.range_succ]
theorem aN0(a:c=cP\/c=eW)(d:Nat):tZ c d=[]:=by unfold tZ;rw [aFy c c a a];simp [oH]
theorem aN1(a:c=cP\/c=eW)(d b:Nat):kQ c d c b=[]:=by unfold kQ;rw [aFy c c a a];simp [mV]
theorem bBr:tY eW 0 cP 0=([],true,0):=
 aLg (c:=eW) (d:=cP) (i:=0) (j:=0) (by decide) (by decide) (aMn aMz 0 1 [] (by simp) (by decide))
theorem bBs(a b:Nat):kQ eW a cP b=[(⟨2,a,b,0,0,[]⟩,0)]:=by
 have d:mV eW a cP b (0,0)=some (⟨2,a,b,0,0,[]⟩,0):=by unfold mV;rw [aJ (by decide)];simp only [bBr];rw [aJ (by simp)]
 unfold kQ;rw [aFy _ _ (zx rfl) (zv rfl)];simp [d]
def eX:aT:=⟨1,0,0,0,0,cP⟩
def gR:aT:=⟨1,1,0,0,0,eW⟩
def kD:aT:=⟨2,1,0,0,0,[]⟩
theorem bBt:dI cP eW=false:=aCt (l:=(false,[pN])) (by simp [cP]) (by simp [eW])
theorem bBu:dI eW cP=false:=aCt (l:=(true,[pN])) (by simp [eW]) (by simp [cP])
theorem bBv(v:Value):lD ([]++[(eX,v)]) 0 [0]=[]:=by unfold lD;rw [show aZ ([]++[(eX,v)]) 0=cP from rfl,aN0 (zv rfl)];simp only [zl,zg,List.nil_append,List.append_nil];exact aN1 (zv rfl) 0 0
theorem bBw(v a:Value):lD ([(eX,v)]++[(gR,a)]) 1 [0,1]=[(kD,0)]:=by unfold lD;rw [show aZ ([(eX,v)]++[(gR,a)]) 1=eW from rfl,aN0 (zx rfl)];simp only [zl,zg,List.nil_append,List.append_nil];rw [show aZ ([(eX,v)]++[(gR,a)]) 0=cP from rfl,show aZ ([(eX,v)]++[(gR,a)]) 1=eW from rfl];rw [bBs,aN1 (zx rfl)];rfl
theorem bBx{x a:Cd}(d:kR a x=false):fZ 1 [x,a] 1=[x,a]:=by simp [fZ,d]
def aN2(d:Nat)(a:List (aT×Value))(_:List Nat)(b:Bool):Prop:=d=1/\a.map zr=[eX,gR,kD]/\b=false
theorem bBy(d:dB (mZ [cP,eW]) [] 0 false L n false):jI 100 aN2 L n [] [] false:=by
 have A:mZ [cP,eW]=[(eX,0),(gR,0)]:=rfl;rw [A] at d;obtain ⟨i,j,d⟩:=d.push rfl (by kernel_rfl) (by kernel_rfl);obtain ⟨r,s,d⟩:=d.push rfl (by kernel_rfl) (by kernel_rfl);obtain ⟨rfl,rfl,_⟩:=d;obtain ⟨a,k⟩ : ∃g,jH eX i j 0=g:=⟨_,rfl⟩;obtain ⟨f,o⟩ : ∃g,jH gR r s (0+1)=g:=⟨_,rfl⟩;have C:fZ (fZ ([]:List Cd).length ([]++[jH eX i j 0]) ([]:List Cd).length).length (fZ ([]:List Cd).length ([]++[jH eX i j 0]) ([]:List Cd).length++[jH gR r s (0+1)]) (fZ ([]:List Cd).length ([]++[jH eX i j 0]) ([]:List Cd).length).length=[a,f]:=by subst k o;exact bBx (by simp [kR,jH,eX,gR,cP,eW,aR])
 rw [C];have D:kS [a,f]=[f]:=by subst k o;rfl
 have z:a.c=cP:=by subst k;rfl
 have q:f.c=eW:=by subst o;rfl
 have F:(zq a.ad a.ln a.cp)=.slice i 1 j:=by subst k;rfl
 refine jI.take eX ⟨by subst k;exact ⟨rfl,rfl,rfl,rfl,rfl⟩,z⟩ (L':=[f]) (x:=a) (by simp) ?_ (by simp [eX,cP]) (by decide) (by simp) ?_ ?_ ?_ ?_
 ·rw [<-D];rfl
 all_goals rw [show eE [] [] eX.c=[0] from rfl,show ([]:List (aT×Value)).length=0 from rfl,bBv]
 ·simp
 ·simp
 ·simp
 rintro x E y ⟨rfl,rfl,rfl⟩;have e:eE ([]++[(eX,zq a.ad a.ln a.cp)]) [0] gR.c=[0,1]:=by unfold eE;simp only [List.filter];rw [show aZ ([]++[(eX,zq a.ad a.ln a.cp)]) 0=cP from rfl,show gR.c=eW from rfl,bBu];rfl
 refine jI.take gR ⟨by subst o;exact ⟨rfl,rfl,rfl,rfl,rfl⟩,q⟩ (L':=[]) (x:=f) (λg p u e=>by
  simp at p e;subst p e;rw [q];exact aGe (by decide)) ?_ (by simp [gR,eW]) (by simp) (λu e=>by
  simp at e;subst e;exact aGe (by decide)) ?_ ?_ ?_ ?_
 ·show kC _ 1 [f]=_;unfold kC;simp only;rw [q,aI (by simp;exact bBt)];rfl
 all_goals rw [e]
 all_goals rw [show ([]++[(eX,zq a.ad a.ln a.cp)]:List (aT×Value)).length=1 from rfl,show ([]++[(eX,zq a.ad a.ln a.cp)]:List (aT×Value))=[(eX,zq a.ad a.ln a.cp)] from rfl,bBw]
 ·intro G t;simp at t;subst t;exact ⟨⟨by simp [kD],by simp [kD]⟩,λ_ _=>by kernel_rfl⟩
 ·simp
 ·simp
 intro x E y d;obtain ⟨l,m,d⟩:=d.push rfl (by kernel_rfl) (by kernel_rfl);obtain ⟨rfl,rfl,rfl⟩:=d;refine jI.unsat kD ⟨⟨rfl,rfl,rfl,rfl,rfl⟩,rfl⟩ (x:=jH kD l m (0+1+1)) (L':=[]) (λg p u e=>?_) ?_ rfl ⟨rfl,rfl,rfl⟩
 ·obtain rfl:g=jH kD l m (0+1+1):=by simpa [fZ] using p
  simp at e;rcases e with rfl|rfl<;>exact aNu (by simp [aZ,eX,gR,kD,cP,eW,jH])
 show kC _ 1 [jH kD l m (0+1+1)]=_;unfold kC;simp only;rw [aI ?_]
 ·rfl
 ·simp only [show (jH kD l m (0+1+1)).c=[] from rfl,List.any_cons,List.any_nil,Bool.or_false,Bool.or_eq_true,not_or];refine ⟨?_,?_⟩
  ·rw [aCs (by simp [aZ,eX,gR,cP,eW])];simp
  ·rw [aCs (by simp [aZ,eX,gR,cP,eW])];simp
theorem aN3:∀(a:List (aT×Value)) (d e:Nat) (f:d<a.length),e<6->(iY a)[d*6+e]?=(iE a[d])[e]?
 |[],d,_,f,_=>by simp at f
 |x::a,0,e,_,hm=>by
  rw [show iY (x::a)=iE x++iY a from rfl,List.getElem?_append_left (by simp [iE];omega)];simp
 |x::a,d+1,e,f,hm=>by
  have:=aN3 a d e (by simpa using f) hm;rw [show iY (x::a)=iE x++iY a from rfl,List.getElem?_append_right (by simp [iE];omega),show (d+1)*6+e-(iE x).length=d*6+e by simp [iE];omega,this];simp
theorem jS.cells{W:World}{d l:Nat}{a:List (aT×Value)}(i:jS B W (.slice (some ⟨d,0,none⟩) a.length l) a){k:Nat}(j:k<a.length):W.cell? ⟨d,k*6,none⟩=some (.int .i64 a[k].1.r)/\W.cell? ⟨d,k*6+1,none⟩=some (.int .i64 a[k].1.a)/\W.cell? ⟨d,k*6+2,none⟩=some (.int .i64 a[k].1.b)/\W.cell? ⟨d,k*6+3,none⟩=some (.int .i64 a[k].1.i)/\W.cell? ⟨d,k*6+4,none⟩=some (.int .i64 a[k].1.j)/\∃f g,W.cell? ⟨d,k*6+5,none⟩=some (.slice f a[k].1.c.length g)/\bZ B W (.slice f a[k].1.c.length g) a[k].1.c:=by
 have u:=aLh a;have e:∀m,m<6->W.cell? ⟨d,k*6+m,none⟩=(iE a[k])[m]?:=λm r=>by
  rw [i.row.cellAt (k*6+m) (by omega),aN3 a k m j r]
 obtain ⟨t,s,f,g,o,_,p,q⟩:=i.cell j;cases o;exact ⟨e 0 (by omega),e 1 (by omega),e 2 (by omega),e 3 (by omega),e 4 (by omega),f,g,p,q⟩
theorem bBz:gQ [(false,rJ)] [(true,rK)] 0 0 [] true 0:=
 zx ⟨by kernel_rfl,by kernel_rfl,zx ⟨0,0,⟨by decide,by decide,rfl,rfl,by decide⟩,bAw⟩⟩
theorem aN4(w:World):Calls zu 5 #[.string ⟨#[112,46,32,126,112,46]⟩,.int .i64 100] w λm l=>∃d p e k a,m=.returned (.tuple #[.agg #[.int .i64 1,.slice d p e,.slice none 0 0,.int .i64 (k:Nat),.bool false],.int .i64 0])/\a.map zr=[eX,gR,kD]/\jS w.heap.size l (.slice d p e) a/\aC w l:=by
 refine (bBq _ 100 (λ_=>aN2) w (by decide) (λy q f=>?_)).mono ?_
 ·obtain ⟨rfl,_,_⟩:=aMm f;refine ⟨λc o=>?_,by simp,λx A _ _ L n j=>?_⟩
  ·simp at o;rcases o with rfl|rfl<;>kernel_rfl
  ·obtain rfl:x=100:=by omega
   exact bBy j
 ·rintro m l ⟨y,q,z,u,t,f⟩;obtain ⟨rfl,rfl,rfl⟩:=aMm u;rcases f with ⟨g,_⟩|⟨_,g,_⟩|⟨_,_,_,C,vs,vk,k,b,a,ks,rfl,i,s⟩
  ·exact absurd rfl g
  ·exact absurd ⟨by decide,by decide⟩ g
  ·obtain ⟨⟨rfl,j,rfl⟩,_⟩:=s;obtain ⟨d,e,rfl⟩:=aW i.st.row;rcases i.kp with ⟨r,_⟩|⟨_,rfl⟩
   ·cases r
   ·exact ⟨d,_,e,k,a,rfl,j,i.st,t⟩
theorem bC0(q:Value)(w:World)(R:iC w):Calls zu 4 #[q] w λd t=>d=.returned (.bool true)/\aC w t:=by
 have F:=aA (aQp ⟨#[112,40,97,41,46,32,126,112,40,88,41,46]⟩ w (by decide));have H:=aA R;clear R;go_enter Tryz.func4,Tryz.ntmps4;go_wp2_with (first
  |(go_at_call 8;refine (aB F).mono ?_)
  |go_in)
 clear F;rintro d X ⟨v,a0,b0,a3,rfl,U,T,A⟩;obtain ⟨i,rfl,rfl⟩:=bAu U;have m:=T.cls;obtain ⟨f,z⟩ : ∃f,(a0.map λq=>(q.1.map zr,q.2))=f:=⟨_,rfl⟩;rw [<-rO.fsts,z] at i;rw [z] at m;have o:f.length=2:=by have:=congrArg List.length i;simpa using this
 have V:f[0].1=[(false,rJ)]:=by have:=congrArg (λC=>C[0]?) i;simpa [o] using this
 have W:f[1].1=[(true,rK)]:=by have:=congrArg (λC=>C[1]?) i;simpa [o] using this
 obtain ⟨Q,b1,M,O,rfl,-,j,D⟩:=m.cell (k:=0) (by omega);obtain ⟨b3,b2,N,P,S,-,l,E⟩:=m.cell (k:=1) (by omega);simp at S;obtain ⟨rfl,rfl⟩:=S;rw [V] at j D;rw [W] at l E;rw [o];obtain ⟨_,_,a1,-,I,-⟩:=D.lits (nL (by kernel_rfl));cases a1;obtain ⟨_,_,a2,-,J,-⟩:=E.lits (nL (by kernel_rfl));cases a2;have y:=aA (λ(x:World) (p:∃a,x=X.drewN a)=>(bA7 M N O P [(false,rJ)] [(true,rK)] 0 0 x (by obtain ⟨a,rfl⟩:=p;exact I.below (aL ⟨a,rfl⟩) (zz _)) (by obtain ⟨a,rfl⟩:=p;exact J.below (aL ⟨a,rfl⟩) (zz _)) (by obtain ⟨a,rfl⟩:=p;exact (H.o.below A (zz _)).below (aL ⟨a,rfl⟩) (zz _))).mono (R':=λd u=>∃r s,d=.returned (.tuple #[.slice r 0 s,.bool true,.int .i64 0])/\aC w u/\aC X u) (λd u a5=>by
  obtain ⟨a,rfl⟩:=p;obtain ⟨b6,b4,c1,a3,rfl,a6,a4,_,g⟩:=a5;obtain ⟨rfl,rfl,rfl⟩:=a6.one bBz;obtain ⟨r,s,rfl⟩:=a4.shape;exact ⟨r,s,rfl,aV A ((aL ⟨a,rfl⟩).trans g),(aL ⟨a,rfl⟩).trans g⟩))
 have Y:=aA (λ(x:World)=>aN4 x);clear U T A i m z V W D E I J H o;simp only [List.length_cons,List.length_nil,Nat.zero_add] at j l y;go_wp2;go_region_held3 (λt=>t.cell? ⟨Q,0,none⟩=some (.slice M 1 O)/\t.cell? ⟨Q,1,none⟩=some (.slice N 1 P)) (first|trivial|go_keep)
  (first
   |(go_at_call 9;refine (aB y _ (by first|exact ⟨0,rfl⟩|exact ⟨1,rfl⟩|exact ⟨_,rfl⟩)).mono ?_;rintro d u ⟨r,s,rfl,g,e⟩;have a7:=aD e j;have a8:=aD e l;have Z:=aA g;clear g e)
   |go_in)
 clear a7 a8 j l y;go_wp2_with (first
  |(go_at_call 5;refine (aB Y _).mono ?_;rintro d c0 ⟨b7,b9,b8,b5,a9,rfl,-,-,e⟩;have G:=aA (aV Z.o e);clear e)
  |go_in)
 go_ret;exact ⟨rfl,G.o.alloc G.o.size _⟩
