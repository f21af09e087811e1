import Derived.Test.YtcldkjcpofjmhaaGreatDoorUAppF
open Array renaming getElem?_eq_some_iff→zy
open List renaming getElem?_eq_getElem→zw,countP_cons→zs,set_cons_succ→zk,length_cons→zj
open Nat renaming le_refl→zz,le_trans→zu,le_of_lt→zp,lt_of_lt_of_le→zo
open Or renaming inr→zl
namespace Go.Proofs.YtcldkjcpofjmhaaGreatDoor
open _root_.Go.Proofs.Tryz renaming results88→zr,prog→zm
open Value renaming ownBlock→zn
open World renaming cell?_setCell_same'→zx,block_lt_of_cell?→zv,size_alloc→zt,frozen?_setCell→zq
set_option maxHeartbeats 2000000
set_option maxRecDepth 100000
variable{S:List Int}{F:List Nat}{B p ra rb tb:Nat}{rt:Nat->Nat}{o:Option Nat}{ve vl vm vn vs:Value}{W W' w w3:World}
section
open Go.RowKit Go.Shelf Go.WideMaps
theorem rB(w:World)(x:Value)(t:TypeId):(w.alloc (.cells #[x] t)).cell? ⟨w.heap.size,0,none⟩=some x/\(w.alloc (.cells #[x] t)).frozen? ⟨w.heap.size,0,none⟩=false:=by
 have h:(w.alloc (.cells #[x] t)).heap[w.heap.size]?=some (.cells #[x] t):=by show (w.heap.push _)[w.heap.size]?=_;simp
 constructor
 ·unfold World.cell?;rw [h];rfl
 ·unfold World.frozen?;rw [h];rfl
theorem aD1(w:World)(x y z:Value)(t1 t2 t3:TypeId):∃W,W=((w.alloc (.cells #[x] t1)).alloc (.cells #[y] t2)).alloc (.cells #[z] t3)/\Below w.heap.size w W/\W.cell? ⟨w.heap.size,0,none⟩=some x/\W.frozen? ⟨w.heap.size,0,none⟩=false/\W.cell? ⟨w.heap.size+1,0,none⟩=some y/\W.cell? ⟨w.heap.size+1+1,0,none⟩=some z/\W.heap.size=w.heap.size+3:=by
 refine ⟨_,rfl,(((Below.refl _ _).alloc (zz _) _).alloc (by simp) _).alloc (by simp;omega) _,?_,?_,?_,?_,by simp⟩
 ·have h1:=(rB w x t1).1;have h2:=Below.at' ((Below.refl _ (w.alloc (.cells #[x] t1))).alloc (zz _) (.cells #[y] t2)) (zz _) h1;exact Below.at' ((Below.refl _ ((w.alloc (.cells #[x] t1)).alloc (.cells #[y] t2))).alloc (zz _) (.cells #[z] t3)) (zz _) h2
 ·have hb:Below (w.alloc (.cells #[x] t1)).heap.size (w.alloc (.cells #[x] t1)) (((w.alloc (.cells #[x] t1)).alloc (.cells #[y] t2)).alloc (.cells #[z] t3)):=((Below.refl _ _).alloc (zz _) _).alloc (by simp) _;rw [hb.frozen (p:=⟨w.heap.size,0,none⟩) (by simp)];exact (rB w x t1).2
 ·have h1:=(rB (w.alloc (.cells #[x] t1)) y t2).1;rw [zt] at h1;exact Below.at' ((Below.refl _ ((w.alloc (.cells #[x] t1)).alloc (.cells #[y] t2))).alloc (zz _) (.cells #[z] t3)) (zz _) h1
 ·have h1:=(rB ((w.alloc (.cells #[x] t1)).alloc (.cells #[y] t2)) z t3).1;rw [zt,zt] at h1;exact h1
theorem bF.ends{L:List Nd}(h:bF w B tb vn ve vl vs vm L F S)(h0:0<L.length):∃ge ce,ve=.slice (some ⟨ge,0,none⟩) L.length ce/\∀p,p<L.length->w.cell? ⟨ge,p,none⟩=some (.int .i64 (p+aH (L.drop p) 1)):=by obtain ⟨a,c,e,hc⟩:=aD7 h.re (gV L);obtain ⟨g,rfl,_⟩:=hc 0 (by rw [gV];exact h0);refine ⟨g,c,e,λp hp=>?_⟩;obtain ⟨g',hg,h1⟩:=hc p (by rw [gV];exact hp);simp at hg;subst hg;rw [h1];have:=vQ L p hp;rw [zw (by rw [gV];exact hp)] at this;simp at this;rw [this];simp
theorem kW.of{L:List Nd}{ba bt ge ce a:Nat}(h:bF w B tb vn (.slice (some ⟨ge,0,none⟩) L.length ce) vl vs vm L F S)(h0:0<L.length)(ca:w.cell? ⟨ba,0,none⟩=some (.int .i64 a))(ct:w.cell? ⟨bt,0,none⟩=some (.pointer (some ⟨tb,0,none⟩))):kW w ba bt tb ge L a:=by obtain ⟨g,c,e,he⟩:=h.ends h0;simp at e;obtain ⟨rfl,rfl⟩:=e;exact ⟨ca,ct,⟨_,h.c1⟩,he⟩
theorem aD2{ks:List Nat}{w':World}(h:Below w.heap.size w w')(hk:∀k∈ks,k<w.heap.size):iQ ks w w':=λk hm=>h.block k (hk k hm)
structure JC(L:List Nd)(rt:Nat->Nat)(a b:Nat)(Bs Q:Nat->Nat->Prop):Prop where
 sound:∀i j,rt i=rt j->Cl (aC L) Bs i j
 ab:Cl (aC L) Bs a b
 mod:dR (aC L) (λi j=>rt i=rt j) (tH Q a b)
def lM(L:List Nd)(rb k:Nat):Nat:=rb+1+aH (L.drop (rb+1)) k
theorem aVg:∀(m:Nat) (s:List Nd) (b k:Nat),k<m->(fK s m b)[k]?=some (b+aH s k):=by
 intro m;induction m with
 | zero=>intro s b k h;omega
 | succ m ih=>
  intro s b k h;rw [kL];cases k with
  | zero=>simp
  | succ k=>
   rw [List.getElem?_cons_succ,ih _ _ k (by omega),show k+1=1+k by omega,tC];simp;omega
theorem aD3{L:List Nd}{n:Nd}(h:L[p]?=some n){k:Nat}(hk:k<bJ n):((aC L).ch p)[k]?=some (lM L p k):=by rw [fM h,aVg _ _ _ _ hk];rfl
theorem aJ8{L:List Nd}{n:Nd}(h:L[p]?=some n):((aC L).ch p).length=bJ n:=by rw [fM h,tD]
theorem aJ9{L:List Nd}(hL:dE L){p:Nat}{n:Nd}(h:L[p]?=some n){k:Nat}(hk:k<bJ n):lM L p k<L.length/\lM L p (k+1)=lM L p k+aH (L.drop (lM L p k)) 1:=by obtain ⟨h1,h2⟩:=aJ3 (hL p n h) hk;rw [List.length_drop] at h1;rw [List.drop_drop] at h2;unfold lM;refine ⟨by omega,?_⟩;rw [h2];omega
theorem aD4{L:List Nd}(hL:dE L){p:Nat}{n:Nd}(h:L[p]?=some n):∀x∈(aC L).ch p,x<L.length:=by
 intro x hx;obtain ⟨k,hk,rfl⟩:=List.getElem_of_mem hx;have hk':k<bJ n:=by rw [<-aJ8 h];exact hk
 have:=aD3 h hk';rw [zw hk] at this;simp at this;rw [this];exact (aJ9 hL h hk').1
structure xJ(w:World)(B tb gl cl:Nat)(vn ve vs vm:Value)(L:List Nd)(F0:List Nat)(S:List Int)(rt aY:Nat->Nat)(a b ra rb ob N0:Nat)(C pre:List Nat)(W:World):Prop where
 big:N0<=W.heap.size
 st:∃F' rt' d',bF W B tb vn ve (.slice (some ⟨gl,0,none⟩) L.length cl) vs vm L F' S/\gB F' rt' d'/\jT L rt'/\lS F'<=lS F0/\(∀i j,aY i=aY j->rt' i=rt' j)/\
  (pre <+: C->∀Bs Q,JC L rt a b Bs Q->(∀i j,rt' i=rt' j->Cl (aC L) Bs i j)/\dR (aC L) (λi j=>rt' i=rt' j) (oE (aC L) Q ra rb pre.length))
 far:w.grownBy W (some gl)
 x3:W.cell? ⟨w.heap.size,0,none⟩=some (.pointer (some ⟨tb,0,none⟩))
 x6:W.cell? ⟨w.heap.size+1,0,none⟩=some (.bool false)
 f6:W.frozen? ⟨w.heap.size+1,0,none⟩=false
 o0:W.cell? ⟨ob,0,none⟩=some (.int .i64 (lM L rb pre.length))
 of:W.frozen? ⟨ob,0,none⟩=false
structure aA2(w:World)(B tb gl cl:Nat)(vn ve vs vm:Value)(L:List Nd)(F0:List Nat)(S:List Int)(rt aY:Nat->Nat)(a b:Nat)(C:List Nat)(c:Code)(pre:List Nat)(W:World):Prop where
 ret:c=.ret
 st:∃F' rt' d',bF W B tb vn ve (.slice (some ⟨gl,0,none⟩) L.length cl) vs vm L F' S/\gB F' rt' d'/\jT L rt'/\lS F'<=lS F0/\(∀i j,aY i=aY j->rt' i=rt' j)
 no:pre <+: C->∀Bs Q,JC L rt a b Bs Q->¬dW (aC L) (Cl (aC L) Bs)
 far:w.grownBy W (some gl)
 x6:W.cell? ⟨w.heap.size+1,0,none⟩=some (.bool false)
theorem nU{row:Option Nat}(h:w.grownBy W o)(hg:W.grownBy W' row)(hr:∀r,row=some r->w.heap.size<=r):w.grownBy W' o:=
 ⟨hg.os.trans h.os,hg.tape.trans h.tape,hg.output.trans h.output,zu h.size hg.size,λk hk ho=>by
  rw [hg.block k (zo hk h.size) (λe=>by have:=hr k e.symm;omega),h.block k hk ho]⟩
section
variable {w:World}{B tb gl cl:Nat}{vn ve vs vm:Value}{L:List Nd}{F0:List Nat}{S:List Int}{rt aY:Nat->Nat}{a b ra rb ob N N0:Nat}{C:List Nat}
theorem xJ.own(hN:w.heap.size<=N):OwnFrom N (λ(pre:List (nW C)) W=>xJ w B tb gl cl vn ve vs vm L F0 S rt aY a b ra rb ob N0 C (pre.map λx=>x.1) W):=by
 intro pre W W' row h hg hr;have hr':∀r,row=some r->∃o:Obj,W.heap[r]?=some o/\o.isCells=false:=λr e=>(hr r e).2
 obtain ⟨F',rt',d',h1,h2⟩:=h.st;exact ⟨zu h.big hg.size,⟨F',rt',d',h1.others hg hr',h2⟩,nU h.far hg (λr e=>by have:=(hr r e).1;omega),cell_kept h.x3 hg hr',cell_kept h.x6 hg hr',(frozen_kept h.x6 hg hr').trans h.f6,cell_kept h.o0 hg hr',(frozen_kept h.o0 hg hr').trans h.of⟩
theorem aA2.own(hN:w.heap.size<=N)(c:Code):OwnFrom N (λ(pre:List (nW C)) W=>aA2 w B tb gl cl vn ve vs vm L F0 S rt aY a b C c (pre.map λx=>x.1) W):=by
 intro pre W W' row h hg hr;have hr':∀r,row=some r->∃o:Obj,W.heap[r]?=some o/\o.isCells=false:=λr e=>(hr r e).2
 obtain ⟨F',rt',d',h1,h2⟩:=h.st;exact ⟨h.ret,⟨F',rt',d',h1.others hg hr',h2⟩,h.no,nU h.far hg (λr e=>by have:=(hr r e).1;omega),cell_kept h.x6 hg hr'⟩
end
structure aA3(w W:World)(tb gl ge ce ob:Nat)(L:List Nd)(o:Nat)(ks:List Nat)(B0:Nat)(W':World):Prop where
 x3:W'.cell? ⟨w.heap.size,0,none⟩=some (.pointer (some ⟨tb,0,none⟩))
 x6:W'.cell? ⟨w.heap.size+1,0,none⟩=some (.bool false)
 f6:W'.frozen? ⟨w.heap.size+1,0,none⟩=false
 o0:W'.cell? ⟨ob,0,none⟩=some (.int .i64 o)
 of:W'.frozen? ⟨ob,0,none⟩=false
 c1:W'.cell? ⟨tb,1,none⟩=some (.slice (some ⟨ge,0,none⟩) L.length ce)
 en:W'.cell? ⟨ge,o,none⟩=some (.int .i64 (o+aH (L.drop o) 1))
 kp:iQ ks W W'
 kf:KeepsFrom B0 W W'
 far:w.grownBy W' (some gl)
theorem xK{g:Nat}(B0:Nat)(hg:W.grownBy W' (some g))(hc:∃o:Obj,W.heap[g]?=some o/\o.isCells=true):KeepsFrom B0 W W':=by obtain ⟨x,h1,h2⟩:=hc;exact ⟨hg.size,λk o _ hk ho=>(hg.block k (zy.1 hk).1 (λe=>by simp at e;subst e;rw [h1] at hk;simp at hk;subst hk;rw [h2] at ho;cases ho)).trans hk⟩
theorem sP{g:Nat}(B0:Nat){u:Value}(hc:W.cell? ⟨g,0,none⟩=some u)(v:Value):KeepsFrom B0 W (W.setCell ⟨g,0,none⟩ v):=by
 refine xK B0 (bR W ⟨g,0,none⟩ v) ?_;unfold World.cell? at hc;simp only at hc;split at hc
 ·rename_i c e f h;exact ⟨_,h,rfl⟩
 ·cases hc
theorem aD5{ks:List Nat}{g:Nat}(hg:W.grownBy W' (some g))(hk:∀k∈ks,k<W.heap.size/\k≠g):iQ ks W W':=λk hm=>hg.block k (hk k hm).1 (λe=>(hk k hm).2 (by simpa using e))
theorem aA3.make{gl cl ge ce:Nat}{L:List Nd}{F0:List Nat}{aY:Nat->Nat}{a b ob N0:Nat}{C pre:List Nat}{F':List Nat}(h:xJ w B tb gl cl vn (.slice (some ⟨ge,0,none⟩) L.length ce) vs vm L F0 S rt aY a b ra rb ob N0 C pre W)(hT:bF W B tb vn (.slice (some ⟨ge,0,none⟩) L.length ce) (.slice (some ⟨gl,0,none⟩) L.length cl) vs vm L F' S)
  {W':World} (hg:W.grownBy W' (some gl)) (hob:w.heap.size<=ob) (hgl:gl<w.heap.size) (ho:lM L rb pre.length<L.length) {ks:List Nat} (hk:∀k∈ks,k<W.heap.size/\k≠gl) (B0:Nat):aA3 w W tb gl ge ce ob L (lM L rb pre.length) ks B0 W':=by
 obtain ⟨g,c,e,he⟩:=hT.ends (by omega);simp at e;obtain ⟨rfl,rfl⟩:=e;have hne:ge≠gl:=λe=>hT.ab (by simp [zn,e])
 have htg:tb≠gl:=λe=>cE hT.rl hT.box (by decide) (by simp [zn,e])
 have fz:∀{p:Addr} {v:Value},W.cell? p=some v->p.block≠gl->W'.frozen? p=W.frozen? p:=λhc hn=>World.frozen?_of_block (hg.block _ (zv W _ hc) (λe=>hn (by simpa using e)))
 exact ⟨hg.cell h.x3 (by simp;omega),hg.cell h.x6 (by simp;omega),(fz h.x6 (by simp;omega)).trans h.f6,hg.cell h.o0 (by simp;omega),(fz h.o0 (by simp;omega)).trans h.of,hg.cell hT.c1 (by simpa using htg),hg.cell (he _ ho) (by simpa using hne),aD5 hg hk,xK B0 hg (xN hT.rl rfl),h.far.trans hg⟩
theorem aJa{α:Type}{C:List Nat}{f:α->Nat}{pre:List α}{x:α}(h:(pre++[x]).map f <+: C):pre.map f <+: C/\C[pre.length]?=some (f x):=by obtain ⟨r,rfl⟩:=h;refine ⟨⟨[f x]++r,by simp⟩,?_⟩;rw [List.map_append,List.append_assoc,List.getElem?_append_right (by simp)];simp
theorem kV.part{L:List Nd}{rt' rt'':Nat->Nat}{a b k q:Nat}{ok:Bool}{Bs Q:Nat->Nat->Prop}(hc:JC L rt a b Bs Q)(hra:rt a=rt ra)(hrb:rt b=rt rb)(n1:(aC L).named ra)(n2:(aC L).named rb)(hs:∀i j,rt' i=rt' j->Cl (aC L) Bs i j)(hm:dR (aC L) (λi j=>rt' i=rt' j) (oE (aC L) Q ra rb k))(hp:((aC L).ch ra)[k]?=some p)(hq:((aC L).ch rb)[k]?=some q)(h:kV L rt' rt'' p q ok) :
  (ok=true->(∀i j,rt'' i=rt'' j->Cl (aC L) Bs i j)/\dR (aC L) (λi j=>rt'' i=rt'' j) (oE (aC L) Q ra rb (k+1)))/\(ok=false->¬dW (aC L) (Cl (aC L) Bs)):=by
 have hcl:Cl (aC L) Bs p q:=Cl.down (k:=k) ((hc.sound _ _ hra.symm).trans (hc.ab.trans (hc.sound _ _ hrb))) n1 n2 hp hq;obtain ⟨h1,h2⟩:=h Bs (oE (aC L) Q ra rb (k+1)) hs hcl (hm.part hp hq);exact ⟨λe=>(h1 e).2,h2⟩
attribute [local go_sem] Oper.semAt_some
theorem uB{n:Nat}{fn:Func}{R:Ending->World->Prop}{a:Act}{v:Value}(hd:a.defers=[])(hr:(results fn a.tmps).run zm w=.ok v w)(h:R (.returned v) w):bodyPostM Fence.wide n zm fn R .ret a w:=by show LeavesInM Fence.wide n zm fn a.tmps R a.defers .returning w;rw [hd];exact ⟨v,hr,h⟩
theorem aVh{d:Nat->Nat}(h:gB F rt d){p:Nat}(hp:p<F.length):0<lS F:=by unfold lS;rw [List.countP_pos_iff];exact ⟨rt p,by simpa using h.rt_lt hp,by simp [h.rootAt hp]⟩
theorem bF.node{L:List Nd}(h:bF w B tb vn ve vl vs vm L F S){p:Nat}{n:Nd}(hp:L[p]?=some n):∃gn cn,vn=.slice (some ⟨gn,0,none⟩) L.length cn/\w.cell? ⟨gn,p*2,none⟩=some (.string n.1)/\w.cell? ⟨gn,p*2+1,none⟩=some (.int .i64 n.2):=by obtain ⟨a,c,e,hc⟩:=aBv h.rn;obtain ⟨g,rfl,h1,h2⟩:=hc p n hp;exact ⟨g,c,e,h1,h2⟩
theorem bF.leader{L:List Nd}(h:bF w B tb vn ve vl vs vm L F S){p:Nat}(hp:p<L.length):∃gl cl,vl=.slice (some ⟨gl,0,none⟩) L.length cl/\(∃u,w.cell? ⟨gl,p,none⟩=some u)/\w.frozen? ⟨gl,p,none⟩=false:=by obtain ⟨a,c,e,hc⟩:=aD7 h.rl h.lf;have hlf:=h.lf;obtain ⟨g,rfl,h1⟩:=hc p (by omega);subst e;exact ⟨g,c,rfl,⟨_,h1⟩,h.rl.frozenAt p⟩
theorem aJb{w1 w2:World}{gl:Nat}{v u u' t:Value}(hb2:Below w1.heap.size w1 w2)(x3:w1.cell? ⟨w.heap.size,0,none⟩=some t)(x6:w1.cell? ⟨w.heap.size+1,0,none⟩=some u)(f6:w1.frozen? ⟨w.heap.size+1,0,none⟩=false)(hu:w1.cell? ⟨gl,p,none⟩=some u')(hfz:w1.frozen? ⟨gl,p,none⟩=false)(c2:w1.cell? ⟨tb,2,none⟩=some vl)(hgl:gl<w.heap.size) :
  w2.cell? ⟨tb,2,none⟩=some vl/\w2.cell? ⟨w.heap.size,0,none⟩=some t/\(∃z,w2.cell? ⟨gl,p,none⟩=some z)/\w2.frozen? ⟨gl,p,none⟩=false/\(w2.setCell ⟨gl,p,none⟩ v).cell? ⟨w.heap.size,0,none⟩=some t/\(w2.setCell ⟨gl,p,none⟩ v).cell? ⟨w.heap.size+1,0,none⟩=some u/\(w2.setCell ⟨gl,p,none⟩ v).frozen? ⟨w.heap.size+1,0,none⟩=false:=by
 have k3:=Below.at' hb2 (zz _) x3;have k6:=Below.at' hb2 (zz _) x6;refine ⟨Below.at' hb2 (zz _) c2,k3,⟨_,Below.at' hb2 (zz _) hu⟩,(hb2.frozen (p:=⟨gl,p,none⟩) (zv _ _ hu)).trans hfz,fY k3 (by omega),fY k6 (by omega),?_⟩;rw [zq];exact (hb2.frozen (p:=⟨w.heap.size+1,0,none⟩) (zv _ _ x6)).trans f6
theorem bF.lts{L:List Nd}(h:bF w B tb vn ve vl vs vm L F S){g:Nat}(hg:w.heap.size<=g):some g≠some tb/\vn.ownBlock≠some g/\ve.ownBlock≠some g/\vl.ownBlock≠some g/\vs.ownBlock≠some g:=by
 refine ⟨λe=>?_,λe=>?_,λe=>?_,λe=>?_,λe=>?_⟩
 ·have:=(zy.1 h.box).1;simp at e;omega
 ·have:=(aT h.rn g e).2;omega
 ·have:=(aT h.re g e).2;omega
 ·have:=(aT h.rl g e).2;omega
 ·have:=(aT h.rs g e).2;omega
theorem bF.boxed{L:List Nd}{F0:List Nat}{S0:List Int}(h:bF w3 B tb vn ve vl vs vm L F S)(h0:bF w B tb vn ve vl vs vm L F0 S0){g:Nat}(hg:w.heap.size<=g)(j:Nat)(u:Value):bF (w3.setCell ⟨g,j,none⟩ u) B tb vn ve vl vs vm L F S:=by obtain ⟨e0,e1,e2,e3,e4⟩:=h0.lts hg;exact h.grown (bR w3 ⟨g,j,none⟩ u) e0 (zl e1) (zl e2) (zl e3) (zl e4)
theorem xL{w2:World}(hb:Below w.heap.size w w2)(hg:w2.grownBy w3 o):w.grownBy w3 o:=(fV hb).trans hg
theorem mJ(hg:w.grownBy w3 o){g:Nat}(hgw:w.heap.size<=g)(j:Nat)(u:Value):w.grownBy (w3.setCell ⟨g,j,none⟩ u) o:=by
 have h:=bR w3 ⟨g,j,none⟩ u;exact ⟨h.os.trans hg.os,h.tape.trans hg.tape,h.output.trans hg.output,zu hg.size h.size,λk hk ho=>by
  rw [h.block k (zo hk hg.size) (λe=>by simp at e;omega),hg.block k hk ho]⟩
structure JW(w:World)(B tb:Nat)(gn cn gl cl:Nat)(ve vs vm:Value)(L:List Nd)(F:List Nat)(S:List Int)(ra rb:Nat)(na nb:Nd)(wx:World):Prop where
 tm:bF wx B tb (.slice (some ⟨gn,0,none⟩) L.length cn) ve (.slice (some ⟨gl,0,none⟩) L.length cl) vs vm L F S
 far:w.grownBy wx (some gl)
 x3:wx.cell? ⟨w.heap.size,0,none⟩=some (.pointer (some ⟨tb,0,none⟩))
 x6:wx.cell? ⟨w.heap.size+1,0,none⟩=some (.bool false)
 f6:wx.frozen? ⟨w.heap.size+1,0,none⟩=false
 c0:wx.cell? ⟨tb,0,none⟩=some (.slice (some ⟨gn,0,none⟩) L.length cn)
 y0:wx.cell? ⟨gn,ra*2,none⟩=some (.string na.1)
 y1:wx.cell? ⟨gn,ra*2+1,none⟩=some (.int .i64 na.2)
 z0:wx.cell? ⟨gn,rb*2,none⟩=some (.string nb.1)
 z1:wx.cell? ⟨gn,rb*2+1,none⟩=some (.int .i64 nb.2)
theorem JW.mk'{gn cn gl cl:Nat}{L:List Nd}{na nb:Nd}{wx:World}(h:bF wx B tb (.slice (some ⟨gn,0,none⟩) L.length cn) ve (.slice (some ⟨gl,0,none⟩) L.length cl) vs vm L F S)(hf:w.grownBy wx (some gl))(hna:L[ra]?=some na)(hnb:L[rb]?=some nb)
  (x3:wx.cell? ⟨w.heap.size,0,none⟩=some (.pointer (some ⟨tb,0,none⟩))) (x6:wx.cell? ⟨w.heap.size+1,0,none⟩=some (.bool false)) (f6:wx.frozen? ⟨w.heap.size+1,0,none⟩=false):JW w B tb gn cn gl cl ve vs vm L F S ra rb na nb wx:=by
 obtain ⟨g1,c1,e1,y0,y1⟩:=h.node hna;obtain ⟨g2,c2,e2,z0,z1⟩:=h.node hnb;simp at e1 e2;obtain ⟨rfl,rfl⟩:=e1;obtain ⟨rfl,rfl⟩:=e2;exact ⟨h,hf,x3,x6,f6,h.c0,y0,y1,z0,z1⟩
theorem JW.below{gn cn gl cl:Nat}{L:List Nd}{na nb:Nd}{wx wy:World}(h:JW w B tb gn cn gl cl ve vs vm L F S ra rb na nb wx)(k:Below wx.heap.size wx wy):JW w B tb gn cn gl cl ve vs vm L F S ra rb na nb wy:=
 ⟨h.tm.below k,h.far.trans (fV k),Below.at' k (zz _) h.x3,Below.at' k (zz _) h.x6,(k.frozen (p:=⟨w.heap.size+1,0,none⟩) (zv _ _ h.x6)).trans h.f6,Below.at' k (zz _) h.c0,Below.at' k (zz _) h.y0,Below.at' k (zz _) h.y1,Below.at' k (zz _) h.z0,Below.at' k (zz _) h.z1⟩
theorem aVi(B tb:Nat)(vn ve vl vs vm:Value)(L:List Nd)(S:List Int)(hL:dE L):∀(m:Nat) (F:List Nat) (rt d:Nat->Nat) (a b:Nat) (w:World),lS F<=m->bF w B tb vn ve vl vs vm L F S->gB F rt d->jT L rt->a<L.length->b<L.length->
  Calls zm 88 #[.pointer (some ⟨tb,0,none⟩),.int .i64 a,.int .i64 b] w λe w'=>∃ok F' rt' d',e=.returned (.bool ok)/\aV7 w B tb vn ve vl vs vm L F S rt a b ok w' F' rt' d':=by
 intro m;induction m with
 | zero=>
  intro F rt d a b w hm h hF _ ha _;have:=aVh hF (p:=a) (by rw [h.lf];exact ha);omega
 | succ m ih=>
  intro F rt d a b w hm h hF hN ha hb;have hb0:Below w.heap.size w ((w.alloc (.cells #[.pointer (some ⟨tb,0,none⟩)] 107)).alloc (.cells #[.bool false] 4)):=((Below.refl _ _).alloc (zz _) _).alloc (by simp) _;have CA:=aA (λd' (p:Nat) (hp:p<L.length)=>aD8 B tb vn ve vl vs vm L F S rt d p (((w.alloc (.cells #[.pointer (some ⟨tb,0,none⟩)] 107)).alloc (.cells #[.bool false] 4)).drewN d') ((h.below hb0).drewN d') hF hp);have HT:=aA h;have HF:=aA hF;have HN:=aA hN;have HM:=aA hm;have HB0:=aA hb0;have IH:=aA ih;clear h hF hN hm hb0 ih;refine (callsIn_wide (n:=3)).1 ?_;refine callsIn_of_wp_marks Tryz.func88 rfl trivial ?_;simp only [Tryz.ntmps88,List.size_toArray,zj,List.length_nil,Nat.reduceAdd,Nat.reduceSub,Array.replicate_succ,Array.replicate_zero,List.push_toArray,List.append_toArray,List.nil_append,List.cons_append];refine wpIn_wide.2 ?_;go_wp2;go_quiet ((go_at_call 114;exact Calls.quiet_of_same (aB CA _ _ (by assumption))));have hb1:Below w.heap.size w (((w.alloc (.cells #[.pointer (some ⟨tb,0,none⟩)] 107)).alloc (.cells #[.bool false] 4)).drewN nq):=HB0.out.trans ((aI ⟨nq,rfl⟩).mono HB0.out.size);have x3:(((w.alloc (.cells #[.pointer (some ⟨tb,0,none⟩)] 107)).alloc (.cells #[.bool false] 4)).drewN nq).cell? ⟨w.heap.size,0,none⟩=some (.pointer (some ⟨tb,0,none⟩)):=by simp
  have x6:(((w.alloc (.cells #[.pointer (some ⟨tb,0,none⟩)] 107)).alloc (.cells #[.bool false] 4)).drewN nq).cell? ⟨w.heap.size+1,0,none⟩=some (.bool false):=by simp
  have f6:(((w.alloc (.cells #[.pointer (some ⟨tb,0,none⟩)] 107)).alloc (.cells #[.bool false] 4)).drewN nq).frozen? ⟨w.heap.size+1,0,none⟩=false:=by simp
  generalize ((w.alloc (.cells #[.pointer (some ⟨tb,0,none⟩)] 107)).alloc (.cells #[.bool false] 4)).drewN nq=w1 at *;have HB1:=aA hb1;clear CA HB0 hb1;obtain ⟨ra,hra⟩ : ∃ra,ra=rt a:=⟨_,rfl⟩;obtain ⟨rb,hrb⟩ : ∃rb,rb=rt b:=⟨_,rfl⟩;rw [<-hra,<-hrb];have HRA:=aA hra;have HRB:=aA hrb;clear hra hrb;by_cases he:ra=rb
  ·have hei:((ra:Int) == (rb:Int))=true:=by rw [he];simp
   have HE:=aA he;clear he;go_wp2;have hw6:=zx w1 ⟨w.heap.size+1,0,none⟩ (.bool true) (by rw [x6];rfl);refine uB (v:=.bool true) rfl (by simp [results,zr,go_sem,hw6]) ?_;have hbf:Below w.heap.size w (w1.setCell ⟨w.heap.size+1,0,none⟩ (.bool true)):=HB1.out.setCell (by simp) _;exact ⟨true,F,rt,d,rfl,⟨HT.out.below hbf,HF.out,HN.out,zz _,fV hbf,λ_ _ e=>e,kV.same (by rw [<-HRA.out,<-HRB.out,HE.out])⟩⟩
  ·have hei:((ra:Int) == (rb:Int))=false:=by rw [beq_eq_false_iff_ne];omega
   have hlf:=HT.out.lf;have hral:ra<L.length:=by rw [HRA.out,<-hlf];exact HF.out.rt_lt (by omega)
   have hrbl:rb<L.length:=by rw [HRB.out,<-hlf];exact HF.out.rt_lt (by omega)
   have hraf:F[ra]?=some ra:=by rw [HRA.out];exact HF.out.rootAt (by omega)
   have hrbf:F[rb]?=some rb:=by rw [HRB.out];exact HF.out.rootAt (by omega)
   obtain ⟨na,hna⟩ : ∃n,L[ra]?=some n:=⟨L[ra],zw hral⟩;obtain ⟨nb,hnb⟩ : ∃n,L[rb]?=some n:=⟨L[rb],zw hrbl⟩;have hT1:=HT.out.below HB1.out;obtain ⟨gn,cn,rfl,y0,y1⟩:=hT1.node hna;obtain ⟨gn',cn',e',z0,z1⟩:=hT1.node hnb;simp at e';obtain ⟨rfl,rfl⟩:=e';have c0:=hT1.c0;obtain ⟨sa,xa⟩:=na;obtain ⟨sb,xb⟩:=nb;simp only at y0 y1 z0 z1;have hrai:(ra:Int)<(L.length:Int):=by omega
   have hrbi:(rb:Int)<(L.length:Int):=by omega
   have hfew:=HT.out.few;have HRAF:=aA hraf;have HRBF:=aA hrbf;have HNA:=aA hna;have HNB:=aA hnb;have HNE:=aA he;have CV:=aA (λs x wx=>qS s x wx);have hw1:=HB1.out.size;clear hlf hraf hrbf hna hnb hT1 he;by_cases hva:sa.toList.isEmpty=true
   ·have HVA:=aA (show aF (sa,xa)=true from hva);obtain ⟨gl,cl,rfl,⟨u,hu⟩,hfz⟩:=(HT.out.below HB1.out).leader hral;have c2:=(HT.out.below HB1.out).c2;have CVA:=aA (aB CV sa xa);rw [hva] at CVA;have hglw:gl<w.heap.size:=(aT HT.out.rl gl rfl).2;have HST:=aA (λ(w2:World) (hb2:Below w1.heap.size w1 w2)=>aJb (v:=.int .i64 (rb:Int)) (u:=.bool false) hb2 x3 x6 f6 hu hfz c2 hglw);have HFIN:=aA (λ(w2:World) (hb2:Below w1.heap.size w1 w2)=>((HT.out.below HB1.out).below hb2).lead ra rb);clear hfz hu c2;go_wp2_with (first
     | (go_at_call 83;refine (aB CVA _).mono ?_;rintro e w2 ⟨rfl,hb2⟩;obtain ⟨k2,kx,⟨ku,hku⟩,kfz,kS3,kS6,kSf⟩:=HST.out w2 hb2;have HB2:=aA hb2;clear hb2)
     | go_in)
    have hw6:=zx (w2.setCell ⟨gl,ra,none⟩ (.int .i64 (rb:Int))) ⟨w.heap.size+1,0,none⟩ (.bool true) (by rw [kS6];rfl);refine uB (v:=.bool true) rfl (by simp [results,zr,go_sem,hw6]) ?_;obtain ⟨ht2,hg2⟩:=HFIN.out w2 HB2.out;have ht3:=ht2.boxed HT.out (g:=w.heap.size+1) (by omega) 0 (.bool true);have hg3:=mJ (xL (HB1.out.trans (HB2.out.mono hw1)) hg2) (g:=w.heap.size+1) (by omega) 0 (.bool true);refine ⟨true,F.set ra rb,fS rt ra rb,dJ rt d ra rb,rfl,⟨ht3,HF.out.join HRAF.out HRBF.out HNE.out,HN.out.join (λhn=>?_),zp (aEt HRAF.out HNE.out),hg3,xF rt ra rb,kV.var (aV8 HRA.out HRB.out) (Or.inl (HN.out.var ?_))⟩⟩
    ·rw [fL HNA.out,HVA.out] at hn;cases hn
    ·rw [<-HRA.out,fL HNA.out,HVA.out];simp
   ·have HVA:=aA (show aF (sa,xa)=false by simpa [aF] using hva);have hva':sa.toList.isEmpty=false:=by simpa using hva
    obtain ⟨gl,cl,rfl,⟨u,hu⟩,hfz⟩:=(HT.out.below HB1.out).leader hrbl;have c2:=(HT.out.below HB1.out).c2;have CVA:=aA (aB CV sa xa);rw [hva'] at CVA;have hglw:gl<w.heap.size:=(aT HT.out.rl gl rfl).2;have HST:=aA (λ(w2:World) (hb2:Below w1.heap.size w1 w2)=>aJb (v:=.int .i64 (ra:Int)) (u:=.bool false) hb2 x3 x6 f6 hu hfz c2 hglw);have HJW:=aA (λ(w2:World) (hb2:Below w1.heap.size w1 w2)=>(show JW w B tb gn cn gl cl ve vs vm L (F.set rb ra) S ra rb (sa,xa) (sb,xb) (w2.setCell ⟨gl,rb,none⟩ (.int .i64 (ra:Int))) from by
     obtain ⟨_,_,_,_,k3,k6,kf⟩:=HST.out w2 hb2;obtain ⟨ht,hg⟩:=((HT.out.below HB1.out).below hb2).lead rb ra;exact JW.mk' ht (xL (HB1.out.trans (hb2.mono hw1)) hg) HNA.out HNB.out k3 k6 kf))
    have HFJ:=aA (HF.out.join HRBF.out HRAF.out (λe=>HNE.out e.symm));have HRN:=aA (aEt HRBF.out (λe=>HNE.out e.symm));have HNJ:=aA (HN.out.join (u:=rb) (v:=ra) (λ_=>by rw [fL HNA.out];exact HVA.out));clear hfz hu c2;by_cases hvb:sb.toList.isEmpty=true
    ·have HVB:=aA (show aF (sb,xb)=true from hvb);have CVB:=aA (aB CV sb xb);rw [hvb] at CVB;go_wp2_with (first
      | (go_at_call 83;refine (aB CVA _).mono ?_;clear CVA;rintro e w2 ⟨rfl,hb2⟩;obtain ⟨k2,kx,⟨ku,hku⟩,kfz,_⟩:=HST.out w2 hb2;have hJ:=HJW.out w2 hb2;have j1:=hJ.x3;have j2:=hJ.c0;have j3:=hJ.z0;have j4:=hJ.z1;have HJ:=aA hJ;clear hJ hb2)
      | (go_at_call 83;refine (aB CVB _).mono ?_;clear CVB;rintro e w3 ⟨rfl,hb3⟩;have hJ3:=HJ.out.below hb3;have m1:=hJ3.x6;have m2:=hJ3.f6;have HJ3:=aA hJ3;clear hJ3 hb3)
      | go_in)
     have hw6:=zx w3 ⟨w.heap.size+1,0,none⟩ (.bool true) (by rw [m1];rfl);refine uB (v:=.bool true) rfl (by simp [results,zr,go_sem,hw6]) ?_;have ht3:=HJ3.out.tm.boxed HT.out (g:=w.heap.size+1) (by omega) 0 (.bool true);have hg3:=mJ HJ3.out.far (g:=w.heap.size+1) (by omega) 0 (.bool true);refine ⟨true,F.set rb ra,fS rt rb ra,dJ rt d rb ra,rfl,⟨ht3,HFJ.out,HNJ.out,zp HRN.out,hg3,xF rt rb ra,kV.var (aCz HRB.out HRA.out) (zl (HN.out.var ?_))⟩⟩;rw [<-HRB.out,fL HNB.out,HVB.out];simp
    ·have HVB:=aA (show aF (sb,xb)=false by simpa [aF] using hvb);have hvb':sb.toList.isEmpty=false:=by simpa using hvb
     have CVB:=aA (aB CV sb xb);rw [hvb'] at CVB;have hqn:=rR sa sb xa xb;have hqg:=tJ;have hnbq:=rQ (sa,xa) (sb,xb);simp only at hnbq;by_cases hll:(sa,xa)=(sb,xb)
     ·rw [decide_eq_true hll] at hnbq;have HLL:=aA hll;clear hll;go_wp2_with (first
       | (go_at_call 83;refine (aB CVA _).mono ?_;clear CVA;rintro e w2 ⟨rfl,hb2⟩;obtain ⟨k2,kx,⟨ku,hku⟩,kfz,_⟩:=HST.out w2 hb2;have hJ:=HJW.out w2 hb2;have j1:=hJ.x3;have j2:=hJ.c0;have j3:=hJ.z0;have j4:=hJ.z1;have HJ:=aA hJ;clear hJ hb2)
       | (go_at_call 83;refine (aB CVB _).mono ?_;clear CVB;rintro e w3 ⟨rfl,hb3⟩;have hJ3:=HJ.out.below hb3;have m1:=hJ3.x6;have m2:=hJ3.f6;have m3:=hJ3.x3;have m4:=hJ3.c0;have m5:=hJ3.y0;have m6:=hJ3.y1;have m7:=hJ3.z0;have m8:=hJ3.z1;have HJ3:=aA hJ3;clear hJ3 hb3)
       | go_in)
      go_quiet (fail);have hJ4:=HJ3.out.below (aI (w1:=w3.drewN nq) ⟨_,rfl⟩);generalize w3.drewN nq=w4 at *;have n3:=hJ4.x3;have n6:=zv _ _ hJ4.x6;simp only at n6;have nA:=λX=>Below.at' ((Below.refl w4.heap.size w4).alloc (zz _) X) (zz _) n3
      have HJ4:=aA hJ4;have CP:=aA (λwx=>aD0 tb ra wx);clear hJ4 m1 m2 m3 m4 m5 m6 m7 m8 HJ3 hqn hqg hnbq;go_wp2_with (first
       | (go_at_call 115;refine (aB CP _).mono ?_;rintro e w5 ⟨rfl,rfl⟩)
       | go_in)
      clear nA CP n3;obtain ⟨C,hC⟩ : ∃C,(aC L).ch ra=C:=⟨_,rfl⟩;obtain ⟨ge,ce,rfl,_⟩:=HT.out.ends (by omega);obtain ⟨w6,hw6,hal,o0,of0,ot0,oa0,os0⟩:=aD1 w4 (.int .i64 ((rb:Int)+1)) (.pointer (some ⟨tb,0,none⟩)) (.int .i64 ra) 3 107 3;rw [<-hw6];clear hw6;have hJ6:=HJ4.out.below hal;have hIt:kW w6 (w4.heap.size+1+1) (w4.heap.size+1) tb ge L ra:=kW.of hJ6.tm (by omega) oa0 ot0;have htb6:=(zy.1 hJ6.tm.box).1;have hge6:=(aT hJ6.tm.re ge rfl).2;have hks:∀k∈[w4.heap.size+1+1,w4.heap.size+1,tb,ge],k<w6.heap.size:=by intro k hk;simp at hk;rcases hk with rfl | rfl | rfl | rfl <;> omega
      refine (wpIn_wide (n:=3)).1 ?_;refine wpIn_rangeFunc_ownG rfl (by omega) (gf:=133) (lb:=#[.pointer (some ⟨w4.heap.size+1+1,0,none⟩),.pointer (some ⟨w4.heap.size+1,0,none⟩)]) rfl trivial (enters_of Tryz.func133 (by kernel_rfl) rfl)
       (encs:=λx:nW C=>#[.int .i64 (x.1:Nat)]) (Kp:=iQ [w4.heap.size+1+1,w4.heap.size+1,tb,ge]) (S:=λxs=>xs.map (λx=>x.1)=C) (Sp:=λpre=>pre.map (λx=>x.1) <+: C) (N:=C.length) (w0:=w6)
       (λl J Jx W hW hJ hJx hY h0=>by
        have:=aDc 2 l (w4.heap.size+1+1) (w4.heap.size+1) tb ge L ra (sa,xa) C hC (by omega) hL hfew HNA.out J Jx _ hJ hY W (hIt.kept (aD2 hW hks)) h0;simpa using this)
       (λh k=>h.trans k) (iQ.put hks) (Below.refl _ _) (λ_=>rfl)
       (λpre W=>xJ w B tb gl cl (.slice (some ⟨gn,0,none⟩) L.length cn) (.slice (some ⟨ge,0,none⟩) L.length ce) vs vm L (F.set rb ra) S rt (fS rt rb ra) a b ra rb w4.heap.size w6.heap.size C (pre.map λx=>x.1) W)
       (λc pre W=>aA2 w B tb gl cl (.slice (some ⟨gn,0,none⟩) L.length cn) (.slice (some ⟨ge,0,none⟩) L.length ce) vs vm L (F.set rb ra) S rt (fS rt rb ra) a b C c (pre.map λx=>x.1) W)
       (xJ.own (by omega)) (λc=>aA2.own (by omega) c) ?h0 ?a1 ?assign ?body ?done ?stop
      case h0=>
       have hm:=aCz (a:=a) (b:=b) HRB.out HRA.out;refine ⟨zz _,⟨F.set rb ra,fS rt rb ra,dJ rt d rb ra,hJ6.tm,HFJ.out,HNJ.out,zz _,λ_ _ e=>e,λ_ Bs Q hc=>⟨hm.sound hc.sound (λ_ _=>Cl.symm) (λ_ _ _=>Cl.trans) hc.ab,?_⟩⟩,hJ6.far,hJ6.x3,hJ6.x6,hJ6.f6,?_,of0⟩
       ·refine hc.mod.name (qB rt) hm (oD L) ?_ ?_ ?_ ?_ ?_
        ·show rt a=rt ra;rw [HRA.out,HF.out.rt_rt]
        ·show rt b=rt rb;rw [HRB.out,HF.out.rt_rt]
        ·rw [fL HNA.out];exact HVA.out
        ·rw [fL HNB.out];exact HVB.out
        ·rw [lC HNA.out,lC HNB.out];exact HLL.out
       ·rw [o0];simp [lM]
      case assign=>
       intro l x W K hK;gi_wp2
       exact hK
      case body=>
       rintro l pre x W hI hlen;obtain ⟨F',rt',d',hT',hF',hN',hR',hmono,hsem⟩:=hI.st;have hxp:x.1<L.length:=aD4 hL HNA.out x.1 (by rw [hC];exact x.2);have hCl:C.length=bJ (sa,xa):=by rw [<-hC];exact aJ8 HNA.out
       have hwb:bJ (sb,xb)=bJ (sa,xa):=by rw [HLL.out]
       have hpl:(pre.map λx=>x.1).length=pre.length:=by simp
       have hol:=aJ9 hL HNB.out (k:=pre.length) (by omega);have CJ:=IH.out F' rt' d' x.1 (lM L rb pre.length) W (by have:=HRN.out;have:=HM.out;omega) hT' hF' hN' hxp hol.1;have x3':=hI.x3;have o0':=hI.o0;rw [hpl] at o0';have hWs:=hI.far.size;have htbW:=(zy.1 hT'.box).1;have hgeW:=(aT hT'.re ge rfl).2;have hW4:w4.heap.size+1+1<W.heap.size:=by have:=hI.big;omega
       have hkk:∀k∈[w4.heap.size+1+1,w4.heap.size+1,tb,ge],k<W.heap.size/\k≠gl:=by
        intro k hk;simp at hk;have h1:tb≠gl:=λe=>cE hT'.rl hT'.box (by decide) (by simp [zn,e])
        have h2:ge≠gl:=λe=>hT'.ab (by simp [zn,e])
        rcases hk with rfl | rfl | rfl | rfl
        ·exact ⟨by omega,by omega⟩
        ·exact ⟨by omega,by omega⟩
        ·exact ⟨htbW,h1⟩
        ·exact ⟨hgeW,h2⟩
       have HNX:=aA (λ(W':World) (hg:W.grownBy W' (some gl))=>(show aA3 w W tb gl ge ce w4.heap.size L (lM L rb pre.length) [w4.heap.size+1+1,w4.heap.size+1,tb,ge] w6.heap.size W' from by have:=aA3.make hI hT' hg (by omega) hglw (by rw [hpl];exact hol.1) hkk w6.heap.size;rw [hpl] at this;exact this));have HPX:=aA hpl;have HKK:=aA (λk hk=>(hkk k hk).1);have HI:=aA hI;have HSEM:=aA hsem;have HMONO:=aA hmono;have HRR:=aA hR';have HOL:=aA hol;have hO:lM L rb pre.length<L.length:=hol.1;have HCJ:=aA CJ;generalize hoe:lM L rb pre.length=oe at *;have HOE:=aA hoe;clear hI hsem hmono hR' hol CJ hT' hF' hN' hkk hpl hoe;gi_wp2_with (first
        | (refine ⟨trivial,?_⟩;gi_at_call 88;refine (CallsIn.inRound l (callsIn_wide.2 (aB HCJ))).mono ?_;rintro e W' ⟨ok,F'',rt'',d'',rfl,hres⟩;have hnx:=HNX.out W' hres.far;have HRES:=aA hres;have q1:=hnx.x3;have q2:=hnx.x6;have q3:=hnx.f6;have q4:=hnx.o0;have q5:=hnx.of;have q6:=hnx.c1;have q7:=hnx.en;have HNX2:=aA hnx;clear hnx hres)
        | fail)
       ·have hok:ok=false:=by simpa using ‹(!ok)=true›
        refine ⟨HNX2.out.kf.trans (sP _ q2 _),⟨rfl,⟨F'',rt'',d'',HRES.out.tm.boxed HT.out (by omega) 0 _,HRES.out.forest,HRES.out.named,zu HRES.out.fewer HRR.out,λi j e=>HRES.out.mono _ _ (HMONO.out i j e)⟩,λhp Bs Q hc=>?_,mJ HNX2.out.far (by omega) 0 _,zx _ _ _ (by rw [q2];rfl)⟩⟩;obtain ⟨hp1,hp2⟩:=aJa hp;obtain ⟨hs1,hm1⟩:=HSEM.out hp1 Bs Q hc;rw [HPX.out] at hm1;refine (kV.part hc (by rw [HRA.out,HF.out.rt_rt]) (by rw [HRB.out,HF.out.rt_rt]) (by rw [fL HNA.out];exact HVA.out) (by rw [fL HNB.out];exact HVB.out) hs1 hm1 (by rw [hC];exact hp2) ?_ HRES.out.sem).2 hok;rw [aD3 HNB.out (by omega),HOE.out]
       ·have hok:ok=true:=by simpa using ‹(!ok)=false›
        have hmix:zm.follows .mixedOrders=true:=by kernel_rfl
        have hOi:(oe:Int)<(L.length:Int):=by omega
        have hOz:(0:Int)<=(oe:Int):=Int.natCast_nonneg _;have hOn:((oe:Int)).toNat=oe:=Int.toNat_natCast _;gi_region_with_o (fail)
        all_goals
         gi_wp2
         have hbd:Below (W'.setCell ⟨w4.heap.size,0,none⟩ (.int .i64 ((oe:Int)+(aH (L.drop oe) 1:Nat)))).heap.size (W'.setCell ⟨w4.heap.size,0,none⟩ (.int .i64 ((oe:Int)+(aH (L.drop oe) 1:Nat)))) (W'.setCell ⟨w4.heap.size,0,none⟩ (.int .i64 ((oe:Int)+(aH (L.drop oe) 1:Nat)))).drew:=aI ⟨1,rfl⟩;have hkn:∀k∈[w4.heap.size+1+1,w4.heap.size+1,tb,ge],k≠w4.heap.size:=by have h1:=(zy.1 HT.out.box).1;have h2:=(aT HT.out.re ge rfl).2;intro k hk;simp at hk;rcases hk with rfl | rfl | rfl | rfl <;> omega
         refine ⟨HNX2.out.kf.trans ((sP _ q4 _).trans ⟨hbd.size,λk o _ hk _=>(hbd.block k (zy.1 hk).1).trans hk⟩),HNX2.out.kp.trans (λk hk=>(bR W' ⟨w4.heap.size,0,none⟩ _).block k ?_ (by simpa using hkn k hk)),⟨?_,⟨F'',rt'',d'',(HRES.out.tm.boxed HT.out (g:=w4.heap.size) (by omega) 0 _).below hbd,HRES.out.forest,HRES.out.named,zu HRES.out.fewer HRR.out,λi j e=>HRES.out.mono _ _ (HMONO.out i j e),λhp Bs Q hc=>?_⟩,(mJ HNX2.out.far (by omega) 0 _).trans (fV hbd),fY q1 (by omega),fY q2 (by omega),?_,?_,?_⟩⟩
         ·exact zo (HKK.out k hk) HRES.out.far.size
         ·have h1:=HI.out.big;have h2:=HRES.out.far.size;have h3:=(bR W' ⟨w4.heap.size,0,none⟩ (.int .i64 ((oe:Int)+(aH (L.drop oe) 1:Nat)))).size;exact zu h1 (zu h2 h3)
         ·obtain ⟨hp1,hp2⟩:=aJa hp;obtain ⟨hs1,hm1⟩:=HSEM.out hp1 Bs Q hc;rw [HPX.out] at hm1;have:=(kV.part hc (by rw [HRA.out,HF.out.rt_rt]) (by rw [HRB.out,HF.out.rt_rt]) (by rw [fL HNA.out];exact HVA.out) (by rw [fL HNB.out];exact HVB.out) hs1 hm1 (by rw [hC];exact hp2) (by rw [aD3 HNB.out (by omega),HOE.out]) HRES.out.sem).1 hok;simpa using this
         ·show (W'.setCell _ _).frozen? _=false;rw [zq];exact q3
         ·show (W'.setCell _ _).cell? _=_;rw [zx W' ⟨w4.heap.size,0,none⟩ _ (by rw [q4];rfl)];have:=HOL.out.2;simp only [List.length_map,List.length_append,zj,List.length_nil];rw [show pre.length+(0+1)=pre.length+1 by omega,this];simp
         ·show (W'.setCell _ _).frozen? _=false;rw [zq];exact q5
      case done=>
       rintro D ys W hD hS hI hK;obtain ⟨F',rt',d',hT',hF',hN',hR',hmono,hsem⟩:=hI.st;have x6':=hI.x6;have f6':=hI.f6;go_wp2;have hK':=(KeepsOthers.setCell W ⟨w.heap.size+1,0,none⟩ (.bool true)).same D _ hK rfl;refine ⟨by simp,.inl ⟨_,_,rfl,run_takeDeferred hK',?_⟩⟩;have hc5:=cell_kept (zx W ⟨w.heap.size+1,0,none⟩ (.bool true) (by rw [x6'];rfl)) (grownBy_putObj' _ D (.deferred none)) (λr e=>by cases e;exact ⟨_,hK',rfl⟩);refine ⟨.bool true,?_,?_⟩
       ·simp [results,zr,go_sem,hc5]
       ·refine ⟨true,F',rt',d',rfl,⟨(hT'.boxed HT.out (g:=w.heap.size+1) (by omega) 0 (.bool true)).others (grownBy_putObj' _ D (.deferred none)) (λr e=>by cases e;exact ⟨_,hK',rfl⟩),hF',hN',zu hR' (zp HRN.out),nU (mJ hI.far (g:=w.heap.size+1) (by omega) 0 (.bool true)) (grownBy_putObj' _ D (.deferred none)) (λr e=>by cases e;omega),λi j e=>hmono _ _ (xF rt rb ra i j e),λBs Q hs hab hc=>⟨λ_=>?_,λe=>by cases e⟩⟩⟩;obtain ⟨h1,h2⟩:=hsem (by rw [hS];exact List.prefix_refl _) Bs Q ⟨hs,hab,hc⟩;exact ⟨hmono a b ((aCz (a:=a) (b:=b) HRB.out HRA.out).ab (qB rt)),h1,h2.allParts (by rw [hC];have:=congrArg List.length hS;omega)⟩
      case stop=>
       rintro D c pre W hD hS hI hK;have hcr:=hI.ret;subst hcr;refine wpIn_wide.2 ?_;go_wp2;refine ⟨by simp,.inl ⟨_,_,rfl,run_takeDeferred hK,?_⟩⟩;have hc5:=cell_kept hI.x6 (grownBy_putObj' _ D (.deferred none)) (λr e=>by cases e;exact ⟨_,hK,rfl⟩);refine ⟨.bool false,?_,?_⟩
       ·simp [results,zr,go_sem,hc5]
       ·obtain ⟨F',rt',d',hT',hF',hN',hR',hmono⟩:=hI.st;exact ⟨false,F',rt',d',rfl,⟨hT'.others (grownBy_putObj' _ D (.deferred none)) (λr e=>by cases e;exact ⟨_,hK,rfl⟩),hF',hN',zu hR' (zp HRN.out),nU hI.far (grownBy_putObj' _ D (.deferred none)) (λr e=>by cases e;omega),λi j e=>hmono _ _ (xF rt rb ra i j e),λBs Q hs hab hc=>⟨λe=>(by cases e),λ_=>hI.no hS Bs Q ⟨hs,hab,hc⟩⟩⟩⟩
     ·rw [decide_eq_false hll] at hnbq;have HLL:=aA hll;clear hll;go_wp2_with (first
       | (go_at_call 83;refine (aB CVA _).mono ?_;clear CVA;rintro e w2 ⟨rfl,hb2⟩;obtain ⟨k2,kx,⟨ku,hku⟩,kfz,_⟩:=HST.out w2 hb2;have hJ:=HJW.out w2 hb2;have j1:=hJ.x3;have j2:=hJ.c0;have j3:=hJ.z0;have j4:=hJ.z1;have HJ:=aA hJ;clear hJ hb2)
       | (go_at_call 83;refine (aB CVB _).mono ?_;clear CVB;rintro e w3 ⟨rfl,hb3⟩;have hJ3:=HJ.out.below hb3;have m1:=hJ3.x6;have m2:=hJ3.f6;have m3:=hJ3.x3;have m4:=hJ3.c0;have m5:=hJ3.y0;have m6:=hJ3.y1;have m7:=hJ3.z0;have m8:=hJ3.z1;have HJ3:=aA hJ3;clear hJ3 hb3)
       | go_in)
      go_quiet (fail);go_wp2;have hw6:=zx (w3.drewN nq) ⟨w.heap.size+1,0,none⟩ (.bool false) (by simp [m1]);refine uB (v:=.bool false) rfl (by simp [results,zr,go_sem,hw6]) ?_;have hJ4:=HJ3.out.below (aI (w1:=w3.drewN nq) ⟨_,rfl⟩);have ht3:=hJ4.tm.boxed HT.out (g:=w.heap.size+1) (by omega) 0 (.bool false);have hg3:=mJ hJ4.far (g:=w.heap.size+1) (by omega) 0 (.bool false);refine ⟨false,F.set rb ra,fS rt rb ra,dJ rt d rb ra,rfl,⟨ht3,HFJ.out,HNJ.out,zp HRN.out,hg3,xF rt rb ra,kV.clash HF.out.rt_rt ?_ ?_ ?_⟩⟩
      ·rw [<-HRA.out,fL HNA.out];exact HVA.out
      ·rw [<-HRB.out,fL HNB.out];exact HVB.out
      ·rw [<-HRA.out,<-HRB.out,lC HNA.out,lC HNB.out];exact HLL.out
end
section
open Go.RowKit Go.Shelf Go.WideMaps
inductive fE(G:Gr)(E:Nat->Nat->Prop):Nat->Nat->Prop
 | step {x j p y:Nat}:E x j->G.named j->p∈G.ch j->E p y->fE G E x y
 | trans {x y z:Nat}:fE G E x y->fE G E y z->fE G E x z
section
variable {G:Gr}{E:Nat->Nat->Prop}
theorem fE.left(hE:eK G E){x x' y:Nat}(h:fE G E x y)(e:E x' x):fE G E x' y:=by
 induction h generalizing x' with
 | step a b c d=>exact fE.step (hE.trans _ _ _ e a) b c d
 | trans _ h2 ih _=>exact fE.trans (ih e) h2
theorem fE.right(hE:eK G E){x y y':Nat}(h:fE G E x y)(e:E y y'):fE G E x y':=by
 induction h generalizing y' with
 | step a b c d=>exact fE.step a b c (hE.trans _ _ _ d e)
 | trans h1 _ _ ih=>exact fE.trans h1 (ih e)
theorem fE.first(hE:eK G E){x y:Nat}(h:fE G E x y):∃j p,E x j/\G.named j/\p∈G.ch j/\(E p y\/fE G E p y):=by
 induction h with
 | step a b c d=>exact ⟨_,_,a,b,c,Or.inl d⟩
 | @trans x y z h1 h2 ih _=>
  obtain ⟨j,p,a,b,c,d⟩:=ih;refine ⟨j,p,a,b,c,zl ?_⟩;rcases d with d | d
  ·exact h2.left hE d
  ·exact fE.trans d h2
theorem bD.irrefl(hE:eK G E){x:Nat}(h:bD G E x):¬fE G E x x:=by
 induction h with
 | mk x _ ih=>
  intro hr;obtain ⟨j,p,a,b,c,d⟩:=hr.first hE
  refine ih j a b p c ?_;rcases d with d | d
  ·exact (hr.left hE d).right hE (hE.symm _ _ d)
  ·exact fE.trans d (fE.step a b c (hE.refl p))
theorem aJc(h:dR G E λ_ _=>False)(hE:tG E):eK G E/\dW G E:=
 ⟨⟨hE.refl,hE.symm,hE.trans,λi j k p q hij hi hj hp hq=>((h i j hij hi hj).2 k p q hp hq).le hE.refl hE.symm hE.trans λi j hij=>by
  rcases hij with hij | hij
  ·exact hij
  ·exact hij.elim⟩,λi j hij hi hj=>(h i j hij hi hj).1⟩
theorem aVj(hE:eK G E)(hN:dW G E)(hA:G.Arity){x r:Nat}(hxr:E x r)(hr:∀p∈G.ch r,bD G E p)(hnr:∀j,E x j->G.named j->G.named r):bD G E x:=by refine ⟨_,λj hj hn p hp=>?_⟩;have hn':=hnr j hj hn;have ha:=uX hE hN hA (hE.trans _ _ _ (hE.symm _ _ hxr) hj) hn' hn;obtain ⟨q,hq,hqp⟩:=ha.mem_right hp;exact (hr q hq).same hE hqp
theorem aVk{rep:Nat->Nat}{xs:List Nat}{ls:List (List Nd)}(h:aM (λx l=>aL G E rep [x] l) xs ls):aL G E rep xs ls.flatten:=by
 induction h with
 | nil=>exact aL.nil
 | cons h1 _ ih=>exact h1.append ih
end
def rC(L:List Nd)(rt:Nat->Nat)(S:List Int):Prop:=∀(p:Nat) (n:Int),S[p]?=some n->n=0\/n=-1\/(bD (aC L) (λi j=>rt i=rt j) p/\∃l,aL (aC L) (λi j=>rt i=rt j) rt [p] l/\n=(min 501 l.length:Nat))
def kG(S:List Int):Nat:=S.countP λx=>x == 0
theorem aVl(S:List Int):∀(p:Nat) (v:Int),S[p]?=some 0->v≠0->kG (S.set p v)<kG S:=by
 induction S with
 | nil=>intro p v h;simp at h
 | cons x r ih=>
  intro p v h hv;unfold kG at ih ⊢;cases p with
  | zero=>
   simp at h;subst h;simp [hv]
  | succ p=>
   have:=ih p v (by simpa using h) hv;rw [zk,zs,zs];omega
theorem aVm(S:List Int):∀(p:Nat) (v:Int),v≠0->kG (S.set p v)<=kG S:=by
 induction S with
 | nil=>intro p v _;simp [kG]
 | cons x r ih=>
  intro p v hv;unfold kG at ih ⊢;cases p with
  | zero=>
   rw [List.set_cons_zero,zs,zs];simp [hv]
  | succ p=>
   have:=ih p v hv;rw [zk,zs,zs];omega
theorem bF.sized{L:List Nd}{gs cs:Nat}(h:bF w B tb vn ve vl (.slice (some ⟨gs,0,none⟩) L.length cs) vm L F S)(p:Nat)(x:Int):bF (w.setCell ⟨gs,p,none⟩ (.int .i64 x)) B tb vn ve vl (.slice (some ⟨gs,0,none⟩) L.length cs) vm L F (S.set p x)/\w.grownBy (w.setCell ⟨gs,p,none⟩ (.int .i64 x)) (some gs):=by
 have hg:=bR w ⟨gs,p,none⟩ (.int .i64 x);refine ⟨⟨?_,h.high,cH h.rn hg (bW h.rn h.rs (by decide)),cH h.re hg (zl h.ac),cH h.rl hg (zl h.bc),?_,h.lf,by rw [List.length_set];exact h.ls,h.few,h.short,h.ab,h.ac,h.bc⟩,hg⟩
 ·rw [hg.block tb (zy.1 h.box).1 (λe=>cE h.rs h.box (by decide) e.symm),h.box]
 ·have r:=(h.rs.stored p (.int .i64 x)).1;rw [<-List.map_set] at r;exact r
theorem bF.size{L:List Nd}(h:bF w B tb vn ve vl vs vm L F S){p:Nat}(hp:p<L.length):∃gs cs n,vs=.slice (some ⟨gs,0,none⟩) L.length cs/\S[p]?=some n/\w.cell? ⟨gs,p,none⟩=some (.int .i64 n)/\w.frozen? ⟨gs,p,none⟩=false:=by
 obtain ⟨a,c,e,hc⟩:=aW2 h.rs h.ls;have hls:=h.ls;have hp':p<S.length:=by omega
 obtain ⟨g,rfl,h1⟩:=hc p hp';subst e;exact ⟨g,c,S[p],rfl,zw hp',h1,h.rs.frozenAt p⟩
theorem aJd(w:World)(x y z:Value)(t1 t2 t3:TypeId):∃W,W=((w.alloc (.cells #[x] t1)).alloc (.cells #[y] t2)).alloc (.cells #[z] t3)/\Below w.heap.size w W/\W.cell? ⟨w.heap.size,0,none⟩=some x/\W.cell? ⟨w.heap.size+1,0,none⟩=some y/\W.cell? ⟨w.heap.size+1+1,0,none⟩=some z/\W.frozen? ⟨w.heap.size+1,0,none⟩=false/\W.frozen? ⟨w.heap.size+1+1,0,none⟩=false/\W.heap.size=w.heap.size+3:=by
 obtain ⟨W,h1,h2,h3,_,h5,h6,h7⟩:=aD1 w x y z t1 t2 t3;refine ⟨W,h1,h2,h3,h5,h6,?_,?_,h7⟩
 ·subst h1;have hb:Below ((w.alloc (.cells #[x] t1)).alloc (.cells #[y] t2)).heap.size ((w.alloc (.cells #[x] t1)).alloc (.cells #[y] t2)) (((w.alloc (.cells #[x] t1)).alloc (.cells #[y] t2)).alloc (.cells #[z] t3)):=(Below.refl _ _).alloc (zz _) _;rw [hb.frozen (p:=⟨w.heap.size+1,0,none⟩) (by simp)];have:=(rB (w.alloc (.cells #[x] t1)) y t2).2;rw [zt] at this;exact this
 ·subst h1;have:=(rB ((w.alloc (.cells #[x] t1)).alloc (.cells #[y] t2)) z t3).2;rw [zt,zt] at this;exact this
structure aVn(w:World)(B tb:Nat)(vn ve vl vs vm:Value)(L:List Nd)(F:List Nat)(S:List Int)(rt:Nat->Nat)(a:Nat)(n:Int)(b:Bool)(w':World)(S':List Int):Prop where
 tm:bF w' B tb vn ve vl vs vm L F S'
 far:w.grownBy w' vs.ownBlock
 few:kG S'<=kG S
 yes:b=true->rC L rt S'/\(∀p:Nat,S'[p]?=some (-1)↔S[p]?=some (-1))/\bD (aC L) (λi j=>rt i=rt j) a/\∃l,aL (aC L) (λi j=>rt i=rt j) rt [a] l/\n=(min 501 l.length:Nat)
 no:b=false->n=0/\¬bD (aC L) (λi j=>rt i=rt j) a
structure xM(w:World)(B tb gs cs:Nat)(vn ve vl vm:Value)(L:List Nd)(F:List Nat)(S0:List Int)(rt:Nat->Nat)(cb N0:Nat)(pre:List Nat)(W:World):Prop where
 big:N0<=W.heap.size
 st:∃S',bF W B tb vn ve vl (.slice (some ⟨gs,0,none⟩) L.length cs) vm L F S'/\kG S'<=kG S0/\rC L rt S'/\(∀p:Nat,S'[p]?=some (-1)↔S0[p]?=some (-1))
 pts:∃ls,aM (λx l=>aL (aC L) (λi j=>rt i=rt j) rt [x] l) pre ls/\(∀x∈pre,bD (aC L) (λi j=>rt i=rt j) x)/\W.cell? ⟨cb,0,none⟩=some (.int .i64 ((min 501 (1+(ls.map List.length).sum):Nat):Int))
 far:w.grownBy W (some gs)
 x0:W.cell? ⟨w.heap.size,0,none⟩=some (.pointer (some ⟨tb,0,none⟩))
 x1:W.cell? ⟨w.heap.size+1,0,none⟩=some (.int .i64 0)
 x2:W.cell? ⟨w.heap.size+1+1,0,none⟩=some (.bool false)
 f1:W.frozen? ⟨w.heap.size+1,0,none⟩=false
 f2:W.frozen? ⟨w.heap.size+1+1,0,none⟩=false
 cf:W.frozen? ⟨cb,0,none⟩=false
structure aA4(w:World)(B tb gs cs:Nat)(vn ve vl vm:Value)(L:List Nd)(F:List Nat)(S0:List Int)(rt:Nat->Nat)(c:Code)(pre:List Nat)(W:World):Prop where
 ret:c=.ret
 st:∃S',bF W B tb vn ve vl (.slice (some ⟨gs,0,none⟩) L.length cs) vm L F S'/\kG S'<=kG S0
 no:∃x∈pre,¬bD (aC L) (λi j=>rt i=rt j) x
 far:w.grownBy W (some gs)
 x1:W.cell? ⟨w.heap.size+1,0,none⟩=some (.int .i64 0)
 x2:W.cell? ⟨w.heap.size+1+1,0,none⟩=some (.bool false)
section
variable {w:World}{B tb gs cs:Nat}{vn ve vl vm:Value}{L:List Nd}{F:List Nat}{S0:List Int}{rt:Nat->Nat}{cb N0 N:Nat}{C:List Nat}
theorem xM.own(hN:w.heap.size<=N):OwnFrom N (λ(pre:List (nW C)) W=>xM w B tb gs cs vn ve vl vm L F S0 rt cb N0 (pre.map λx=>x.1) W):=by
 intro pre W W' row h hg hr;have hr':∀r,row=some r->∃o:Obj,W.heap[r]?=some o/\o.isCells=false:=λr e=>(hr r e).2
 obtain ⟨S',h1,h2⟩:=h.st;obtain ⟨ls,h3,h4,h5⟩:=h.pts;exact ⟨zu h.big hg.size,⟨S',h1.others hg hr',h2⟩,⟨ls,h3,h4,cell_kept h5 hg hr'⟩,nU h.far hg (λr e=>by have:=(hr r e).1;omega),cell_kept h.x0 hg hr',cell_kept h.x1 hg hr',cell_kept h.x2 hg hr',(frozen_kept h.x1 hg hr').trans h.f1,(frozen_kept h.x2 hg hr').trans h.f2,(frozen_kept h5 hg hr').trans h.cf⟩
theorem aA4.own(hN:w.heap.size<=N)(c:Code):OwnFrom N (λ(pre:List (nW C)) W=>aA4 w B tb gs cs vn ve vl vm L F S0 rt c (pre.map λx=>x.1) W):=by
 intro pre W W' row h hg hr;have hr':∀r,row=some r->∃o:Obj,W.heap[r]?=some o/\o.isCells=false:=λr e=>(hr r e).2
 obtain ⟨S',h1,h2⟩:=h.st;exact ⟨h.ret,⟨S',h1.others hg hr',h2⟩,h.no,nU h.far hg (λr e=>by have:=(hr r e).1;omega),cell_kept h.x1 hg hr',cell_kept h.x2 hg hr'⟩
end
end
end Go.Proofs.YtcldkjcpofjmhaaGreatDoor
