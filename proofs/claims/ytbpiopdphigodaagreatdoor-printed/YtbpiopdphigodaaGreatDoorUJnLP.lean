import Derived.Test.YtbpiopdphigodaaGreatDoorUAppP
open Array renaming getElem?_eq_some_iff→zz
open List renaming getElem?_eq_getElem→zw,countP_cons→zs,set_cons_succ→zk,length_cons→zj
open Nat renaming le_refl→zx,le_trans→zu,le_of_lt→zp,lt_of_lt_of_le→zo
open Or renaming inr→zl
namespace Go.Proofs.YtbpiopdphigodaaGreatDoor
open _root_.Go.Proofs.Tryz renaming results148→zr,prog→zm
open Value renaming ownBlock→zn
open World renaming cell?_setCell_same'→zy,block_lt_of_cell?→zv,size_alloc→zt,frozen?_setCell→zq
open Go.RowKit Go.Shelf Go.WideMaps
set_option maxHeartbeats 2000000
set_option maxRecDepth 100000
variable{S:List Int}{F:List Nat}{B p ra rb tb:Nat}{rt:Nat->Nat}{o:Option Nat}{ve vl vm vn vs:Value}{W W' w w3:World}
section
theorem qM(w:World)(a:Value)(b:TypeId):(w.alloc (.cells #[a] b)).cell? ⟨w.heap.size,0,none⟩=some a/\(w.alloc (.cells #[a] b)).frozen? ⟨w.heap.size,0,none⟩=false:=by
 have c:(w.alloc (.cells #[a] b)).heap[w.heap.size]?=some (.cells #[a] b):=by show (w.heap.push _)[w.heap.size]?=_;simp
 constructor
 ·unfold World.cell?;rw [c];rfl
 ·unfold World.frozen?;rw [c];rfl
theorem aCw(w:World)(a c f:Value)(b e g:TypeId):∃W,W=((w.alloc (.cells #[a] b)).alloc (.cells #[c] e)).alloc (.cells #[f] g)/\aB w W/\W.cell? ⟨w.heap.size,0,none⟩=some a/\W.frozen? ⟨w.heap.size,0,none⟩=false/\W.cell? ⟨w.heap.size+1,0,none⟩=some c/\W.cell? ⟨w.heap.size+1+1,0,none⟩=some f/\W.heap.size=w.heap.size+3:=by
 refine ⟨_,rfl,(((Below.refl _ _).alloc (zx _) _).alloc (by simp) _).alloc (by simp;omega) _,?_,?_,?_,?_,by simp⟩
 ·have d:=(qM w a b).1;have i:=Below.at' ((Below.refl _ (w.alloc (.cells #[a] b))).alloc (zx _) (.cells #[c] e)) (zx _) d;exact Below.at' ((Below.refl _ ((w.alloc (.cells #[a] b)).alloc (.cells #[c] e))).alloc (zx _) (.cells #[f] g)) (zx _) i
 ·have j:Below (w.alloc (.cells #[a] b)).heap.size (w.alloc (.cells #[a] b)) (((w.alloc (.cells #[a] b)).alloc (.cells #[c] e)).alloc (.cells #[f] g)):=((Below.refl _ _).alloc (zx _) _).alloc (by simp) _;rw [j.frozen (p:=⟨w.heap.size,0,none⟩) (by simp)];exact (qM w a b).2
 ·have d:=(qM (w.alloc (.cells #[a] b)) c e).1;rw [zt] at d;exact Below.at' ((Below.refl _ ((w.alloc (.cells #[a] b)).alloc (.cells #[c] e))).alloc (zx _) (.cells #[f] g)) (zx _) d
 ·have d:=(qM ((w.alloc (.cells #[a] b)).alloc (.cells #[c] e)) f g).1;rw [zt,zt] at d;exact d
theorem bH.ends{a:List Nd}(k:bH w B tb vn ve vl vs vm a F S)(l:0<a.length):∃c g,ve=.slice (some ⟨c,0,none⟩) a.length g/\∀p,p<a.length->w.cell? ⟨c,p,none⟩=some (.int .i64 (p+aL (a.drop p) 1)):=by obtain ⟨n,f,i,d⟩:=aBm k.re (gL a);obtain ⟨j,rfl,_⟩:=d 0 (by rw [gL];exact l);refine ⟨j,f,i,λp b=>?_⟩;obtain ⟨q,e,m⟩:=d p (by rw [gL];exact b);simp at e;subst e;rw [m];have:=uB a p b;rw [zw (by rw [gL];exact b)] at this;simp at this;rw [this];simp
theorem lJ.of{a:List Nd}{c d f j b:Nat}(g:bH w B tb vn (.slice (some ⟨f,0,none⟩) a.length j) vl vs vm a F S)(l:0<a.length)(i:w.cell? ⟨c,0,none⟩=some (.int .i64 b))(k:w.cell? ⟨d,0,none⟩=some (.pointer (some ⟨tb,0,none⟩))):lJ w c d tb f a b:=by obtain ⟨q,n,e,m⟩:=g.ends l;simp at e;obtain ⟨rfl,rfl⟩:=e;exact ⟨i,k,⟨_,g.c1⟩,m⟩
theorem aCx{b:List Nat}{c:World}(d:aB w c)(e:∀a∈b,a<w.heap.size):iK b w c:=λa f=>d.block a (e a f)
structure JC(L:List Nd)(rt:Nat->Nat)(a b:Nat)(Bs Q:Nat->Nat->Prop):Prop where
 sound:∀i j,rt i=rt j->Cl (aJ L) Bs i j
 ab:Cl (aJ L) Bs a b
 mod:eA (aJ L) (λi j=>rt i=rt j) (sY Q a b)
def mC(a:List Nd)(rb k:Nat):Nat:=rb+1+aL (a.drop (rb+1)) k
theorem aW2:∀(b:Nat) (d:List Nd) (c a:Nat),a<b->(iV d b c)[a]?=some (c+aL d a):=by
 intro b;induction b with
 |zero=>intro d c a e;omega
 |succ b ih=>
  intro d c a e;rw [mL];cases a with
  |zero=>simp
  |succ a=>
   rw [List.getElem?_cons_succ,ih _ _ a (by omega),show a+1=1+a by omega,sW];simp;omega
theorem aCy{a:List Nd}{c:Nd}(d:a[p]?=some c){b:Nat}(e:b<aX c):((aJ a).ch p)[b]?=some (mC a p b):=by rw [lU d,aW2 _ _ _ _ e];rfl
theorem aIx{a:List Nd}{b:Nd}(c:a[p]?=some b):((aJ a).ch p).length=aX b:=by rw [lU c,aBi]
theorem aIy{a:List Nd}(f:eT a){p:Nat}{b:Nd}(d:a[p]?=some b){k:Nat}(g:k<aX b):mC a p k<a.length/\mC a p (k+1)=mC a p k+aL (a.drop (mC a p k)) 1:=by obtain ⟨e,c⟩:=aIv (f p b d) g;rw [List.length_drop] at e;rw [List.drop_drop] at c;unfold mC;refine ⟨by omega,?_⟩;rw [c];omega
theorem aCz{a:List Nd}(f:eT a){p:Nat}{n:Nd}(b:a[p]?=some n):∀e∈(aJ a).ch p,e<a.length:=by
 intro e g;obtain ⟨k,c,rfl⟩:=List.getElem_of_mem g;have d:k<aX n:=by rw [<-aIx b];exact c
 have:=aCy b d;rw [zw c] at this;simp at this;rw [this];exact (aIy f b d).1
structure wL(w:World)(B tb gl cl:Nat)(vn ve vs vm:Value)(L:List Nd)(F0:List Nat)(S:List Int)(rt bG:Nat->Nat)(a b ra rb ob N0:Nat)(C pre:List Nat)(W:World):Prop where
 big:N0<=W.heap.size
 st:∃F' rt' d',bH W B tb vn ve (.slice (some ⟨gl,0,none⟩) L.length cl) vs vm L F' S/\fR F' rt' d'/\kC L rt'/\mM F'<=mM F0/\(∀i j,bG i=bG j->rt' i=rt' j)/\
  (pre <+: C->∀Bs Q,JC L rt a b Bs Q->(∀i j,rt' i=rt' j->Cl (aJ L) Bs i j)/\eA (aJ L) (λi j=>rt' i=rt' j) (oI (aJ L) Q ra rb pre.length))
 far:w.grownBy W (some gl)
 x3:W.cell? ⟨w.heap.size,0,none⟩=some (.pointer (some ⟨tb,0,none⟩))
 x6:W.cell? ⟨w.heap.size+1,0,none⟩=some (.bool false)
 f6:W.frozen? ⟨w.heap.size+1,0,none⟩=false
 o0:W.cell? ⟨ob,0,none⟩=some (.int .i64 (mC L rb pre.length))
 of:W.frozen? ⟨ob,0,none⟩=false
structure zJ(w:World)(B tb gl cl:Nat)(vn ve vs vm:Value)(L:List Nd)(F0:List Nat)(S:List Int)(rt bG:Nat->Nat)(a b:Nat)(C:List Nat)(c:Code)(pre:List Nat)(W:World):Prop where
 ret:c=.ret
 st:∃F' rt' d',bH W B tb vn ve (.slice (some ⟨gl,0,none⟩) L.length cl) vs vm L F' S/\fR F' rt' d'/\kC L rt'/\mM F'<=mM F0/\(∀i j,bG i=bG j->rt' i=rt' j)
 no:pre <+: C->∀Bs Q,JC L rt a b Bs Q->¬lE (aJ L) (Cl (aJ L) Bs)
 far:w.grownBy W (some gl)
 x6:W.cell? ⟨w.heap.size+1,0,none⟩=some (.bool false)
theorem nO{f:Option Nat}(a:w.grownBy W o)(b:W.grownBy W' f)(j:∀e,f=some e->w.heap.size<=e):w.grownBy W' o:=
 ⟨b.os.trans a.os,b.tape.trans a.tape,b.output.trans a.output,zu a.size b.size,λc d i=>by
  rw [b.block c (zo d a.size) (λg=>by have:=j c g.symm;omega),a.block c d i]⟩
section
variable {w:World}{B tb gl cl:Nat}{vn ve vs vm:Value}{L:List Nd}{F0:List Nat}{S:List Int}{rt bG:Nat->Nat}{a b ra rb ob N N0:Nat}{C:List Nat}
theorem wL.own(s:w.heap.size<=N):OwnFrom N (λ(pre:List (nQ C)) W=>wL w B tb gl cl vn ve vs vm L F0 S rt bG a b ra rb ob N0 C (pre.map λr=>r.1) W):=by
 intro pre W W' n c d i;have e:∀f,n=some f->∃o:Obj,W.heap[f]?=some o/\o.isCells=false:=λf g=>(i f g).2
 obtain ⟨j,q,k,l,m⟩:=c.st;exact ⟨zu c.big d.size,⟨j,q,k,l.others d e,m⟩,nO c.far d (λf g=>by have:=(i f g).1;omega),cell_kept c.x3 d e,cell_kept c.x6 d e,(frozen_kept c.x6 d e).trans c.f6,cell_kept c.o0 d e,(frozen_kept c.o0 d e).trans c.of⟩
theorem zJ.own(t:w.heap.size<=N)(k:Code):OwnFrom N (λ(pre:List (nQ C)) W=>zJ w B tb gl cl vn ve vs vm L F0 S rt bG a b C k (pre.map λs=>s.1) W):=by
 intro pre W W' q d f g;have i:∀c,q=some c->∃o:Obj,W.heap[c]?=some o/\o.isCells=false:=λc e=>(g c e).2
 obtain ⟨j,r,l,m,n⟩:=d.st;exact ⟨d.ret,⟨j,r,l,m.others f i,n⟩,d.no,nO d.far f (λc e=>by have:=(g c e).1;omega),cell_kept d.x6 f i⟩
end
structure zK(w W:World)(tb gl ge ce ob:Nat)(L:List Nd)(o:Nat)(ks:List Nat)(B0:Nat)(W':World):Prop where
 x3:W'.cell? ⟨w.heap.size,0,none⟩=some (.pointer (some ⟨tb,0,none⟩))
 x6:W'.cell? ⟨w.heap.size+1,0,none⟩=some (.bool false)
 f6:W'.frozen? ⟨w.heap.size+1,0,none⟩=false
 o0:W'.cell? ⟨ob,0,none⟩=some (.int .i64 o)
 of:W'.frozen? ⟨ob,0,none⟩=false
 c1:W'.cell? ⟨tb,1,none⟩=some (.slice (some ⟨ge,0,none⟩) L.length ce)
 en:W'.cell? ⟨ge,o,none⟩=some (.int .i64 (o+aL (L.drop o) 1))
 kp:iK ks W W'
 kf:KeepsFrom B0 W W'
 far:w.grownBy W' (some gl)
theorem wM{g:Nat}(e:Nat)(c:W.grownBy W' (some g))(j:∃o:Obj,W.heap[g]?=some o/\o.isCells=true):KeepsFrom e W W':=by obtain ⟨l,f,i⟩:=j;exact ⟨c.size,λk o _ a d=>(c.block k (zz.1 a).1 (λb=>by simp at b;subst b;rw [f] at a;simp at a;subst a;rw [i] at d;cases d)).trans a⟩
theorem rX{g:Nat}(b:Nat){d:Value}(a:W.cell? ⟨g,0,none⟩=some d)(v:Value):KeepsFrom b W (W.setCell ⟨g,0,none⟩ v):=by
 refine wM b (cJ W ⟨g,0,none⟩ v) ?_;unfold World.cell? at a;simp only at a;split at a
 ·rename_i e f i c;exact ⟨_,c,rfl⟩
 ·cases a
theorem aD0{e:List Nat}{b:Nat}(g:W.grownBy W' (some b))(c:∀a∈e,a<W.heap.size/\a≠b):iK e W W':=λa d=>g.block a (c a d).1 (λf=>(c a d).2 (by simpa using f))
theorem zK.make{b m g i:Nat}{a:List Nd}{u:List Nat}{z:Nat->Nat}{x y j v:Nat}{s k:List Nat}{t:List Nat}(e:wL w B tb b m vn (.slice (some ⟨g,0,none⟩) a.length i) vs vm a u S rt z x y ra rb j v s k W)(f:bH W B tb vn (.slice (some ⟨g,0,none⟩) a.length i) (.slice (some ⟨b,0,none⟩) a.length m) vs vm a t S)
  {W':World} (c:W.grownBy W' (some b)) (O:w.heap.size<=j) (N:b<w.heap.size) (H:mC a rb k.length<a.length) {r:List Nat} (D:∀q∈r,q<W.heap.size/\q≠b) (l:Nat):zK w W tb b g i j a (mC a rb k.length) r l W':=by
 obtain ⟨M,L,d,C⟩:=f.ends (by omega);simp at d;obtain ⟨rfl,rfl⟩:=d;have G:g≠b:=λd=>f.ab (by simp [zn,d])
 have I:tb≠b:=λd=>dZ f.rl f.box (by decide) (by simp [zn,d])
 have n:∀{p:Addr} {J:Value},W.cell? p=some J->p.block≠b->W'.frozen? p=W.frozen? p:=λA E=>World.frozen?_of_block (c.block _ (zv W _ A) (λd=>E (by simpa using d)))
 exact ⟨c.cell e.x3 (by simp;omega),c.cell e.x6 (by simp;omega),(n e.x6 (by simp;omega)).trans e.f6,c.cell e.o0 (by simp;omega),(n e.o0 (by simp;omega)).trans e.of,c.cell f.c1 (by simpa using I),c.cell (C _ H) (by simpa using G),aD0 c D,wM l c (vQ f.rl rfl),e.far.trans c⟩
theorem aIz{e:Type}{b:List Nat}{a:e->Nat}{c:List e}{d:e}(f:(c++[d]).map a <+: b):c.map a <+: b/\b[c.length]?=some (a d):=by obtain ⟨g,rfl⟩:=f;refine ⟨⟨[a d]++g,by simp⟩,?_⟩;rw [List.map_append,List.append_assoc,List.getElem?_append_right (by simp)];simp
theorem lI.part{a:List Nd}{e f:Nat->Nat}{m n k l:Nat}{j:Bool}{d g:Nat->Nat->Prop}(i:JC a rt m n d g)(z:rt m=rt ra)(A:rt n=rt rb)(D:(aJ a).named ra)(E:(aJ a).named rb)(C:∀b c,e b=e c->Cl (aJ a) d b c)(y:eA (aJ a) (λb c=>e b=e c) (oI (aJ a) g ra rb k))(q:((aJ a).ch ra)[k]?=some p)(r:((aJ a).ch rb)[k]?=some l)(t:lI a e f p l j):(j=true->(∀b c,f b=f c->Cl (aJ a) d b c)/\eA (aJ a) (λb c=>f b=f c) (oI (aJ a) g ra rb (k+1)))/\(j=false->¬lE (aJ a) (Cl (aJ a) d)):=by
 have x:Cl (aJ a) d p l:=Cl.down (k:=k) ((i.sound _ _ z.symm).trans (i.ab.trans (i.sound _ _ A))) D E q r;obtain ⟨u,v⟩:=t d (oI (aJ a) g ra rb (k+1)) C x (y.part q r);exact ⟨λs=>(u s).2,v⟩
attribute [local go_sem] Oper.semAt_some
theorem tF{d:Nat}{c:Func}{b:Ending->World->Prop}{a:Act}{v:Value}(f:a.defers=[])(g:(results c a.tmps).run zm w=.ok v w)(e:b (.returned v) w):bodyPostM Fence.wide d zm c b .ret a w:=by show LeavesInM Fence.wide d zm c a.tmps b a.defers .returning w;rw [f];exact ⟨v,g,e⟩
theorem aW3{c:Nat->Nat}(a:fR F rt c){p:Nat}(b:p<F.length):0<mM F:=by unfold mM;rw [List.countP_pos_iff];exact ⟨rt p,by simpa using a.rt_lt b,by simp [a.rootAt b]⟩
theorem bH.node{a:List Nd}(g:bH w B tb vn ve vl vs vm a F S){p:Nat}{n:Nd}(l:a[p]?=some n):∃b d,vn=.slice (some ⟨b,0,none⟩) a.length d/\w.cell? ⟨b,p*2,none⟩=some (.string n.1)/\w.cell? ⟨b,p*2+1,none⟩=some (.int .i64 n.2):=by obtain ⟨m,c,e,k⟩:=aFx g.rn;obtain ⟨f,rfl,i,j⟩:=k p n l;exact ⟨f,c,e,i,j⟩
theorem bH.leader{b:List Nd}(a:bH w B tb vn ve vl vs vm b F S){p:Nat}(m:p<b.length):∃c e,vl=.slice (some ⟨c,0,none⟩) b.length e/\(∃u,w.cell? ⟨c,p,none⟩=some u)/\w.frozen? ⟨c,p,none⟩=false:=by obtain ⟨k,d,f,j⟩:=aBm a.rl a.lf;have l:=a.lf;obtain ⟨g,rfl,i⟩:=j p (by omega);subst f;exact ⟨g,d,rfl,⟨_,i⟩,a.rl.frozenAt p⟩
theorem aJ0{c b:World}{a:Nat}{v u n e:Value}(d:aB c b)(q:c.cell? ⟨w.heap.size,0,none⟩=some e)(i:c.cell? ⟨w.heap.size+1,0,none⟩=some u)(k:c.frozen? ⟨w.heap.size+1,0,none⟩=false)(f:c.cell? ⟨a,p,none⟩=some n)(l:c.frozen? ⟨a,p,none⟩=false)(j:c.cell? ⟨tb,2,none⟩=some vl)(s:a<w.heap.size):b.cell? ⟨tb,2,none⟩=some vl/\b.cell? ⟨w.heap.size,0,none⟩=some e/\(∃r,b.cell? ⟨a,p,none⟩=some r)/\b.frozen? ⟨a,p,none⟩=false/\(b.setCell ⟨a,p,none⟩ v).cell? ⟨w.heap.size,0,none⟩=some e/\(b.setCell ⟨a,p,none⟩ v).cell? ⟨w.heap.size+1,0,none⟩=some u/\(b.setCell ⟨a,p,none⟩ v).frozen? ⟨w.heap.size+1,0,none⟩=false:=by
 have g:=aD d q;have m:=aD d i;refine ⟨aD d j,g,⟨_,aD d f⟩,(d.frozen (p:=⟨a,p,none⟩) (zv _ _ f)).trans l,gE g (by omega),gE m (by omega),?_⟩;rw [zq];exact (d.frozen (p:=⟨w.heap.size+1,0,none⟩) (zv _ _ i)).trans k
theorem bH.lts{d:List Nd}(c:bH w B tb vn ve vl vs vm d F S){a:Nat}(e:w.heap.size<=a):some a≠some tb/\vn.ownBlock≠some a/\ve.ownBlock≠some a/\vl.ownBlock≠some a/\vs.ownBlock≠some a:=by
 refine ⟨λb=>?_,λb=>?_,λb=>?_,λb=>?_,λb=>?_⟩
 ·have:=(zz.1 c.box).1;simp at b;omega
 ·have:=(cL c.rn a b).2;omega
 ·have:=(cL c.re a b).2;omega
 ·have:=(cL c.rl a b).2;omega
 ·have:=(cL c.rs a b).2;omega
theorem bH.boxed{L:List Nd}{c:List Nat}{d:List Int}(l:bH w3 B tb vn ve vl vs vm L F S)(m:bH w B tb vn ve vl vs vm L c d){g:Nat}(n:w.heap.size<=g)(a:Nat)(b:Value):bH (w3.setCell ⟨g,a,none⟩ b) B tb vn ve vl vs vm L F S:=by obtain ⟨e,f,i,j,k⟩:=m.lts n;exact l.grown (cJ w3 ⟨g,a,none⟩ b) e (zl f) (zl i) (zl j) (zl k)
theorem wN{a:World}(b:aB w a)(c:a.grownBy w3 o):w.grownBy w3 o:=(fX b).trans c
theorem mU(a:w.grownBy w3 o){g:Nat}(k:w.heap.size<=g)(d:Nat)(f:Value):w.grownBy (w3.setCell ⟨g,d,none⟩ f) o:=by
 have b:=cJ w3 ⟨g,d,none⟩ f;exact ⟨b.os.trans a.os,b.tape.trans a.tape,b.output.trans a.output,zu a.size b.size,λe c j=>by
  rw [b.block e (zo c a.size) (λi=>by simp at i;omega),a.block e c j]⟩
structure JW(w:World)(B tb:Nat)(gn cn gl cl:Nat)(ve vs vm:Value)(L:List Nd)(F:List Nat)(S:List Int)(ra rb:Nat)(na nb:Nd)(wx:World):Prop where
 tm:bH wx B tb (.slice (some ⟨gn,0,none⟩) L.length cn) ve (.slice (some ⟨gl,0,none⟩) L.length cl) vs vm L F S
 far:w.grownBy wx (some gl)
 x3:wx.cell? ⟨w.heap.size,0,none⟩=some (.pointer (some ⟨tb,0,none⟩))
 x6:wx.cell? ⟨w.heap.size+1,0,none⟩=some (.bool false)
 f6:wx.frozen? ⟨w.heap.size+1,0,none⟩=false
 c0:wx.cell? ⟨tb,0,none⟩=some (.slice (some ⟨gn,0,none⟩) L.length cn)
 y0:wx.cell? ⟨gn,ra*2,none⟩=some (.string na.1)
 y1:wx.cell? ⟨gn,ra*2+1,none⟩=some (.int .i64 na.2)
 z0:wx.cell? ⟨gn,rb*2,none⟩=some (.string nb.1)
 z1:wx.cell? ⟨gn,rb*2+1,none⟩=some (.int .i64 nb.2)
theorem JW.mk'{j f d e:Nat}{a:List Nd}{k l:Nd}{b:World}(c:bH b B tb (.slice (some ⟨j,0,none⟩) a.length f) ve (.slice (some ⟨d,0,none⟩) a.length e) vs vm a F S)(n:w.grownBy b (some d))(q:a[ra]?=some k)(r:a[rb]?=some l)
  (s:b.cell? ⟨w.heap.size,0,none⟩=some (.pointer (some ⟨tb,0,none⟩))) (t:b.cell? ⟨w.heap.size+1,0,none⟩=some (.bool false)) (m:b.frozen? ⟨w.heap.size+1,0,none⟩=false):JW w B tb j f d e ve vs vm a F S ra rb k l b:=by
 obtain ⟨C,z,g,u,v⟩:=c.node q;obtain ⟨D,A,i,x,y⟩:=c.node r;simp at g i;obtain ⟨rfl,rfl⟩:=g;obtain ⟨rfl,rfl⟩:=i;exact ⟨c,n,s,t,m,c.c0,u,v,x,y⟩
theorem JW.below{f d e c:Nat}{b:List Nd}{g i:Nd}{wx j:World}(a:JW w B tb f d e c ve vs vm b F S ra rb g i wx)(k:aB wx j):JW w B tb f d e c ve vs vm b F S ra rb g i j:=
 ⟨a.tm.below k,a.far.trans (fX k),aD k a.x3,aD k a.x6,(k.frozen (p:=⟨w.heap.size+1,0,none⟩) (zv _ _ a.x6)).trans a.f6,aD k a.c0,aD k a.y0,aD k a.y1,aD k a.z0,aD k a.z1⟩
theorem aW4(B tb:Nat)(vn ve vl vs vm:Value)(b:List Nd)(S:List Int)(g3:eT b):∀(f3:Nat) (F:List Nat) (rt R:Nat->Nat) (z D:Nat) (w:World),mM F<=f3->bH w B tb vn ve vl vs vm b F S->fR F rt R->kC b rt->z<b.length->D<b.length->
  Calls zm 148 #[.pointer (some ⟨tb,0,none⟩),.int .i64 z,.int .i64 D] w λa s1=>∃a9 a2 b0 O,a=.returned (.bool a9)/\aW0 w B tb vn ve vl vs vm b F S rt z D a9 s1 a2 b0 O:=by
 intro f3;induction f3 with
 |zero=>
  intro F rt R z D w c0 a4 c7 _ k6 _;have:=aW3 c7 (p:=z) (by rw [a4.lf];exact k6);omega
 |succ f3 ih=>
  intro F rt R z D w c0 a4 c7 k5 k6 u0;have g5:aB w ((w.alloc (.cells #[.pointer (some ⟨tb,0,none⟩)] 173)).alloc (.cells #[.bool false] 4)):=((Below.refl _ _).alloc (zx _) _).alloc (by simp) _;have j1:=aA (λO (p:Nat) (d3:p<b.length)=>aBn B tb vn ve vl vs vm b F S rt R p (((w.alloc (.cells #[.pointer (some ⟨tb,0,none⟩)] 173)).alloc (.cells #[.bool false] 4)).drewN O) ((a4.below g5).drewN O) c7 d3);have i:=aA a4;have r:=aA c7;have c3:=aA k5;have n6:=aA c0;have j5:=aA g5;have n9:=aA ih;clear a4 c7 k5 c0 g5 ih;refine (callsIn_wide (n:=3)).1 ?_;refine callsIn_of_wp_marks Tryz.func148 rfl trivial ?_;simp only [Tryz.ntmps148,List.size_toArray,zj,List.length_nil,Nat.reduceAdd,Nat.reduceSub,Array.replicate_succ,Array.replicate_zero,List.push_toArray,List.append_toArray,List.nil_append,List.cons_append];refine wpIn_wide.2 ?_;go_wp2;go_quiet ((go_at_call 164;exact Calls.quiet_of_same (aC j1 _ _ (by assumption))));have k7:aB w (((w.alloc (.cells #[.pointer (some ⟨tb,0,none⟩)] 173)).alloc (.cells #[.bool false] 4)).drewN nq):=aZ j5.o (aQ ⟨nq,rfl⟩);have m9:(((w.alloc (.cells #[.pointer (some ⟨tb,0,none⟩)] 173)).alloc (.cells #[.bool false] 4)).drewN nq).cell? ⟨w.heap.size,0,none⟩=some (.pointer (some ⟨tb,0,none⟩)):=by simp
  have j0:(((w.alloc (.cells #[.pointer (some ⟨tb,0,none⟩)] 173)).alloc (.cells #[.bool false] 4)).drewN nq).cell? ⟨w.heap.size+1,0,none⟩=some (.bool false):=by simp
  have k4:(((w.alloc (.cells #[.pointer (some ⟨tb,0,none⟩)] 173)).alloc (.cells #[.bool false] 4)).drewN nq).frozen? ⟨w.heap.size+1,0,none⟩=false:=by simp
  generalize ((w.alloc (.cells #[.pointer (some ⟨tb,0,none⟩)] 173)).alloc (.cells #[.bool false] 4)).drewN nq=w1 at *;have G:=aA k7;clear j1 j5 k7;obtain ⟨ra,h7⟩ : ∃ra,ra=rt z:=⟨_,rfl⟩;obtain ⟨rb,h8⟩ : ∃rb,rb=rt D:=⟨_,rfl⟩;rw [<-h7,<-h8];have x:=aA h7;have y:=aA h8;clear h7 h8;by_cases c8:ra=rb
  ·have p0:((ra:Int)==(rb:Int))=true:=by rw [c8];simp
   have n1:=aA c8;clear c8;go_wp2;have P:=zy w1 ⟨w.heap.size+1,0,none⟩ (.bool true) (by rw [j0];rfl);refine tF (v:=.bool true) rfl (by simp [results,zr,go_sem,P]) ?_;have k8:aB w (w1.setCell ⟨w.heap.size+1,0,none⟩ (.bool true)):=G.o.setCell (by simp) _;exact ⟨true,F,rt,R,rfl,⟨i.o.below k8,r.o,c3.o,zx _,fX k8,λ_ _ a=>a,lI.same (by rw [<-x.o,<-y.o,n1.o])⟩⟩
  ·have p0:((ra:Int)==(rb:Int))=false:=by rw [beq_eq_false_iff_ne];omega
   have h1:=i.o.lf;have l2:ra<b.length:=by rw [x.o,<-h1];exact r.o.rt_lt (by omega)
   have l4:rb<b.length:=by rw [y.o,<-h1];exact r.o.rt_lt (by omega)
   have l1:F[ra]?=some ra:=by rw [x.o];exact r.o.rootAt (by omega)
   have l3:F[rb]?=some rb:=by rw [y.o];exact r.o.rootAt (by omega)
   obtain ⟨q9,h2⟩ : ∃i7,b[ra]?=some i7:=⟨b[ra],zw l2⟩;obtain ⟨r0,h3⟩ : ∃i7,b[rb]?=some i7:=⟨b[rb],zw l4⟩;have e5:=i.o.below G.o;obtain ⟨g1,g0,rfl,s4,s5⟩:=e5.node h2;obtain ⟨t1,s9,k3,s6,s7⟩:=e5.node h3;simp at k3;obtain ⟨rfl,rfl⟩:=k3;have s8:=e5.c0;obtain ⟨C,J⟩:=q9;obtain ⟨I,U⟩:=r0;simp only at s4 s5 s6 s7;have u4:(ra:Int)<(b.length:Int):=by omega
   have u5:(rb:Int)<(b.length:Int):=by omega
   have p1:=i.o.few;have f7:=aA l1;have f8:=aA l3;have u:=aA h2;have H:=aA h3;have e1:=aA c8;have d9:=aA (λr9 l i9=>nH r9 l i9);have l5:=G.o.size;clear h1 l1 l3 h2 h3 e5 c8;by_cases f0:C.toList.isEmpty=true
   ·have Y:=aA (show aM (C,J)=true from f0);obtain ⟨q,e3,rfl,⟨s0,d6⟩,c9⟩:=(i.o.below G.o).leader l2;have c6:=(i.o.below G.o).c2;have M:=aA (aC d9 C J);rw [f0] at M;have e7:q<w.heap.size:=(cL i.o.rl q rfl).2;have b1:=aA (λ(f:World) (d:aB w1 f)=>aJ0 (v:=.int .i64 (rb:Int)) (u:=.bool false) d m9 j0 k4 d6 c9 c6 e7);have n2:=aA (λ(f:World) (d:aB w1 f)=>((i.o.below G.o).below d).lead ra rb);clear c9 d6 c6;go_wp2_with (first
     |(go_at_call 36;refine (aC M _).mono ?_;rintro a f ⟨rfl,d⟩;obtain ⟨i2,i5,⟨i4,g9⟩,i3,u8,q5,u9⟩:=b1.o f d;have j6:=aA d;clear d)
     |go_in)
    have P:=zy (f.setCell ⟨q,ra,none⟩ (.int .i64 (rb:Int))) ⟨w.heap.size+1,0,none⟩ (.bool true) (by rw [q5];rfl);refine tF (v:=.bool true) rfl (by simp [results,zr,go_sem,P]) ?_;obtain ⟨p8,p2⟩:=n2.o f j6.o;have d5:=p8.boxed i.o (g:=w.heap.size+1) (by omega) 0 (.bool true);have d0:=mU (wN (G.o.trans (j6.o.mono l5)) p2) (g:=w.heap.size+1) (by omega) 0 (.bool true);refine ⟨true,F.set ra rb,fL rt ra rb,dJ rt R ra rb,rfl,⟨d5,r.o.join f7.o f8.o e1.o,c3.o.join (λl0=>?_),zp (aG2 f7.o e1.o),d0,wK rt ra rb,lI.var (aW1 x.o y.o) (Or.inl (c3.o.var ?_))⟩⟩
    ·rw [gX u.o,Y.o] at l0;cases l0
    ·rw [<-x.o,gX u.o,Y.o];simp
   ·have Y:=aA (show aM (C,J)=false by simpa [aM] using f0);have q0:C.toList.isEmpty=false:=by simpa using f0
    obtain ⟨q,e3,rfl,⟨s0,d6⟩,c9⟩:=(i.o.below G.o).leader l4;have c6:=(i.o.below G.o).c2;have M:=aA (aC d9 C J);rw [q0] at M;have e7:q<w.heap.size:=(cL i.o.rl q rfl).2;have b1:=aA (λ(f:World) (d:aB w1 f)=>aJ0 (v:=.int .i64 (ra:Int)) (u:=.bool false) d m9 j0 k4 d6 c9 c6 e7);have f5:=aA (λ(f:World) (d:aB w1 f)=>(show JW w B tb g1 g0 q e3 ve vs vm b (F.set rb ra) S ra rb (C,J) (I,U) (f.setCell ⟨q,rb,none⟩ (.int .i64 (ra:Int))) from by
     obtain ⟨_,_,_,_,q3,q4,q6⟩:=b1.o f d;obtain ⟨p7,g7⟩:=((i.o.below G.o).below d).lead rb ra;exact JW.mk' p7 (wN (G.o.trans (d.mono l5)) g7) u.o H.o q3 q4 q6))
    have f4:=aA (r.o.join f8.o f7.o (λa=>e1.o a.symm));have c5:=aA (aG2 f8.o (λa=>e1.o a.symm));have f6:=aA (c3.o.join (u:=rb) (v:=ra) (λ_=>by rw [gX u.o];exact Y.o));clear c9 d6 c6;by_cases f1:I.toList.isEmpty=true
    ·have b2:=aA (show aM (I,U)=true from f1);have Q:=aA (aC d9 I U);rw [f1] at Q;go_wp2_with (first
      |(go_at_call 36;refine (aC M _).mono ?_;clear M;rintro a f ⟨rfl,d⟩;obtain ⟨i2,i5,⟨i4,g9⟩,i3,_⟩:=b1.o f d;have e:=f5.o f d;have l6:=e.x3;have l7:=e.c0;have l8:=e.z0;have l9:=e.z1;have c2:=aA e;clear e d)
      |(go_at_call 36;refine (aC Q _).mono ?_;clear Q;rintro a w3 ⟨rfl,a1⟩;have c:=c2.o.below a1;have d7:=c.x6;have i6:=c.f6;have a3:=aA c;clear c a1)
      |go_in)
     have P:=zy w3 ⟨w.heap.size+1,0,none⟩ (.bool true) (by rw [d7];rfl);refine tF (v:=.bool true) rfl (by simp [results,zr,go_sem,P]) ?_;have d5:=a3.o.tm.boxed i.o (g:=w.heap.size+1) (by omega) 0 (.bool true);have d0:=mU a3.o.far (g:=w.heap.size+1) (by omega) 0 (.bool true);refine ⟨true,F.set rb ra,fL rt rb ra,dJ rt R rb ra,rfl,⟨d5,f4.o,f6.o,zp c5.o,d0,wK rt rb ra,lI.var (aCu y.o x.o) (zl (c3.o.var ?_))⟩⟩;rw [<-y.o,gX H.o,b2.o];simp
    ·have b2:=aA (show aM (I,U)=false by simpa [aM] using f1);have q1:I.toList.isEmpty=false:=by simpa using f1
     have Q:=aA (aC d9 I U);rw [q1] at Q;have p6:=tQ C I J U;have p5:=tO;have e8:=tP (C,J) (I,U);simp only at e8;by_cases b9:(C,J)=(I,U)
     ·rw [fH b9] at e8;have e0:=aA b9;clear b9;go_wp2_with (first
       |(go_at_call 36;refine (aC M _).mono ?_;clear M;rintro a f ⟨rfl,d⟩;obtain ⟨i2,i5,⟨i4,g9⟩,i3,_⟩:=b1.o f d;have e:=f5.o f d;have l6:=e.x3;have l7:=e.c0;have l8:=e.z0;have l9:=e.z1;have c2:=aA e;clear e d)
       |(go_at_call 36;refine (aC Q _).mono ?_;clear Q;rintro a w3 ⟨rfl,a1⟩;have c:=c2.o.below a1;have d7:=c.x6;have i6:=c.f6;have m0:=c.x3;have m1:=c.c0;have m2:=c.y0;have m3:=c.y1;have m4:=c.z0;have m5:=c.z1;have a3:=aA c;clear c a1)
       |go_in)
      go_quiet (fail);have a5:=a3.o.below (aQ (w1:=w3.drewN nq) ⟨_,rfl⟩);generalize w3.drewN nq=w4 at *;have m6:=a5.x3;have q7:=zv _ _ a5.x6;simp only at q7;have q8:=λo2=>aD ((Below.refl w4.heap.size w4).alloc (zx _) o2) m6
      have n4:=aA a5;have j3:=aA (λi9=>aCv tb ra i9);clear a5 d7 i6 m0 m1 m2 m3 m4 m5 a3 p6 p5 e8;go_wp2_with (first
       |(go_at_call 165;refine (aC j3 _).mono ?_;rintro a v3 ⟨rfl,rfl⟩)
       |go_in)
      clear q8 j3 m6;obtain ⟨L,b5⟩ : ∃L,(aJ b).ch ra=L:=⟨_,rfl⟩;obtain ⟨t,f9,rfl,_⟩:=i.o.ends (by omega);obtain ⟨c1,P,o8,r1,r4,r5,r3,v0⟩:=aCw w4 (.int .i64 ((rb:Int)+1)) (.pointer (some ⟨tb,0,none⟩)) (.int .i64 ra) 3 173 3;rw [<-P];clear P;have a0:=n4.o.below o8;have o5:lJ c1 (w4.heap.size+1+1) (w4.heap.size+1) tb t b ra:=lJ.of a0.tm (by omega) r3 r5;have u6:=(zz.1 a0.tm.box).1;have u1:=(cL a0.tm.re t rfl).2;have k9:∀k∈[w4.heap.size+1+1,w4.heap.size+1,tb,t],k<c1.heap.size:=by intro k m;simp at m;rcases m with rfl|rfl|rfl|rfl<;>omega
      refine (wpIn_wide (n:=3)).1 ?_;refine wpIn_rangeFunc_ownG rfl (by omega) (gf:=171) (lb:=#[.pointer (some ⟨w4.heap.size+1+1,0,none⟩),.pointer (some ⟨w4.heap.size+1,0,none⟩)]) rfl trivial (enters_of Tryz.func171 (by kernel_rfl) rfl)
       (encs:=λl:nQ L=>#[.int .i64 (l.1:Nat)]) (Kp:=iK [w4.heap.size+1+1,w4.heap.size+1,tb,t]) (S:=λs3=>s3.map (λl=>l.1)=L) (Sp:=λn=>n.map (λl=>l.1) <+: L) (N:=L.length) (w0:=c1)
       (λf2 o0 o1 W o6 e t3 o7 h0=>by
        have:=aD4 2 f2 (w4.heap.size+1+1) (w4.heap.size+1) tb t b ra (C,J) L b5 (by omega) g3 p1 u.o o0 o1 _ e o7 W (o5.kept (aCx o6 k9)) h0;simpa using this)
       (λa4 k=>a4.trans k) (iK.put k9) (Below.refl _ _) (λ_=>rfl)
       (λn W=>wL w B tb q e3 (.slice (some ⟨g1,0,none⟩) b.length g0) (.slice (some ⟨t,0,none⟩) b.length f9) vs vm b (F.set rb ra) S rt (fL rt rb ra) z D ra rb w4.heap.size c1.heap.size L (n.map λl=>l.1) W)
       (λe2 n W=>zJ w B tb q e3 (.slice (some ⟨g1,0,none⟩) b.length g0) (.slice (some ⟨t,0,none⟩) b.length f9) vs vm b (F.set rb ra) S rt (fL rt rb ra) z D L e2 (n.map λl=>l.1) W)
       (wL.own (by omega)) (λe2=>zJ.own (by omega) e2) ?h0 ?a1 ?assign ?body ?done ?stop
      case h0=>
       have c0:=aCu (a:=z) (b:=D) y.o x.o;refine ⟨zx _,⟨F.set rb ra,fL rt rb ra,dJ rt R rb ra,a0.tm,f4.o,f6.o,zx _,λ_ _ a=>a,λ_ V Z A=>⟨c0.sound A.sound (λ_ _=>Cl.symm) (λ_ _ _=>Cl.trans) A.ab,?_⟩⟩,a0.far,a0.x3,a0.x6,a0.f6,?_,r4⟩
       ·refine A.mod.name (qF rt) c0 (uA b) ?_ ?_ ?_ ?_ ?_
        ·show rt z=rt ra;rw [x.o,r.o.rt_rt]
        ·show rt D=rt rb;rw [y.o,r.o.rt_rt]
        ·rw [gX u.o];exact Y.o
        ·rw [gX H.o];exact b2.o
        ·rw [pG u.o,pG H.o];exact e0.o
       ·rw [r1];simp [mC]
      case assign=>
       intro f2 l W K hK;gi_wp2
       exact hK
      case body=>
       rintro f2 n l W j u2;obtain ⟨a2,b0,O,E,b6,b7,b8,a6,e9⟩:=j.st;have q2:l.1<b.length:=aCz g3 u.o l.1 (by rw [b5];exact l.2);have t2:L.length=aX (C,J):=by rw [<-b5];exact aIx u.o
       have u7:aX (I,U)=aX (C,J):=by rw [e0.o]
       have d4:(n.map λl=>l.1).length=n.length:=by simp
       have d2:=aIy g3 H.o (k:=n.length) (by omega);have j2:=n9.o a2 b0 O l.1 (mC b rb n.length) W (by have:=c5.o;have:=n6.o;omega) E b6 b7 q2 d2.1;have v4:=j.x3;have r2:=j.o0;rw [d4] at r2;have t9:=j.far.size;have p9:=(zz.1 E.box).1;have p3:=(cL E.re t rfl).2;have t8:w4.heap.size+1+1<W.heap.size:=by have:=j.big;omega
       have g8:∀k∈[w4.heap.size+1+1,w4.heap.size+1,tb,t],k<W.heap.size/\k≠q:=by
        intro k m;simp at m;have b3:tb≠q:=λa=>dZ E.rl E.box (by decide) (by simp [zn,a])
        have b4:t≠q:=λa=>E.ab (by simp [zn,a])
        rcases m with rfl|rfl|rfl|rfl
        ·exact ⟨by omega,by omega⟩
        ·exact ⟨by omega,by omega⟩
        ·exact ⟨p9,b3⟩
        ·exact ⟨p3,b4⟩
       have n7:=aA (λ(W':World) (g7:W.grownBy W' (some q))=>(show zK w W tb q t f9 w4.heap.size b (mC b rb n.length) [w4.heap.size+1+1,w4.heap.size+1,tb,t] c1.heap.size W' from by have:=zK.make j E g7 (by omega) e7 (by rw [d4];exact d2.1) g8 c1.heap.size;rw [d4] at this;exact this));have j9:=aA d4;have n5:=aA (λk m=>(g8 k m).1);have n3:=aA j;have k1:=aA e9;have j7:=aA a6;have k0:=aA b8;have n8:=aA d2;have t4:mC b rb n.length<b.length:=d2.1;have n0:=aA j2;generalize hoe:mC b rb n.length=oe at *;have j8:=aA hoe;clear j e9 a6 b8 d2 j2 E b6 b7 g8 d4 hoe;gi_wp2_with (first
        |(refine ⟨trivial,?_⟩;gi_at_call 148;refine (CallsIn.inRound f2 (callsIn_wide.2 (aC n0))).mono ?_;rintro a W' ⟨a9,j4,m8,k2,rfl,h9⟩;have T:=n7.o W' h9.far;have s:=aA h9;have r6:=T.x3;have i8:=T.x6;have r7:=T.f6;have m7:=T.o0;have r8:=T.of;have v1:=T.c1;have v2:=T.en;have c4:=aA T;clear T h9)
        |fail)
       ·have h4:a9=false:=by simpa using ‹(!a9)=true›
        refine ⟨c4.o.kf.trans (rX _ i8 _),⟨rfl,⟨j4,m8,k2,s.o.tm.boxed i.o (by omega) 0 _,s.o.forest,s.o.named,zu s.o.fewer k0.o,λa7 a8 a=>s.o.mono _ _ (j7.o a7 a8 a)⟩,λd3 V Z A=>?_,mU c4.o.far (by omega) 0 _,zy _ _ _ (by rw [i8];rfl)⟩⟩;obtain ⟨h5,h6⟩:=aIz d3;obtain ⟨i1,d1⟩:=k1.o h5 V Z A;rw [j9.o] at d1;refine (lI.part A (by rw [x.o,r.o.rt_rt]) (by rw [y.o,r.o.rt_rt]) (by rw [gX u.o];exact Y.o) (by rw [gX H.o];exact b2.o) i1 d1 (by rw [b5];exact h6) ?_ s.o.sem).2 h4;rw [aCy H.o (by omega),j8.o]
       ·have h4:a9=true:=by simpa using ‹(!a9)=false›
        have u3:zm.follows .mixedOrders=true:=by kernel_rfl
        have t5:(oe:Int)<(b.length:Int):=by omega
        have t7:(0:Int)<=(oe:Int):=Int.natCast_nonneg _;have t6:((oe:Int)).toNat=oe:=Int.toNat_natCast _;gi_region_with_o (fail)
        all_goals
         gi_wp2
         have e6:Below (W'.setCell ⟨w4.heap.size,0,none⟩ (.int .i64 ((oe:Int)+(aL (b.drop oe) 1:Nat)))).heap.size (W'.setCell ⟨w4.heap.size,0,none⟩ (.int .i64 ((oe:Int)+(aL (b.drop oe) 1:Nat)))) (W'.setCell ⟨w4.heap.size,0,none⟩ (.int .i64 ((oe:Int)+(aL (b.drop oe) 1:Nat)))).drew:=aQ ⟨1,rfl⟩;have p4:∀k∈[w4.heap.size+1+1,w4.heap.size+1,tb,t],k≠w4.heap.size:=by have b3:=(zz.1 i.o.box).1;have b4:=(cL i.o.re t rfl).2;intro k m;simp at m;rcases m with rfl|rfl|rfl|rfl<;>omega
         refine ⟨c4.o.kf.trans ((rX _ m7 _).trans ⟨e6.size,λk o _ m _=>(e6.block k (zz.1 m).1).trans m⟩),c4.o.kp.trans (λk m=>(cJ W' ⟨w4.heap.size,0,none⟩ _).block k ?_ (by simpa using p4 k m)),⟨?_,⟨j4,m8,k2,(s.o.tm.boxed i.o (g:=w4.heap.size) (by omega) 0 _).below e6,s.o.forest,s.o.named,zu s.o.fewer k0.o,λa7 a8 a=>s.o.mono _ _ (j7.o a7 a8 a),λd3 V Z A=>?_⟩,(mU c4.o.far (by omega) 0 _).trans (fX e6),gE r6 (by omega),gE i8 (by omega),?_,?_,?_⟩⟩
         ·exact zo (n5.o k m) s.o.far.size
         ·have b3:=n3.o.big;have b4:=s.o.far.size;have o3:=(cJ W' ⟨w4.heap.size,0,none⟩ (.int .i64 ((oe:Int)+(aL (b.drop oe) 1:Nat)))).size;exact zu b3 (zu b4 o3)
         ·obtain ⟨h5,h6⟩:=aIz d3;obtain ⟨i1,d1⟩:=k1.o h5 V Z A;rw [j9.o] at d1;have:=(lI.part A (by rw [x.o,r.o.rt_rt]) (by rw [y.o,r.o.rt_rt]) (by rw [gX u.o];exact Y.o) (by rw [gX H.o];exact b2.o) i1 d1 (by rw [b5];exact h6) (by rw [aCy H.o (by omega),j8.o]) s.o.sem).1 h4;simpa using this
         ·show (W'.setCell _ _).frozen? _=false;rw [zq];exact r7
         ·show (W'.setCell _ _).cell? _=_;rw [zy W' ⟨w4.heap.size,0,none⟩ _ (by rw [m7];rfl)];have:=n8.o.2;simp only [List.length_map,List.length_append,zj,List.length_nil];rw [show n.length+(0+1)=n.length+1 by omega,this];simp
         ·show (W'.setCell _ _).frozen? _=false;rw [zq];exact r8
      case done=>
       rintro X v5 W o4 e4 j hK;obtain ⟨a2,b0,O,E,b6,b7,b8,a6,e9⟩:=j.st;have s2:=j.x6;have t0:=j.f6;go_wp2;have g2:=(KeepsOthers.setCell W ⟨w.heap.size+1,0,none⟩ (.bool true)).same X _ hK rfl;refine ⟨by simp,.inl ⟨_,_,rfl,run_takeDeferred g2,?_⟩⟩;have g6:=cell_kept (zy W ⟨w.heap.size+1,0,none⟩ (.bool true) (by rw [s2];rfl)) (grownBy_putObj' _ X (.deferred none)) (λd8 a=>by cases a;exact ⟨_,g2,rfl⟩);refine ⟨.bool true,?_,?_⟩
       ·simp [results,zr,go_sem,g6]
       ·refine ⟨true,a2,b0,O,rfl,⟨(E.boxed i.o (g:=w.heap.size+1) (by omega) 0 (.bool true)).others (grownBy_putObj' _ X (.deferred none)) (λd8 a=>by cases a;exact ⟨_,g2,rfl⟩),b6,b7,zu b8 (zp c5.o),nO (mU j.far (g:=w.heap.size+1) (by omega) 0 (.bool true)) (grownBy_putObj' _ X (.deferred none)) (λd8 a=>by cases a;omega),λa7 a8 a=>a6 _ _ (wK rt rb ra a7 a8 a),λV Z i0 g4 A=>⟨λ_=>?_,λa=>by cases a⟩⟩⟩;obtain ⟨b3,b4⟩:=e9 (by rw [e4];exact List.prefix_refl _) V Z ⟨i0,g4,A⟩;exact ⟨a6 z D ((aCu (a:=z) (b:=D) y.o x.o).ab (qF rt)),b3,b4.allParts (by rw [b5];have:=congrArg List.length e4;omega)⟩
      case stop=>
       rintro X e2 n W o4 e4 j hK;have o9:=j.ret;subst o9;refine wpIn_wide.2 ?_;go_wp2;refine ⟨by simp,.inl ⟨_,_,rfl,run_takeDeferred hK,?_⟩⟩;have g6:=cell_kept j.x6 (grownBy_putObj' _ X (.deferred none)) (λd8 a=>by cases a;exact ⟨_,hK,rfl⟩);refine ⟨.bool false,?_,?_⟩
       ·simp [results,zr,go_sem,g6]
       ·obtain ⟨a2,b0,O,E,b6,b7,b8,a6⟩:=j.st;exact ⟨false,a2,b0,O,rfl,⟨E.others (grownBy_putObj' _ X (.deferred none)) (λd8 a=>by cases a;exact ⟨_,hK,rfl⟩),b6,b7,zu b8 (zp c5.o),nO j.far (grownBy_putObj' _ X (.deferred none)) (λd8 a=>by cases a;omega),λa7 a8 a=>a6 _ _ (wK rt rb ra a7 a8 a),λV Z i0 g4 A=>⟨λa=>(by cases a),λ_=>j.no e4 V Z ⟨i0,g4,A⟩⟩⟩⟩
     ·rw [gH b9] at e8;have e0:=aA b9;clear b9;go_wp2_with (first
       |(go_at_call 36;refine (aC M _).mono ?_;clear M;rintro a f ⟨rfl,d⟩;obtain ⟨i2,i5,⟨i4,g9⟩,i3,_⟩:=b1.o f d;have e:=f5.o f d;have l6:=e.x3;have l7:=e.c0;have l8:=e.z0;have l9:=e.z1;have c2:=aA e;clear e d)
       |(go_at_call 36;refine (aC Q _).mono ?_;clear Q;rintro a w3 ⟨rfl,a1⟩;have c:=c2.o.below a1;have d7:=c.x6;have i6:=c.f6;have m0:=c.x3;have m1:=c.c0;have m2:=c.y0;have m3:=c.y1;have m4:=c.z0;have m5:=c.z1;have a3:=aA c;clear c a1)
       |go_in)
      go_quiet (fail);go_wp2;have P:=zy (w3.drewN nq) ⟨w.heap.size+1,0,none⟩ (.bool false) (by simp [d7]);refine tF (v:=.bool false) rfl (by simp [results,zr,go_sem,P]) ?_;have a5:=a3.o.below (aQ (w1:=w3.drewN nq) ⟨_,rfl⟩);have d5:=a5.tm.boxed i.o (g:=w.heap.size+1) (by omega) 0 (.bool false);have d0:=mU a5.far (g:=w.heap.size+1) (by omega) 0 (.bool false);refine ⟨false,F.set rb ra,fL rt rb ra,dJ rt R rb ra,rfl,⟨d5,f4.o,f6.o,zp c5.o,d0,wK rt rb ra,lI.clash r.o.rt_rt ?_ ?_ ?_⟩⟩
      ·rw [<-x.o,gX u.o];exact Y.o
      ·rw [<-y.o,gX H.o];exact b2.o
      ·rw [<-x.o,<-y.o,pG u.o,pG H.o];exact e0.o
end
inductive fC(G:Gr)(E:Nat->Nat->Prop):Nat->Nat->Prop
 |step {x j p y:Nat}:E x j->G.named j->p∈G.ch j->E p y->fC G E x y
 |trans {x y z:Nat}:fC G E x y->fC G E y z->fC G E x z
section
variable {G:Gr}{E:Nat->Nat->Prop}
theorem fC.left(k:kA G E){g e i:Nat}(j:fC G E g i)(f:E e g):fC G E e i:=by
 induction j generalizing e with
 |step a b c d=>exact fC.step (k.trans _ _ _ f a) b c d
 |trans _ h2 ih _=>exact fC.trans (ih f) h2
theorem fC.right(k:kA G E){g i e:Nat}(j:fC G E g i)(f:E i e):fC G E g e:=by
 induction j generalizing e with
 |step a b c d=>exact fC.step a b c (k.trans _ _ _ d f)
 |trans h1 _ _ ih=>exact fC.trans h1 (ih f)
theorem fC.first(f:kA G E){x y:Nat}(e:fC G E x y):∃j p,E x j/\G.named j/\p∈G.ch j/\(E p y\/fC G E p y):=by
 induction e with
 |step a b c d=>exact ⟨_,_,a,b,c,Or.inl d⟩
 |@trans x y z h1 h2 ih _=>
  obtain ⟨j,p,a,b,c,d⟩:=ih;refine ⟨j,p,a,b,c,zl ?_⟩;rcases d with d|d
  ·exact h2.left f d
  ·exact fC.trans d h2
theorem bY.irrefl(a:kA G E){b:Nat}(i:bY G E b):¬fC G E b b:=by
 induction i with
 |mk b _ ih=>
  intro g;obtain ⟨j,p,c,e,f,d⟩:=g.first a
  refine ih j c e p f ?_;rcases d with d|d
  ·exact (g.left a d).right a (a.symm _ _ d)
  ·exact fC.trans d (fC.step c e f (a.refl p))
theorem aJ1(f:eA G E λ_ _=>False)(a:sX E):kA G E/\lE G E:=
 ⟨⟨a.refl,a.symm,a.trans,λb c j p k hij d e g i=>((f b c hij d e).2 j p k g i).le a.refl a.symm a.trans λb c hij=>by
  rcases hij with hij|hij
  ·exact hij
  ·exact hij.elim⟩,λb c hij d e=>(f b c hij d e).1⟩
theorem aW5(a:kA G E)(i:lE G E)(g:G.Arity){d c:Nat}(s:E d c)(r:∀p∈G.ch c,bY G E p)(l:∀b,E d b->G.named b->G.named c):bY G E d:=by refine ⟨_,λb e f p m=>?_⟩;have k:=l b e f;have j:=aC7 a i g (a.trans _ _ _ (a.symm _ _ s) e) k f;obtain ⟨t,n,q⟩:=j.mem_right m;exact (r t n).same a q
theorem aW6{b:Nat->Nat}{c:List Nat}{a:List (List Nd)}(d:aO (λf e=>aU G E b [f] e) c a):aU G E b c a.flatten:=by
 induction d with
 |nil=>exact aU.nil
 |cons h1 _ ih=>exact h1.append ih
end
def qO(d:List Nd)(rt:Nat->Nat)(S:List Int):Prop:=∀(p:Nat) (a:Int),S[p]?=some a->a=0\/a=-1\/(bY (aJ d) (λb c=>rt b=rt c) p/\∃e,aU (aJ d) (λb c=>rt b=rt c) rt [p] e/\a=(min 501 e.length:Nat))
def kQ(S:List Int):Nat:=S.countP λa=>a==0
theorem aW7(S:List Int):∀(p:Nat) (v:Int),S[p]?=some 0->v≠0->kQ (S.set p v)<kQ S:=by
 induction S with
 |nil=>intro p v a;simp at a
 |cons x r ih=>
  intro p v a b;unfold kQ at ih ⊢;cases p with
  |zero=>
   simp at a;subst a;simp [b]
  |succ p=>
   have:=ih p v (by simpa using a) b;rw [zk,zs,zs];omega
theorem aW8(S:List Int):∀(p:Nat) (a:Int),a≠0->kQ (S.set p a)<=kQ S:=by
 induction S with
 |nil=>intro p a _;simp [kQ]
 |cons x r ih=>
  intro p a b;unfold kQ at ih ⊢;cases p with
  |zero=>
   rw [List.set_cons_zero,zs,zs];simp [b]
  |succ p=>
   have:=ih p a b;rw [zk,zs,zs];omega
theorem bH.sized{e:List Nd}{b f:Nat}(a:bH w B tb vn ve vl (.slice (some ⟨b,0,none⟩) e.length f) vm e F S)(p:Nat)(d:Int):bH (w.setCell ⟨b,p,none⟩ (.int .i64 d)) B tb vn ve vl (.slice (some ⟨b,0,none⟩) e.length f) vm e F (S.set p d)/\w.grownBy (w.setCell ⟨b,p,none⟩ (.int .i64 d)) (some b):=by
 have c:=cJ w ⟨b,p,none⟩ (.int .i64 d);refine ⟨⟨?_,a.high,dT a.rn c (fQ a.rn a.rs (by decide)),dT a.re c (zl a.ac),dT a.rl c (zl a.bc),?_,a.lf,by rw [List.length_set];exact a.ls,a.few,a.short,a.ab,a.ac,a.bc⟩,c⟩
 ·rw [c.block tb (zz.1 a.box).1 (λi=>dZ a.rs a.box (by decide) i.symm),a.box]
 ·have g:=(a.rs.stored p (.int .i64 d)).1;rw [<-List.map_set] at g;exact g
theorem bH.size{L:List Nd}(b:bH w B tb vn ve vl vs vm L F S){p:Nat}(l:p<L.length):∃d cs n,vs=.slice (some ⟨d,0,none⟩) L.length cs/\S[p]?=some n/\w.cell? ⟨d,p,none⟩=some (.int .i64 n)/\w.frozen? ⟨d,p,none⟩=false:=by
 obtain ⟨a,c,f,j⟩:=aQc b.rs b.ls;have k:=b.ls;have e:p<S.length:=by omega
 obtain ⟨g,rfl,i⟩:=j p e;subst f;exact ⟨g,c,S[p],rfl,zw e,i,b.rs.frozenAt p⟩
theorem aJ2(w:World)(a b e:Value)(c d f:TypeId):∃W,W=((w.alloc (.cells #[a] c)).alloc (.cells #[b] d)).alloc (.cells #[e] f)/\aB w W/\W.cell? ⟨w.heap.size,0,none⟩=some a/\W.cell? ⟨w.heap.size+1,0,none⟩=some b/\W.cell? ⟨w.heap.size+1+1,0,none⟩=some e/\W.frozen? ⟨w.heap.size+1,0,none⟩=false/\W.frozen? ⟨w.heap.size+1+1,0,none⟩=false/\W.heap.size=w.heap.size+3:=by
 obtain ⟨W,g,i,j,_,k,l,m⟩:=aCw w a b e c d f;refine ⟨W,g,i,j,k,l,?_,?_,m⟩
 ·subst g;have n:Below ((w.alloc (.cells #[a] c)).alloc (.cells #[b] d)).heap.size ((w.alloc (.cells #[a] c)).alloc (.cells #[b] d)) (((w.alloc (.cells #[a] c)).alloc (.cells #[b] d)).alloc (.cells #[e] f)):=(Below.refl _ _).alloc (zx _) _;rw [n.frozen (p:=⟨w.heap.size+1,0,none⟩) (by simp)];have:=(qM (w.alloc (.cells #[a] c)) b d).2;rw [zt] at this;exact this
 ·subst g;have:=(qM ((w.alloc (.cells #[a] c)).alloc (.cells #[b] d)) e f).2;rw [zt,zt] at this;exact this
structure aW9(w:World)(B tb:Nat)(vn ve vl vs vm:Value)(L:List Nd)(F:List Nat)(S:List Int)(rt:Nat->Nat)(a:Nat)(n:Int)(b:Bool)(w':World)(S':List Int):Prop where
 tm:bH w' B tb vn ve vl vs vm L F S'
 far:w.grownBy w' vs.ownBlock
 few:kQ S'<=kQ S
 yes:b=true->qO L rt S'/\(∀p:Nat,S'[p]?=some (-1)↔S[p]?=some (-1))/\bY (aJ L) (λi j=>rt i=rt j) a/\∃l,aU (aJ L) (λi j=>rt i=rt j) rt [a] l/\n=(min 501 l.length:Nat)
 no:b=false->n=0/\¬bY (aJ L) (λi j=>rt i=rt j) a
structure wO(w:World)(B tb gs cs:Nat)(vn ve vl vm:Value)(L:List Nd)(F:List Nat)(S0:List Int)(rt:Nat->Nat)(cb N0:Nat)(pre:List Nat)(W:World):Prop where
 big:N0<=W.heap.size
 st:∃S',bH W B tb vn ve vl (.slice (some ⟨gs,0,none⟩) L.length cs) vm L F S'/\kQ S'<=kQ S0/\qO L rt S'/\(∀p:Nat,S'[p]?=some (-1)↔S0[p]?=some (-1))
 pts:∃ls,aO (λx l=>aU (aJ L) (λi j=>rt i=rt j) rt [x] l) pre ls/\(∀x∈pre,bY (aJ L) (λi j=>rt i=rt j) x)/\W.cell? ⟨cb,0,none⟩=some (.int .i64 ((min 501 (1+(ls.map List.length).sum):Nat):Int))
 far:w.grownBy W (some gs)
 x0:W.cell? ⟨w.heap.size,0,none⟩=some (.pointer (some ⟨tb,0,none⟩))
 x1:W.cell? ⟨w.heap.size+1,0,none⟩=some (.int .i64 0)
 x2:W.cell? ⟨w.heap.size+1+1,0,none⟩=some (.bool false)
 f1:W.frozen? ⟨w.heap.size+1,0,none⟩=false
 f2:W.frozen? ⟨w.heap.size+1+1,0,none⟩=false
 cf:W.frozen? ⟨cb,0,none⟩=false
structure zL(w:World)(B tb gs cs:Nat)(vn ve vl vm:Value)(L:List Nd)(F:List Nat)(S0:List Int)(rt:Nat->Nat)(c:Code)(pre:List Nat)(W:World):Prop where
 ret:c=.ret
 st:∃S',bH W B tb vn ve vl (.slice (some ⟨gs,0,none⟩) L.length cs) vm L F S'/\kQ S'<=kQ S0
 no:∃x∈pre,¬bY (aJ L) (λi j=>rt i=rt j) x
 far:w.grownBy W (some gs)
 x1:W.cell? ⟨w.heap.size+1,0,none⟩=some (.int .i64 0)
 x2:W.cell? ⟨w.heap.size+1+1,0,none⟩=some (.bool false)
section
variable {w:World}{B tb gs cs:Nat}{vn ve vl vm:Value}{L:List Nd}{F:List Nat}{S0:List Int}{rt:Nat->Nat}{cb N0 N:Nat}{C:List Nat}
theorem wO.own(s:w.heap.size<=N):OwnFrom N (λ(pre:List (nQ C)) W=>wO w B tb gs cs vn ve vl vm L F S0 rt cb N0 (pre.map λr=>r.1) W):=by
 intro pre W W' q a b g;have c:∀d,q=some d->∃o:Obj,W.heap[d]?=some o/\o.isCells=false:=λd e=>(g d e).2
 obtain ⟨i,j,k⟩:=a.st;obtain ⟨n,l,m,f⟩:=a.pts;exact ⟨zu a.big b.size,⟨i,j.others b c,k⟩,⟨n,l,m,cell_kept f b c⟩,nO a.far b (λd e=>by have:=(g d e).1;omega),cell_kept a.x0 b c,cell_kept a.x1 b c,cell_kept a.x2 b c,(frozen_kept a.x1 b c).trans a.f1,(frozen_kept a.x2 b c).trans a.f2,(frozen_kept f b c).trans a.cf⟩
theorem zL.own(n:w.heap.size<=N)(i:Code):OwnFrom N (λ(pre:List (nQ C)) W=>zL w B tb gs cs vn ve vl vm L F S0 rt i (pre.map λm=>m.1) W):=by
 intro pre W W' l a c f;have e:∀b,l=some b->∃o:Obj,W.heap[b]?=some o/\o.isCells=false:=λb d=>(f b d).2
 obtain ⟨g,j,k⟩:=a.st;exact ⟨a.ret,⟨g,j.others c e,k⟩,a.no,nO a.far c (λb d=>by have:=(f b d).1;omega),cell_kept a.x1 c e,cell_kept a.x2 c e⟩
end
